import PyProof.Rows.All
import Wide.All
import OpenK.AllK
import Wide.FinOn
import Lean
import PyProof.EqAt
import PyProof.EqKinds
import PyProof.TupleCall
import PySem.Challenge.RW_rayround_k17_rays_are_all_that_no_sum_is
set_option maxRecDepth 100000
set_option linter.all false
set_option Elab.async false
set_option maxHeartbeats 4000000
noncomputable section
set_option bootstrap.genMatcherCode false
set_option genSizeOf false
set_option genSizeOfSpec false
set_option compiler.extract_closed false
section
namespace DQ
open PySem PySem.Spec PyProof.Rows
noncomputable def Zai (A:Around) (h:Heap):Prop:=A.handled=none\/ ∃ ea oe vs,A.handled=some (.ref ea)/\h.get? ea=some oe/\oe.data= .fields vs/\vs[2]?=some .none
theorem Zai.keeps {A:Around} {h h':Heap} (q:Zai A h) (k: ∀ b o,h.get? b=some o->h'.get? b=some o):Zai A h':=by
 rcases q with q | ⟨ea,oe,vs,e1,e2,e3,e4⟩
 ·exact .inl q
 ·exact .inr ⟨ea,oe,vs,e1,k _ _ e2,e3,e4⟩
theorem Zbt:entryFor table "proto.unchain"=some Builtin.«proto.unchain» :=entryFor_of_fast (by kernel_rfl)
section
variable {prog:Program} {w:World} {A:Around} {E:Value->Shared->Prop} {s:Shared}
theorem Zct {α:Type} {Q:α->Shared->Prop} {e:Addr} {oe:Obj} {vs:Array Value} (q:Zai A s.heap) (he:s.heap.get? e=some oe) (hd:oe.data= .fields vs) (hz:2 < vs.size)
  (h: ∀ h',(∀ b o,b≠e->s.heap.get? b=some o->h'.get? b=some o)->(∃ o,h'.get? e=some o/\o.cls=oe.cls)->E (.ref e) { s with heap:=h' }):wpAny (model prog w) A (raiseNew (.ref e):Sem α) Q E s:=by
 have same:E (.ref e) s:=h s.heap (fun _ _ _ x=>x) ⟨oe,he,rfl⟩
 unfold raiseNew
 refine wpAny_bind (wpAny_handled ?_)
 rcases q with q | ⟨ea,oa,ws,q1,q2,q3,q4⟩
 ·rw[q]
  exact wpAny_bind (wpAny_pure (wpAny_throw same))
 ·rw[q1]
  dsimp only
  by_cases c:(Value.ref ea != Value.ref e)=true
  ·rw[if_pos c]
   refine wpAny_bind (wpAny_holding (wpAny_runValue (codeAny_builtin Zbt ?_)))
   unfold Builtin.«proto.unchain»
   refine wpAny_bind (wpAny_field q2 q3 q4 ?_)
   refine wpAny_bind (wpAny_pure ?_)
   have sf:wpAny (model prog w) A (setField (.ref e) 2 (.ref ea)) (fun _ s'=>wpAny (model prog w) A (throw (Value.ref e):Sem α) Q E s') E s:=by
    refine wpAny_setField he hd hz (wpAny_throw (h _ (fun b o hb x=> ?_) ⟨_,Heap.get?_update_self _ he (Obj.isFreed_of_fields (Obj.data_mapFields hd _)),Obj.cls_mapFields _ _⟩))
    rw[Heap.get?_update_other _ _ (Ne.symm hb)]
    exact x
   exact wpAny_pure (wpAny_bind sf)
  ·rw[if_neg c]
   exact wpAny_throw same
theorem Zaz {α:Type} {Q:α->Shared->Prop} (q:Zai A s.heap)
  (h: ∀ h' e,(∀ b o,s.heap.get? b=some o->h'.get? b=some o)->(∃ o,h'.get? e=some o/\o.cls= .type "StopIteration")->E (.ref e) { s with heap:=h' }):
  wpAny (model prog w) A (newExc (.type "StopIteration") [] >>= fun x=>(raiseNew x:Sem α)) Q E s:=by
 refine wpAny_bind ?_
 simp only[newExc,newTuple]
 refine wpAny_bind (wpAny_newObj_type ?_ (by size_fits))
 refine wpAny_bind (m:=firstArgMember _ _) (wpAny_of_eq (a:=Value.none) (by first | rfl | (simp only[firstArgMember];rfl)) ?_)
 refine wpAny_newObj_type ?_ (by size_fits)
 refine Zct (q.keeps fun b o x=>Heap.get?_push_of_some _ (Heap.get?_push_of_some _ x)) (Heap.get?_push_size _ rfl) rfl (by rw[Array.size_append];exact Nat.lt_of_lt_of_le (by decide:2 < 6) (Nat.le_add_right _ _)) fun h' k he=> ?_
 exact h h' _ (fun b o x=>k b o (Nat.ne_of_lt (Nat.lt_of_lt_of_le (Heap.lt_size x) (by rw[Heap.size_push];exact Nat.le_succ _))) (Heap.get?_push_of_some _ (Heap.get?_push_of_some _ x))) he
theorem ZgC {e:Addr} {Q:Bool->Shared->Prop} (he: ∃ o,s.heap.get? e=some o/\o.cls= .type "StopIteration") (h:Q true s):wpAny (model prog w) A (isInstance (.ref e) (.type "StopIteration")) Q E s:=
 let ⟨o,e1,e2⟩:=he
 wpAny_isInstance (T:="StopIteration") (b:=true) ⟨o,e1,e2⟩ isSubtype_stop h
theorem Zai.in1 {h:Heap} (q:Zai A h):Zai A.in1 h:=q
noncomputable def ZcO (it:Addr) (s:Shared) (e:Value) (s':Shared):Prop:= ∃ a,e= .ref a/\(∃ o,s'.heap.get? a=some o/\o.cls= .type "StopIteration")/\ ∃ h',Heap.ExtBut it s.heap h'/\s'={ s with heap:=h' }
theorem ZcP {it:Addr} {T id:String} {b:Builtin} {Q:Option Value->Shared->Prop} (hT:s.TypeIs (.ref it) T) (sl:Slot T (Str.ofString "__next__") id) (hb:entryFor table id=some b) (ha:argsOk id ⟨[.ref it],[]⟩)
  (h:wpAny (model prog w) A.in1 (b ⟨[.ref it],[]⟩) (fun _ _=>False) (ZcO it s) s) (hQ: ∀ h',Heap.ExtBut it s.heap h'->Q none { s with heap:=h' }):wpAny (model prog w) A (pyNext (.ref it)) Q E s:=by
 unfold pyNext
 refine wpAny_bind (wpAny_attempt (wpAny_callSpecial?_slot (name:=Str.ofString "__next__") hT sl (wpAny_call_entry sl hT hb (wpAny_mono h (fun _ _ z=>z.elim) fun e s' z=> ?_) ha)))
 obtain ⟨a,rfl,ho,h',eb,rfl⟩:=z
 exact wpAny_bind (ZgC ho (wpAny_pure (hQ h' eb)))
theorem ZdG {it:Addr} {x left step:Int} {Q:Option Value->Shared->Prop} (q:Zai A s.heap) (hit:IsRangeIter s.heap it x left step) (hl:left<=0)
  (hQ: ∀ h',Heap.ExtBut it s.heap h'->Q none { s with heap:=h' }):wpAny (model prog w) A (pyNext (.ref it)) Q E s:=by
 refine ZcP ⟨_,hit,rfl⟩ F.slot_range_iterator_next F.entry_range_iterator_next (F.args_range_iterator_next_1 _) ?_ hQ
 refine wpAny_bind (m:=field (.ref it) 0) (wpAny_field hit rfl (x:=rawInt x) rfl ?_)
 refine wpAny_bind (m:=field (.ref it) 1) (wpAny_field hit rfl (x:=rawInt left) rfl ?_)
 refine wpAny_bind (m:=field (.ref it) 2) (wpAny_field hit rfl (x:=rawInt step) rfl ?_)
 dsimp only[rawInt]
 rw[if_pos hl]
 refine wpAny_bind (wpAny_rule (wpAny_bind ?_))
 exact Zaz q.in1 fun h' e k ho=>⟨e,rfl,ho,h',fun b o _ z=>k b o z,rfl⟩
theorem Zij {it l:Addr} {i:Nat} {o ol:Obj} {items:Array Value} {n:Nat} (q:Zai A s.heap) (ho:s.heap.get? it=some o) (hd:o.data= .fields #[.ref l,.int i 0]) (hol:s.heap.get? l=some ol) (hdl:ol.data= .seq items n) (hx:items[i]?=none):
  wpAny (model prog w) A.in1 (Builtin.«list_iterator.__next__» ⟨[.ref it],[]⟩) (fun _ _=>False) (ZcO it s) s:=by
 refine wpAny_bind (m:=field (.ref it) 0) (wpAny_field ho hd (x:= .ref l) rfl ?_)
 dsimp only
 rw[if_neg (show ¬ ((Value.ref l == Value.none)=true) from Bool.false_ne_true)]
 refine wpAny_bind (m:=field (.ref it) 1) (wpAny_field ho hd (x:= .int i 0) rfl ?_)
 refine wpAny_bind (m:=seqItems? (.ref l)) (wpAny_seqItems hol hdl ?_)
 simp only[Int.toNat_natCast,hx]
 refine wpAny_bind (wpAny_rule (wpAny_bind (wpAny_setField ho hd (by simp) ?_)))
 have q2:Zai A.in1 (s.heap.update it (Obj.mapFields (·.setIfInBounds 0 Value.none))):=by
  rcases q with q | ⟨ea,oe,vs,e1,e2,e3,e4⟩
  ·exact .inl q
  ·refine .inr ⟨ea,oe,vs,e1,?_,e3,e4⟩
   rw[Heap.get?_update_other _ _ (fun z=> ?_)]
   ·exact e2
   ·rw[<- z,ho] at e2
    cases e2
    rw[hd] at e3
    cases e3
    simp at e4
 refine Zaz q2 fun h' e k ho=>⟨e,rfl,ho,h',fun b o hb z=>k b o ?_,rfl⟩
 rw[Heap.get?_update_other _ _ (Ne.symm hb)]
 exact z
theorem Zik {it l:Addr} {i:Nat} {o ol:Obj} {items:Array Value} {n:Nat} (q:Zai A s.heap) (ho:s.heap.get? it=some o) (hd:o.data= .fields #[.ref l,.int i 0]) (hol:s.heap.get? l=some ol) (hdl:ol.data= .seq items n) (hx:items[i]?=none):
  wpAny (model prog w) A.in1 (Builtin.«tuple_iterator.__next__» ⟨[.ref it],[]⟩) (fun _ _=>False) (ZcO it s) s:=by
 refine wpAny_bind (m:=field (.ref it) 0) (wpAny_field ho hd (x:= .ref l) rfl ?_)
 dsimp only
 rw[if_neg (show ¬ ((Value.ref l == Value.none)=true) from Bool.false_ne_true)]
 refine wpAny_bind (m:=field (.ref it) 1) (wpAny_field ho hd (x:= .int i 0) rfl ?_)
 refine wpAny_bind (m:=seqItems? (.ref l)) (wpAny_seqItems hol hdl ?_)
 simp only[Int.toNat_natCast,hx]
 refine wpAny_bind (wpAny_rule (wpAny_bind (wpAny_setField ho hd (by simp) ?_)))
 have q2:Zai A.in1 (s.heap.update it (Obj.mapFields (·.setIfInBounds 0 Value.none))):=by
  rcases q with q | ⟨ea,oe,vs,e1,e2,e3,e4⟩
  ·exact .inl q
  ·refine .inr ⟨ea,oe,vs,e1,?_,e3,e4⟩
   rw[Heap.get?_update_other _ _ (fun z=> ?_)]
   ·exact e2
   ·rw[<- z,ho] at e2
    cases e2
    rw[hd] at e3
    cases e3
    simp at e4
 refine Zaz q2 fun h' e k ho=>⟨e,rfl,ho,h',fun b o hb z=>k b o ?_,rfl⟩
 rw[Heap.get?_update_other _ _ (Ne.symm hb)]
 exact z
theorem Ze7 {it l:Addr} {i:Nat} {items} {Q:Option Value->Shared->Prop} (q:Zai A s.heap) (hit:s.heap.IsListIter it l i) (hl:s.heap.IsList l items) (hx:items[i]?=none)
  (hQ: ∀ h',Heap.ExtBut it s.heap h'->Q none { s with heap:=h' }):wpAny (model prog w) A (pyNext (.ref it)) Q E s:=by
 obtain ⟨o,ho,hc,hd⟩:=id hit
 obtain ⟨ol,hol,_,nl,hdl⟩:=hl
 exact ZcP hit.typeIs slot_listiter_next entry_listiter_next (args_listiter_next _) (Zij q ho hd hol hdl hx) hQ
theorem ZdH {it l:Addr} {i:Nat} {items} {Q:Option Value->Shared->Prop} (q:Zai A s.heap) (hit:s.heap.IsTupleIter it l i) (hl:s.heap.IsTuple l items) (hx:items[i]?=none)
  (hQ: ∀ h',Heap.ExtBut it s.heap h'->Q none { s with heap:=h' }):wpAny (model prog w) A (pyNext (.ref it)) Q E s:=by
 obtain ⟨o,ho,hc,hd⟩:=id hit
 obtain ⟨ol,hol,_,nl,hdl⟩:=hl
 exact ZcP hit.typeIs F.slot_tuple_iterator_next F.entry_tuple_iterator_next (F.args_tuple_iterator_next_1 _) (Zik q ho hd hol hdl hx) hQ
end
end DQ
end
section
namespace L2
open PySem PySem.Spec PyProof.Rows
noncomputable abbrev Key:=Sum Int Str
noncomputable def Zde:Key->Value->Bool
 | .inl k,v=>Value.isInt k v
 | .inr x,v=>Value.isStrOf x v
noncomputable def Zoj (w:World):Key->Int
 | .inl k=>hashInt k
 | .inr x=>hashStr w x
theorem Zu: ∀ {k:Key} {v:Value},Zde k v=true->(∃ i t,k=Sum.inl i/\v=Value.int i t)\/(∃ x t,k=Sum.inr x/\v=Value.str x t)
 | .inl i,v,h=>by
  obtain ⟨t,e⟩:=Value.isInt_shape (k:=i) (v:=v) h
  exact .inl ⟨i,t,rfl,e⟩
 | .inr x,v,h=>by
  obtain ⟨t,e⟩:=Value.isStrOf_shape (x:=x) (v:=v) h
  exact .inr ⟨x,t,rfl,e⟩
theorem ZdI (i:Int) (t:Tok):Zde (.inl i) (.int i t)=true:=by simp[Zde,Value.isInt]
theorem ZdJ (x:Str) (t:Tok):Zde (.inr x) (.str x t)=true:=by simp[Zde,Value.isStrOf]
theorem Zil (a b:Int):decide ((Sum.inl a:Key)=Sum.inl b)=(a == b):=by
 by_cases e:a=b
 ·subst e;simp
 ·have h: ¬ (Sum.inl a:Key)=Sum.inl b:=fun q=>e (Sum.inl.inj q)
  rw[decide_eq_false h]
  exact (beq_eq_false_iff_ne.mpr e).symm
theorem Zim (a b:Str):decide ((Sum.inr a:Key)=Sum.inr b)=decide (a=b):=by
 by_cases e:a=b
 ·subst e;simp
 ·have h: ¬ (Sum.inr a:Key)=Sum.inr b:=fun q=>e (Sum.inr.inj q)
  rw[decide_eq_false h,decide_eq_false e]
theorem Zin (a:Int) (b:Str):decide ((Sum.inl a:Key)=Sum.inr b)=false:=decide_eq_false (fun q=>nomatch q)
theorem Zio (a:Str) (b:Int):decide ((Sum.inr a:Key)=Sum.inl b)=false:=decide_eq_false (fun q=>nomatch q)
noncomputable def ZA (prog:Program) (w:World):PySem.KeyKind prog w Key where
 is:=Zde
 hash:=Zoj w
 inj:=fun v a b ha hb=>by
  rcases Zu ha with ⟨i,t,rfl,rfl⟩ | ⟨x,t,rfl,rfl⟩
  ·rcases Zu hb with ⟨j,u,rfl,e⟩ | ⟨y,u,rfl,e⟩
   ·injection e with e1 _;rw[e1]
   ·exact nomatch e
  ·rcases Zu hb with ⟨j,u,rfl,e⟩ | ⟨y,u,rfl,e⟩
   ·exact nomatch e
   ·injection e with e1 _;rw[e1]
 byValue:=fun k v h=>by
  rcases Zu h with ⟨i,t,rfl,rfl⟩ | ⟨x,t,rfl,rfl⟩<;>rfl
 pyHash:=fun hv h=>by
  rcases Zu hv with ⟨i,t,rfl,rfl⟩ | ⟨x,t,rfl,rfl⟩
  ·exact wpAny_pyHash_int h
  ·exact wpAny_pyHash_str h
 eqBool:=fun hu hv h=>by
  rcases Zu hu with ⟨i,t,rfl,rfl⟩ | ⟨x,t,rfl,rfl⟩
  ·rcases Zu hv with ⟨j,u,rfl,rfl⟩ | ⟨y,u,rfl,rfl⟩
   ·rw[Zil] at h;exact wpAny_eqBool_int h
   ·rw[Zin] at h;exact SeqAt.EqAt.int_str i t y u _ _ _ _ h
  ·rcases Zu hv with ⟨j,u,rfl,rfl⟩ | ⟨y,u,rfl,rfl⟩
   ·rw[Zio] at h;exact SeqAt.EqAt.str_int x t j u _ _ _ _ h
   ·rw[Zim] at h;exact wpAny_eqBool_str h
 «strs» :=fun k x t v h=>by
  rcases Zu h with ⟨i,u,rfl,e⟩ | ⟨y,u,rfl,e⟩
  ·exact nomatch e
  ·injection e with e1 _
   subst e1
   cases v<;>rfl
theorem Zcu (prog:Program) (w:World) (i:Int) (t:Tok):(ZA prog w).is (.inl i) (.int i t)=true:=ZdI i t
theorem Zcv (prog:Program) (w:World) (x:Str) (t:Tok):(ZA prog w).is (.inr x) (.str x t)=true:=ZdJ x t
end L2
namespace L2
open PySem PySem.Spec PyProof.Rows
inductive V where
 |non | bl (b:Bool) | int (i:Int) | str (x:Str) | byt (b:Array UInt8) | flt (b:UInt64) | ref (a:Addr) | ty (n:String)
 deriving DecidableEq
noncomputable def Zz:V->Value->Prop
 | .non,u=>u=Value.none
 | .bl b,u=>u=Value.bool b
 | .int i,u=> ∃ t,u=Value.int i t
 | .str x,u=> ∃ t,u=Value.str x t
 | .byt b,u=> ∃ t,u=Value.bytes b t
 | .flt b,u=> ∃ t,u=Value.float b t
 | .ref a,u=>u=Value.ref a
 | .ty n,u=>u=Value.type n
noncomputable abbrev ZF:List V->List Value->Prop:=Paired Zz
theorem ZF.length {xs:List V} {us:List Value} (r:ZF xs us):xs.length=us.length:=Paired.length r
theorem ZF.get: ∀ {xs:List V} {us:List Value} {i:Nat} {x:V},ZF xs us->xs[i]?=some x-> ∃ u,us[i]?=some u/\Zz x u
 |_,_,_,_,.nil,e=>by simp at e
 |_,_,0,_,.cons r _,e=>by simp at e;subst e;exact ⟨_,rfl,r⟩
 |_,_,i + 1,x,.cons _ t,e=>by
  obtain ⟨u,h1,h2⟩:=ZF.get (i:=i) (x:=x) t (by simpa using e)
  exact ⟨u,by simpa using h1,h2⟩
theorem ZF.set {x:V} {u:Value} (r:Zz x u): ∀ {xs:List V} {us:List Value} (i:Nat),ZF xs us->ZF (xs.set i x) (us.set i u)
 |_,_,_,.nil=> .nil
 |_,_,0,.cons _ t=> .cons r t
 |_,_,i + 1,.cons q t=> .cons q (ZF.set r i t)
theorem ZF.append: ∀ {xs ys:List V} {us ws:List Value},ZF xs us->ZF ys ws->ZF (xs ++ ys) (us ++ ws)
 |_,_,_,_,.nil,s=>s
 |_,_,_,_,.cons r t,s=> .cons r (ZF.append t s)
noncomputable def Zh8:Option V->Option Value->Prop
 |some v,some u=>Zz v u
 |none,none=>True
 |_,_=>False
noncomputable def KV {κ:Type}:List (κ × V)->List (κ × Value)->Prop:=Paired fun (p:κ × V) (q:κ × Value)=>p.1=q.1/\Zz p.2 q.2
noncomputable def kV:Key->V
 | .inl i=> .int i
 | .inr x=> .str x
inductive HO where
 |lst (xs:List V)
 |tup (xs:List V)
 |dK (kvs:List (Key × V)) | dT (kvs:List (List Key × V))
 |set (S:Int->Bool) (n:Nat)
 |ins (C dx:Addr) (fs:List (Str × V))
 |own (x:Addr)
 |xd (fs:List (Str × V))
 |met (f x:Addr)
 |rng (lo hi:Int)
 |frz (o:Obj) (u:HO)
 |tbl (ps:Array Value)
 |ext (φ:Heap->Prop)
noncomputable abbrev Hp:=Addr->Option HO
noncomputable def upd (H:Hp) (a:Addr) (o:HO):Hp:=fun b=>if b=a then some o else H b
theorem Zl {H:Hp} {a:Addr} {o:HO}:upd H a o a=some o:=by unfold upd;rw[if_pos rfl]
theorem Zs {H:Hp} {a b:Addr} {o:HO} (h:b≠a):upd H a o b=H b:=by unfold upd;rw[if_neg h]
theorem Zip {H:Hp} {a b:Addr} {o u:HO} (h:H a=some o) (h':H b=some u) (d:o≠u):a≠b:=by
 intro e;subst e;rw[h] at h';exact d (Option.some.inj h')
theorem ZC {H:Hp} {a b:Addr} {o:HO} (h:H a=some o) (h':H b=none):a≠b:=by
 intro e;subst e;rw[h] at h';cases h'
section
variable (P:Program) (w:World)
noncomputable def Z1 (H:Hp) (h:Heap) (a:Addr):HO->Prop
 | .lst xs=>xs.length<=sizeLine/\ ∃ (its:List Value) (n:Nat),ZF xs its/\h.get? a=some { cls:= .type "list",data:= .seq its.toArray n }
 | .tup xs=>xs.length<=sizeLine/\ ∃ its:List Value,ZF xs its/\IsTup h a its.toArray
 | .dK kvs=>kvs.length<=sizeLine/\(a == sysModules)=false/\ ∃ vs,KV kvs vs/\h.DictOf (ZA P w) a vs
 | .dT kvs=>kvs.length<=sizeLine/\(a == sysModules)=false/\ ∃ xs:List (List Key × Addr × Value),
   Paired (fun (p:List Key × V) (q:List Key × Addr × Value)=>p.1=q.1/\H q.2.1=some (.tup (p.1.map kV))/\Zz p.2 q.2.2) kvs xs/\
   ∃ o es ep,h.get? a=some o/\o.ExactDict/\o.data= .dict es ep/\es.toList=xs.map (entryOfKey (tupleKind (ZA P w)))/\(xs.map (·.1)).Nodup
 | .set S n=>h.SetOf (intKind P w) a S n
 | .ins C dx fs=>H dx=some (.own a)/\fs.length<=1000/\dx≠a/\h.get? a=some (PySem.W.instObj C dx)/\
   ∃ mA,h.Ns1 dx mA/\(∀ f,Zh8 (fs.lookup f) (mA f))/\PySem.Within mA (fs.map (·.1))
 | .own _=> ∃ o,h.get? a=some o
 | .xd fs=> ∃ mA,h.Ns1 a mA/\ ∀ f,Zh8 (fs.lookup f) (mA f)
 | .rng lo hi=> ∃ t u v,h.get? a=some { cls:= .type "range",data:= .fields #[.int lo t,.int hi u,.int 1 v] }
 | .frz o u=>h.get? a=some o/\Z1 H h a u
 | .tbl ps=>h.get? a=some { cls:= .none,data:= .fields ps }
 | .met f x=>h.get? a=some (PySem.W.methodObj (.ref f) (.ref x))
 | .ext φ=>φ h/\(∃ o,h.get? a=some o)/\ ∀ h1 h2:Heap,φ h1->(∀ o,h1.get? a=some o->h2.get? a=some o)->φ h2
noncomputable def HOk (H:Hp) (h:Heap):Prop:= ∀ a o,H a=some o->Z1 P w H h a o
end
section
variable {P:Program} {w:World} {H H':Hp} {h h':Heap} {a:Addr} {o:HO}
theorem Z1.lt (x:Z1 P w H h a o):a < h.objs.size:=by
 cases o with
 |lst xs=>obtain ⟨_,_,_,_,e⟩:=x;exact Heap.lt_size e
 |tup xs=>obtain ⟨_,_,_,p⟩:=x;exact p.lt
 |dK kvs=>obtain ⟨_,_,_,_,o,_,_,e,_⟩:=x;exact Heap.lt_size e
 |dT kvs=>obtain ⟨_,_,_,_,o,_,_,e,_⟩:=x;exact Heap.lt_size e
 |set S n=>obtain ⟨o,_,_,_,e,_⟩:=x;exact Heap.lt_size e
 |ins C dx fs=>obtain ⟨_,_,_,e,_⟩:=x;exact Heap.lt_size e
 |own y=>obtain ⟨_,e⟩:=x;exact Heap.lt_size e
 |xd fs=>obtain ⟨_,⟨_,_,_,e,_⟩,_⟩:=x;exact Heap.lt_size e
 |rng lo hi=>obtain ⟨_,_,_,e⟩:=x;exact Heap.lt_size e
 |frz ob u=>obtain ⟨e,_⟩:=x;exact Heap.lt_size e
 |tbl ps=>exact Heap.lt_size (show h.get? a=some _ from x)
 |met f y=>exact Heap.lt_size (show h.get? a=some _ from x)
 |ext φ=>obtain ⟨_,⟨_,e⟩,_⟩:=x;exact Heap.lt_size e
theorem Paired.mapP {α β:Type} {F G:α->β->Prop}: ∀ {l₁:List α} {l₂:List β},Paired F l₁ l₂->(∀ a b,F a b->G a b)->Paired G l₁ l₂
 |_,_,.nil,_=> .nil
 |_,_,.cons r t,f=> .cons (f _ _ r) (Paired.mapP t f)
theorem Z1.stay (x:Z1 P w H h a o) (k: ∀ b u,(b=a\/H b=some (.own a))->h.get? b=some u->h'.get? b=some u)
  (ho: ∀ b,H b=some (.own a)->H' b=some (.own a)) (ht: ∀ b xs,H b=some (.tup xs)->H' b=some (.tup xs)):Z1 P w H' h' a o:=by
 induction o with
 |lst xs=>obtain ⟨z,its,n,r,e⟩:=x;exact ⟨z,its,n,r,k _ _ (.inl rfl) e⟩
 |tup xs=>obtain ⟨z,its,r,ob,e,c⟩:=x;exact ⟨z,its,r,ob,k _ _ (.inl rfl) e,c⟩
 |dK kvs=>obtain ⟨z,y,vs,r,ob,es,ep,e,c⟩:=x;exact ⟨z,y,vs,r,ob,es,ep,k _ _ (.inl rfl) e,c⟩
 |dT kvs=>
  obtain ⟨z,y,xs,r,ob,es,ep,e,c⟩:=x
  exact ⟨z,y,xs,Paired.mapP r fun p q z=>⟨z.1,ht _ _ z.2.1,z.2.2⟩,ob,es,ep,k _ _ (.inl rfl) e,c⟩
 |set S n=>obtain ⟨ob,es,ep,t,e,c⟩:=x;exact ⟨ob,es,ep,t,k _ _ (.inl rfl) e,c⟩
 |ins C dx fs=>
  obtain ⟨d,z,ne,e,mA,⟨od,es,ep,e2,c⟩,r⟩:=x
  exact ⟨ho _ d,z,ne,k _ _ (.inl rfl) e,mA,⟨od,es,ep,k _ _ (.inr d) e2,c⟩,r⟩
 |own y=>obtain ⟨ob,e⟩:=x;exact ⟨ob,k _ _ (.inl rfl) e⟩
 |xd fs=>obtain ⟨mA,⟨od,es,ep,e,c⟩,r⟩:=x;exact ⟨mA,⟨od,es,ep,k _ _ (.inl rfl) e,c⟩,r⟩
 |rng lo hi=>obtain ⟨t,u,v,e⟩:=x;exact ⟨t,u,v,k _ _ (.inl rfl) e⟩
 |frz ob u ih=>obtain ⟨e,q⟩:=x;exact ⟨k _ _ (.inl rfl) e,ih q⟩
 |tbl ps=>
  have e:h.get? a=some { cls:= .none,data:= .fields ps }:=x
  show h'.get? a=some { cls:= .none,data:= .fields ps }
  exact k a _ (.inl rfl) e
 |met f y=>
  have e:h.get? a=some (PySem.W.methodObj (.ref f) (.ref y)):=x
  show h'.get? a=some (PySem.W.methodObj (.ref f) (.ref y))
  exact k a _ (.inl rfl) e
 |ext φ=>obtain ⟨p,⟨o,e⟩,st⟩:=x;exact ⟨st _ _ p fun o q=>k _ _ (.inl rfl) q,⟨o,k _ _ (.inl rfl) e⟩,st⟩
theorem HOk.lt (x:HOk P w H h) (e:H a=some o):a < h.objs.size:=(x a o e).lt
theorem HOk.fresh (x:HOk P w H h) (e:h.objs.size<=a):H a=none:=by
 cases q:H a with
 |none=>rfl
 |some u=>exact absurd (Nat.lt_of_lt_of_le (x.lt q) e) (Nat.lt_irrefl _)
theorem HOk.kept (x:HOk P w H h) (k: ∀ b u,h.get? b=some u->h'.get? b=some u):HOk P w H h':=fun a o e=>
 (x a o e).stay (fun b u _ q=>k b u q) (fun _ q=>q) fun _ _ q=>q
theorem HOk.laid (x:HOk P w H h) (k: ∀ b u,h.get? b=some u->h'.get? b=some u) (hp:h.objs.size<=a) (new:Z1 P w (upd H a o) h' a o):HOk P w (upd H a o) h':=fun b u e=>by
 have hn:=x.fresh hp
 by_cases hb:b=a
 ·subst hb;rw[Zl] at e;cases e;exact new
 ·rw[Zs hb] at e
  exact (x b u e).stay (fun c v _ q=>k c v q) (fun c q=>by rw[Zs (ZC q hn)];exact q) fun c xs q=>by rw[Zs (ZC q hn)];exact q
end
noncomputable def Rd (H:Hp) (a:Addr) (u:HO):Prop:=H a=some u\/ ∃ o,H a=some (.frz o u)
theorem Rd.ok {P:Program} {w:World} {H:Hp} {h:Heap} {a:Addr} {u:HO} (r:Rd H a u) (x:HOk P w H h):Z1 P w H h a u:=by
 rcases r with r | ⟨o,r⟩
 ·exact x a u r
 ·obtain ⟨_,q⟩:=x a _ r
  exact q
noncomputable def Mut:Option HO->Prop
 |some (.lst _)=>True
 |some (.dK _)=>True
 |some (.dT _)=>True
 |some (.set _ _)=>True
 |some (.ins _ _ _)=>True
 |some (.ext _)=>True
 |_=>False
section
variable {P:Program} {w:World} {H:Hp} {h h':Heap} {x e:Addr} {o':HO}
theorem HOk.write (ok:HOk P w H h) (mu:Mut (H x)) (he:e=x\/H e=some (.own x)) (k: ∀ b u,b≠e->h.get? b=some u->h'.get? b=some u) (heo: ∃ u,h'.get? e=some u)
  (new:Z1 P w (upd H x o') h' x o'):HOk P w (upd H x o') h':=fun b u q=>by
 have nown: ∀ c y,H c=some (.own y)->c≠x:=fun c y r z=>by subst z;rw[r] at mu;exact mu
 have ntup: ∀ c xs,H c=some (.tup xs)->c≠x:=fun c xs r z=>by subst z;rw[r] at mu;exact mu
 by_cases hb:b=x
 ·subst hb;rw[Zl] at q;cases q;exact new
 ·rw[Zs hb] at q
  by_cases hbe:b=e
  ·have q':H b=some (.own x):=by
    rcases he with z | z
    ·exact absurd (hbe.trans z) hb
    ·rw[hbe];exact z
   rw[q] at q';cases q'
   obtain ⟨v,hv⟩:=heo
   exact ⟨v,by rw[hbe];exact hv⟩
  ·refine (ok b u q).stay (fun c v hc r=>k c v ?_ r) (fun c r=>by rw[Zs (nown c b r)];exact r) fun c xs r=>by rw[Zs (ntup c xs r)];exact r
   rcases hc with rfl | hc
   ·exact hbe
   ·rintro rfl
    rcases he with z | z
    ·exact nown c b hc z
    ·rw[hc] at z;cases z;exact hb rfl
end
structure Un (fs ex:List Addr) (H H':Hp) (h h':Heap):Prop where
 keep: ∀ b o,h.get? b=some o->H b=none->b ∉ fs->b ∉ ex->h'.get? b=some o
 slot: ∀ b o,h.get? b=some o->H b=none->b∈fs->b ∉ ex-> ∃ sl,h'.get? b=some { o with slots:=sl }
 free: ∀ b o,h.get? b=some o->H b=none->b ∉ ex->H' b=none
 there: ∀ b o,h.get? b=some o->b ∉ ex-> ∃ o',h'.get? b=some o'
 tups: ∀ b xs,H b=some (.tup xs)->H' b=some (.tup xs)
 frzs: ∀ b o u,H b=some (.frz o u)->H' b=some (.frz o u)
 tbls: ∀ b ps,H b=some (.tbl ps)-> ∃ more,H' b=some (.tbl (ps ++ more))
section
variable {fs fs' ex ex':List Addr} {H H1 H2:Hp} {h h1 h2 h':Heap} {a x e:Addr} {o:HO}
theorem Un.any (u:Un fs ex H H1 h h1) {b:Addr} {ob:Obj} (q:h.get? b=some ob) (n:H b=none) (hx:b ∉ ex): ∃ sl,h1.get? b=some { ob with slots:=sl }:=by
 by_cases hb:b∈fs
 ·exact u.slot b ob q n hb hx
 ·exact ⟨ob.slots,u.keep b ob q n hb hx⟩
theorem Un.kept (k: ∀ b u,h.get? b=some u->h'.get? b=some u):Un fs ex H H h h':=
 ⟨fun b ob q _ _ _=>k b ob q,fun b ob q _ _ _=>⟨ob.slots,k b ob q⟩,fun _ _ _ n _=>n,fun b ob q _=>⟨ob,k b ob q⟩,fun _ _ q=>q,fun _ _ _ q=>q,fun _ ps q=>⟨#[],by rw[q];simp⟩⟩
theorem Un.refl:Un fs ex H H h h:=Un.kept fun _ _ q=>q
theorem Un.laid (k: ∀ b u,h.get? b=some u->h'.get? b=some u) (hp:h.objs.size<=a) (hn:H a=none):Un fs ex H (upd H a o) h h' where
 keep:=fun b u q _ _ _=>k b u q
 slot:=fun b u q _ _ _=>⟨u.slots,k b u q⟩
 free:=fun b u q n _=>by rw[Zs (Nat.ne_of_lt (Nat.lt_of_lt_of_le (Heap.lt_size q) hp))];exact n
 there:=fun b u q _=>⟨u,k b u q⟩
 tups:=fun b xs q=>by rw[Zs (ZC q hn)];exact q
 frzs:=fun b u xs q=>by rw[Zs (ZC q hn)];exact q
 tbls:=fun b ps q=>⟨#[],by rw[Zs (ZC q hn),q];simp⟩
theorem Un.write (mu:Mut (H x)) (he:e=x\/H e=some (.own x)) (k: ∀ b u,b≠e->h.get? b=some u->h'.get? b=some u) (heo: ∃ u,h'.get? e=some u):Un fs ex H (upd H x o) h h':=by
 have hx: ∀ b,H b=none->b≠x:=fun b n z=>by subst z;rw[n] at mu;exact mu
 have hb: ∀ b,H b=none->b≠e:=fun b n z=>by
  subst z
  rcases he with r | r
  ·exact hx b n r
  ·rw[n] at r;cases r
 have hm: ∀ b u,H b=some u-> ¬ Mut (some u)->b≠x:=fun b u q nm z=>by subst z;rw[q] at mu;exact nm mu
 refine ⟨fun b u q n _ _=>k b u (hb b n) q,fun b u q n _ _=>⟨u.slots,k b u (hb b n) q⟩,fun b u q n _=>by rw[Zs (hx b n)];exact n,fun b u q _=> ?_,
  fun b xs q=>by rw[Zs (hm b _ q fun z=>z)];exact q,fun b u xs q=>by rw[Zs (hm b _ q fun z=>z)];exact q,fun b ps q=>⟨#[],by rw[Zs (hm b _ q fun z=>z),q];simp⟩⟩
 by_cases hbe:b=e
 ·subst hbe;exact heo
 ·exact ⟨u,k b u hbe q⟩
end
noncomputable def trk (h:Heap) (H:Hp):List Addr:=(List.range h.objs.size).filter fun a=>(H a).isSome
noncomputable def Ze4 (h:Heap) (H:Hp):Heap:=PySem.W.hideAll h (trk h H)
theorem ZdK (h:Heap) (H:Hp):(Ze4 h H).objs.size=h.objs.size:=PySem.W.hideAll_size _ _
theorem ZcQ {h:Heap} {H:Hp} {b:Addr} {o:Obj} (e:h.get? b=some o) (n:H b=none):(Ze4 h H).get? b=some o:=
 PySem.W.hideAll_get _ e fun hm=>by
  have q:(H b).isSome=true:=(List.mem_filter.mp hm).2
  rw[n] at q;simp at q
theorem ZdL {h:Heap} {H:Hp} {b:Addr} {o:Obj} (e:(Ze4 h H).get? b=some o):h.get? b=some o/\H b=none:=by
 have e':h.get? b=some o:=PySem.W.of_hideAll (trk h H) e
 refine ⟨e',?_⟩
 cases q:H b with
 |none=>rfl
 |some x=>
  have hm:b∈trk h H:=List.mem_filter.mpr ⟨List.mem_range.mpr (Heap.lt_size e'),by simp[q]⟩
  have z:(Ze4 h H).get? b=none:=PySem.W.hideAll_none (trk h H) hm
  rw[z] at e;cases e
noncomputable def ZgD (g h:Heap) (L:Addr):List (Addr × Obj):=(List.range h.objs.size).filterMap fun a=>if a=L\/(g.get? a).isSome=true then none else (h.get? a).map fun o=>(a,o)
noncomputable def rest (g h:Heap) (L d:Addr):List (Addr × Obj):=(ZgD g h L).filter fun p=>decide (p.1≠d)
end L2
namespace L2
open PySem PySem.Spec PyProof.Rows
structure Mod (K:PySem.W.Frag) (mg:Str->Option Value) (base:Heap):Prop where
 kin:K.In base
 glob:base.Ns mainGlobals mg
 blt: ∃ mb,base.Ns builtinsNs mb/\ ∀ x:Str,x≠"__name__"->mb x=bootBuiltins x
 nolimit:base.NoLimit
structure Cx where
 prog:Program
 w:World
 K:PySem.W.Frag
 mg:Str->Option Value
 base:Heap
 A:Around
 N:List Str
 s₀:Shared
 H₀:Hp
 env:Env
 outer:List Env
 stack:List Env
 ex:List Addr
 fn:Str->Bool
 calm:Bool
 pn:List (Addr × Obj)
 xe:Value->Shared->Prop
noncomputable def frs (l:List Env):List Addr:=l.filterMap (·.frame)
noncomputable abbrev Cx.fs (X:Cx):List Addr:=frs X.outer
noncomputable def Vis (sc:Scope) (x:Str):Prop:=sc.names.lookup x=some .local\/sc.names.lookup x=some .cell\/sc.names.lookup x=some .free
noncomputable def Loc (sc:Scope) (x:Str):Prop:=sc.names.lookup x=some .local\/sc.names.lookup x=some .cell
noncomputable def Zok (env:Env) (h:Heap) (m:Str->Option Value) (x:Str) (u:Value):Prop:=
 (env.kindOf x=some .local/\m x=some u)\/((env.kindOf x=some .cell\/env.kindOf x=some .free)/\ ∃ c,env.cells.lookup x=some c/\h.IsCell c (some u))
structure Cx.Ok (X:Cx):Prop where
 mod:Mod X.K X.mg X.base
 kind:X.env.scope.kind= .function
 glob:X.env.globals=mainGlobals
 blt:X.env.builtins=builtinsNs
 above:X.s₀.heap.objs.size<=X.env.locals
 inj: ∀ x y c,X.env.cells.lookup x=some c->X.env.cells.lookup y=some c->x=y
 has: ∀ x,(X.env.kindOf x=some .cell\/X.env.kindOf x=some .free)-> ∃ c,X.env.cells.lookup x=some c
 cab: ∀ x c,X.fn x=true->X.env.cells.lookup x=some c->X.s₀.heap.objs.size<=c
 hd:X.calm=true->X.A.handled=none
 frames:X.A.frames=some X.stack
 stk:X.stack=X.outer\/(X.stack=X.env :: X.outer/\X.env.frame=some X.env.locals)
 exf: ∀ b∈X.ex,b≠X.env.locals/\ ∀ x c,X.env.cells.lookup x=some c->c≠b
 bs: ∀ b o,X.base.get? b=some o->X.s₀.heap.get? b=some o/\X.H₀ b=none
 bsz:X.base.objs.size<=X.s₀.heap.objs.size
 noex: ∀ b o,X.base.get? b=some o->b ∉ X.ex
 exfs: ∀ b∈X.ex,b ∉ X.fs
 funs:X.s₀.heap.FunFrames X.base X.outer
 frf: ∀ b∈X.fs,X.H₀ b=none
noncomputable def Qd (A:Around) (H:Hp):Prop:=A.handled=none\/ ∃ ea oe u vs,A.handled=some (.ref ea)/\H ea=some (.frz oe u)/\oe.data= .fields vs/\vs[2]?=some .none
theorem Qd.mono {A:Around} {H H':Hp} (q:Qd A H) (k: ∀ b o u,H b=some (.frz o u)->H' b=some (.frz o u)):Qd A H':=by
 rcases q with q | ⟨ea,oe,u,vs,e1,e2,e3,e4⟩
 ·exact .inl q
 ·exact .inr ⟨ea,oe,u,vs,e1,k _ _ _ e2,e3,e4⟩
structure Inv (X:Cx) (pins:List (Addr × Obj)) (σ:List (Option V)) (H:Hp) (s:Shared):Prop where
 ok:X.Ok
 os:s.os=X.s₀.os
 bare:AllBare s.gens
 base:Un X.fs X.ex X.H₀ H X.s₀.heap s.heap
 loc: ∃ m,s.heap.Ns X.env.locals m/\ ∀ (i:Nat) (x:Str) (v:V),X.N[i]?=some x->σ[i]?=some (some v)->Vis X.env.scope x-> ∃ u,Zz v u/\Zok X.env s.heap m x u
 cell: ∀ x c,X.env.cells.lookup x=some c-> ∃ v,s.heap.IsCell c v
 free:H X.env.locals=none
 freeC: ∀ x c,X.env.cells.lookup x=some c->H c=none
 pin: ∀ p∈X.pn ++ pins,s.heap.get? p.1=some p.2/\H p.1=none/\p.1≠X.env.locals/\p.1 ∉ X.fs/\ ∀ v,p.2.data≠ .cell v
 hok:HOk X.prog X.w H s.heap
 len:σ.length=X.N.length
 qd:Qd X.A H
section
variable {X:Cx} {pins:List (Addr × Obj)} {σ:List (Option V)} {H H':Hp} {s:Shared} {h':Heap}
theorem Cx.Ok.nofr (ok:X.Ok) {b:Addr} {o:Obj} (e:X.base.get? b=some o):b ∉ X.fs:=fun hb=>by
 have:=(ok.funs.mem hb).1
 rw[e] at this;cases this
theorem Inv.bs (I:Inv X pins σ H s): ∀ b o,X.base.get? b=some o->s.heap.get? b=some o/\H b=none:=fun b o e=>
 ⟨I.base.keep b o (I.ok.bs b o e).1 (I.ok.bs b o e).2 (I.ok.nofr e) (I.ok.noex b o e),I.base.free b o (I.ok.bs b o e).1 (I.ok.bs b o e).2 (I.ok.noex b o e)⟩
theorem Inv.qh (I:Inv X pins σ H s):DQ.Zai X.A s.heap:=by
 rcases I.qd with q | ⟨ea,oe,u,vs,e1,e2,e3,e4⟩
 ·exact .inl q
 ·exact .inr ⟨ea,oe,vs,e1,(I.hok _ _ e2).1,e3,e4⟩
theorem Inv.bk (I:Inv X pins σ H s): ∀ b o,X.base.get? b=some o->s.heap.get? b=some o:=fun b o e=>(I.bs b o e).1
theorem Inv.mod (I:Inv X pins σ H s):Mod X.K X.mg X.base:=I.ok.mod
theorem Inv.kIn (I:Inv X pins σ H s):X.K.In s.heap:=I.ok.mod.kin.keeps I.bk
theorem Inv.fr (I:Inv X pins σ H s): ∃ m,Fr X.base X.env.locals s.heap m:=
 let ⟨m,hn,_⟩:=I.loc
 ⟨m,hn,I.bk,Nat.le_trans I.ok.bsz I.ok.above⟩
theorem Inv.lt (I:Inv X pins σ H s):X.env.locals < s.heap.objs.size:=let ⟨_,hn,_⟩:=I.loc;hn.lt
theorem Inv.sz (I:Inv X pins σ H s):X.s₀.heap.objs.size<=s.heap.objs.size:=Nat.le_trans I.ok.above (Nat.le_of_lt I.lt)
theorem Inv.nofs (I:Inv X pins σ H s) {a:Addr} (h:s.heap.objs.size<=a):a ∉ X.fs:=fun hb=>by
 obtain ⟨_,o,ho,_⟩:=I.ok.funs.mem hb
 exact absurd (Nat.lt_of_lt_of_le (Heap.lt_size ho) (Nat.le_trans I.sz h)) (Nat.lt_irrefl _)
theorem Inv.cne (I:Inv X pins σ H s): ∀ x c,X.env.cells.lookup x=some c->c≠X.env.locals:=fun x c e z=>by
 obtain ⟨v,o,ho,hd⟩:=I.cell x c e
 obtain ⟨m,⟨o',es,ep,ho',hd',_⟩,_⟩:=I.loc
 rw[z,ho'] at ho;cases ho;rw[hd'] at hd;cases hd
theorem Inv.funs (I:Inv X pins σ H s):s.heap.FunFrames X.base X.outer:=by
 have all: ∀ (l:List Env),(∀ b∈frs l,b∈X.fs)->X.s₀.heap.FunFrames X.base l->s.heap.FunFrames X.base l:=by
  intro l
  induction l with
  |nil=>intro _ _;trivial
  |cons env r ih=>
   intro hs hl
   obtain ⟨hk,⟨L,o,hf,hn,ho,hd⟩,hr⟩:=hl
   have hL:L∈X.fs:=hs L (by unfold frs;rw[List.filterMap_cons,hf];exact List.mem_cons_self)
   obtain ⟨sl,e⟩:=I.base.slot L o ho (I.ok.frf L hL) hL fun z=>I.ok.exfs L z hL
   exact ⟨hk,⟨L,_,hf,hn,e,hd⟩,ih (fun b hb=>hs b (by unfold frs;rw[List.filterMap_cons,hf];exact List.mem_cons_of_mem _ hb)) hr⟩
 exact all X.outer (fun _ hb=>hb) I.ok.funs
theorem Inv.stack (I:Inv X pins σ H s):s.heap.FunFrames X.base X.stack:=by
 rcases I.ok.stk with e | ⟨e,hf⟩
 ·rw[e];exact I.funs
 ·rw[e]
  obtain ⟨m,hn,_⟩:=I.loc
  refine .cons (by rw[I.ok.kind];decide) hf hn ?_ I.funs
  exact Heap.get?_none_of_le (Nat.le_trans I.ok.bsz I.ok.above)
theorem Inv.stkSub (I:Inv X pins σ H s): ∀ b∈frs X.stack,b∈X.env.locals :: X.fs:=fun b hb=>by
 rcases I.ok.stk with e | ⟨e,hf⟩
 ·rw[e] at hb;exact List.mem_cons_of_mem _ hb
 ·rw[e] at hb
  unfold frs at hb
  rw[List.filterMap_cons,hf] at hb
  exact hb
theorem Inv.stkFree (I:Inv X pins σ H s): ∀ b∈frs X.stack,H b=none:=fun b hb=>by
 rcases List.mem_cons.mp (I.stkSub b hb) with e | hb
 ·rw[e];exact I.free
 ·obtain ⟨_,o,ho,_⟩:=I.ok.funs.mem hb
  exact I.base.free b o ho (I.ok.frf b hb) fun z=>I.ok.exfs b z hb
theorem Inv.step {g':Array GenState} {t':Nat} {d':Drawn} {ch:List Addr} (I:Inv X pins σ H s)
  (hch: ∀ b∈ch,(b∈X.ex\/X.s₀.heap.objs.size<=b)/\b≠X.env.locals/\(∀ x c,X.env.cells.lookup x=some c->c≠b)/\ ∀ p∈X.pn ++ pins,p.1≠b)
  (keep: ∀ b o,b≠X.env.locals->b ∉ X.fs->b ∉ ch->s.heap.get? b=some o->H b=none->h'.get? b=some o)
  (slot: ∀ b o,b≠X.env.locals->b∈X.fs->b ∉ ch->s.heap.get? b=some o->H b=none-> ∃ sl,h'.get? b=some { o with slots:=sl }) (free: ∀ b o,b ∉ ch->s.heap.get? b=some o->H b=none->H' b=none)
  (there: ∀ b o,b ∉ ch->s.heap.get? b=some o-> ∃ o',h'.get? b=some o')
  (tups: ∀ b xs,H b=some (.tup xs)->H' b=some (.tup xs)) (frzs: ∀ b o u,H b=some (.frz o u)->H' b=some (.frz o u)) (tbls: ∀ b ps,H b=some (.tbl ps)-> ∃ more,H' b=some (.tbl (ps ++ more)))
  (ns: ∀ m,s.heap.Ns X.env.locals m->h'.Ns X.env.locals m) (hok:HOk X.prog X.w H' h') (hg:AllBare g'):
  Inv X pins σ H' { s with heap:=h',gens:=g',drawn:=d',toks:=t' }:=by
 have neL: ∀ b o,X.s₀.heap.get? b=some o->b≠X.env.locals:=fun b o e=>Nat.ne_of_lt (Nat.lt_of_lt_of_le (Heap.lt_size e) I.ok.above)
 have neC: ∀ b o,X.s₀.heap.get? b=some o->b ∉ X.ex->b ∉ ch:=fun b o e hx hb=>by
  rcases (hch b hb).1 with z | z
  ·exact hx z
  ·exact absurd (Nat.lt_of_lt_of_le (Heap.lt_size e) z) (Nat.lt_irrefl _)
 have cellK: ∀ x c,X.env.cells.lookup x=some c-> ∀ v,s.heap.IsCell c v->h'.IsCell c v:=fun x c e v ⟨o,ho,hd⟩=>by
  have nch:c ∉ ch:=fun z=>(hch c z).2.2.1 x c e rfl
  by_cases hc:c∈X.fs
  ·obtain ⟨sl,q⟩:=slot c o (I.cne x c e) hc nch ho (I.freeC x c e)
   exact ⟨_,q,hd⟩
  ·exact ⟨o,keep c o (I.cne x c e) hc nch ho (I.freeC x c e),hd⟩
 refine ⟨I.ok,I.os,hg,⟨fun b o e n hb hx=> ?_,fun b o e n hb hx=> ?_,fun b o e n hx=> ?_,fun b o e hx=> ?_,fun b xs e=>tups b xs (I.base.tups b xs e),fun b o xs e=>frzs b o xs (I.base.frzs b o xs e),fun b ps e=> ?_⟩,?_,fun x c e=> ?_,?_,fun x c e=> ?_,fun p hp=> ?_,hok,I.len,I.qd.mono frzs⟩
 ·exact keep b o (neL b o e) hb (neC b o e hx) (I.base.keep b o e n hb hx) (I.base.free b o e n hx)
 ·obtain ⟨sl,e1⟩:=I.base.slot b o e n hb hx
  obtain ⟨sl',e2⟩:=slot b _ (neL b o e) hb (neC b o e hx) e1 (I.base.free b o e n hx)
  exact ⟨sl',e2⟩
 ·obtain ⟨o',e1⟩:=I.base.there b o e hx
  exact free b o' (neC b o e hx) e1 (I.base.free b o e n hx)
 ·obtain ⟨o',e1⟩:=I.base.there b o e hx
  exact there b o' (neC b o e hx) e1
 ·obtain ⟨m1,e1⟩:=I.base.tbls b ps e
  obtain ⟨m2,e2⟩:=tbls b _ e1
  exact ⟨m1 ++ m2,by rw[e2,Array.append_assoc]⟩
 ·obtain ⟨m,hn,hl⟩:=I.loc
  refine ⟨m,ns m hn,fun i x v e1 e2 e3=> ?_⟩
  obtain ⟨u,r,l⟩:=hl i x v e1 e2 e3
  refine ⟨u,r,?_⟩
  rcases l with l | ⟨k,c,e,z⟩
  ·exact .inl l
  ·exact .inr ⟨k,c,e,cellK x c e _ z⟩
 ·obtain ⟨v,z⟩:=I.cell x c e
  exact ⟨v,cellK x c e v z⟩
 ·obtain ⟨m,⟨o,_,_,ho,_⟩,_⟩:=I.loc
  exact free _ o (fun z=>(hch _ z).2.1 rfl) ho I.free
 ·obtain ⟨v,o,ho,hd⟩:=I.cell x c e
  exact free c o (fun z=>(hch c z).2.2.1 x c e rfl) ho (I.freeC x c e)
 ·obtain ⟨e,n,ne,nf,d⟩:=I.pin p hp
  have nch:p.1 ∉ ch:=fun z=>(hch p.1 z).2.2.2 p hp rfl
  exact ⟨keep p.1 p.2 ne nf nch e n,free p.1 p.2 nch e n,ne,nf,d⟩
theorem Inv.un {t':Nat} (I:Inv X pins σ H s) (u:Un X.fs [] H H' s.heap h') (hok:HOk X.prog X.w H' h'):Inv X pins σ H' { s with heap:=h',toks:=t' }:=by
 obtain ⟨m,⟨o,es,ep,ho,r⟩,_⟩:=id I.loc
 obtain ⟨sl,hL⟩:=u.any ho I.free (by simp)
 exact I.step (g':=s.gens) (d':=s.drawn) (ch:=[]) (fun _ z=>nomatch z) (fun b o _ hb _ e n=>u.keep b o e n hb (by simp)) (fun b o _ hb _ e n=>u.slot b o e n hb (by simp)) (fun b o _ e n=>u.free b o e n (by simp)) (fun b o _ e=>u.there b o e (by simp)) u.tups u.frzs u.tbls (fun m' hm=>by
  obtain ⟨o',es',ep',ho',r'⟩:=hm
  rw[ho] at ho';cases ho'
  exact ⟨_,es',ep',hL,r'⟩) hok I.bare
theorem Inv.call {g':Array GenState} {t':Nat} {d':Drawn} {ch:List Addr} (I:Inv X pins σ H s) (u:Un (frs X.stack) ch H H' s.heap h') (hok:HOk X.prog X.w H' h') (hg:AllBare g')
  (hch: ∀ b∈ch,(b∈X.ex\/X.s₀.heap.objs.size<=b)/\b≠X.env.locals/\(∀ x c,X.env.cells.lookup x=some c->c≠b)/\ ∀ p∈X.pn ++ pins,p.1≠b):
  Inv X pins σ H' { s with heap:=h',gens:=g',drawn:=d',toks:=t' }:=by
 obtain ⟨m,⟨o,es,ep,ho,r⟩,_⟩:=id I.loc
 obtain ⟨sl,hL⟩:=u.any ho I.free fun z=>(hch _ z).2.1 rfl
 exact I.step (ch:=ch) hch (fun b o hL hb hc e n=>u.keep b o e n (fun z=>(List.mem_cons.mp (I.stkSub b z)).elim hL hb) hc) (fun b o _ _ hc e n=>u.any e n hc) (fun b o hc e n=>u.free b o e n hc) (fun b o hc e=>u.there b o e hc) u.tups u.frzs u.tbls (fun m' hm=>by
  obtain ⟨o',es',ep',ho',r'⟩:=hm
  rw[ho] at ho';cases ho'
  exact ⟨_,es',ep',hL,r'⟩) hok hg
theorem Inv.turned {t':Nat} {it:Addr} (I:Inv X pins σ H s) (k: ∀ b o,b≠it->s.heap.get? b=some o->h'.get? b=some o) (hn:H it=none) (hL:it≠X.env.locals)
  (h1:it∈X.ex\/X.s₀.heap.objs.size<=it) (h2: ∀ x c,X.env.cells.lookup x=some c->c≠it) (h3: ∀ p∈X.pn ++ pins,p.1≠it):Inv X pins σ H { s with heap:=h',toks:=t' }:=by
 have nit: ∀ b u,H b=some u->b≠it:=fun b u e z=>by rw[z,hn] at e;cases e
 refine I.step (g':=s.gens) (d':=s.drawn) (ch:=[it]) (fun b hb=> ?_) (fun b o _ _ hc e _=>k b o (fun z=>hc (by simp[z])) e) (fun b o _ _ hc e _=>⟨o.slots,k b o (fun z=>hc (by simp[z])) e⟩) (fun _ _ _ _ n=>n)
  (fun b o hc e=>⟨o,k b o (fun z=>hc (by simp[z])) e⟩) (fun _ _ e=>e) (fun _ _ _ e=>e) (fun b ps e=>⟨#[],by rw[e];simp⟩) (fun m hm=> ?_) (fun b u e=> ?_) I.bare
 ·have e:b=it:=by simpa using hb
  subst e
  exact ⟨h1,hL,h2,h3⟩
 ·obtain ⟨o,es,ep,ho,r⟩:=hm
  exact ⟨o,es,ep,k _ o (Ne.symm hL) ho,r⟩
 ·refine (I.hok b u e).stay (fun c v hc q=>k c v ?_ q) (fun _ q=>q) fun _ _ q=>q
  rcases hc with z | z
  ·rw[z];exact nit b u e
  ·exact nit c _ z
theorem Inv.tok (I:Inv X pins σ H s) (t:Nat):Inv X pins σ H { s with toks:=t }:=I.un (h':=s.heap) (t':=t) Un.refl I.hok
theorem Inv.kept {t':Nat} (I:Inv X pins σ H s) (k: ∀ b u,s.heap.get? b=some u->h'.get? b=some u):Inv X pins σ H { s with heap:=h',toks:=t' }:=I.un (Un.kept k) (I.hok.kept k)
theorem Inv.laid {a:Addr} {o:HO} {t':Nat} (I:Inv X pins σ H s) (k: ∀ b u,s.heap.get? b=some u->h'.get? b=some u) (hp:s.heap.objs.size<=a) (new:Z1 X.prog X.w (upd H a o) h' a o):
  Inv X pins σ (upd H a o) { s with heap:=h',toks:=t' }:=I.un (Un.laid k hp (I.hok.fresh hp)) (I.hok.laid k hp new)
theorem Inv.write {x e:Addr} {o:HO} {t':Nat} (I:Inv X pins σ H s) (mu:Mut (H x)) (he:e=x\/H e=some (.own x)) (k: ∀ b u,b≠e->s.heap.get? b=some u->h'.get? b=some u) (heo: ∃ u,h'.get? e=some u)
  (new:Z1 X.prog X.w (upd H x o) h' x o):Inv X pins σ (upd H x o) { s with heap:=h',toks:=t' }:=I.un (Un.write mu he k heo) (I.hok.write mu he k heo new)
theorem Inv.pins_of {pins':List (Addr × Obj)} (I:Inv X pins σ H s) (h: ∀ p∈pins',s.heap.get? p.1=some p.2/\H p.1=none/\p.1≠X.env.locals/\p.1 ∉ X.fs/\ ∀ v,p.2.data≠ .cell v):Inv X pins' σ H s:=
 ⟨I.ok,I.os,I.bare,I.base,I.loc,I.cell,I.free,I.freeC,fun p hp=>(List.mem_append.mp hp).elim (fun z=>I.pin p (List.mem_append_left _ z)) (h p),I.hok,I.len,I.qd⟩
theorem ZcR {N:List Str} (hN:N.Nodup) {i j:Nat} {x:Str} (a:N[i]?=some x) (b:N[j]?=some x):i=j:=by
 obtain ⟨h1,e1⟩:=List.getElem?_eq_some_iff.mp a
 obtain ⟨h2,e2⟩:=List.getElem?_eq_some_iff.mp b
 exact (List.getElem_inj hN).mp (e1.trans e2.symm)
theorem ZdM {M:Model} {A:Around} {E:Value->Shared->Prop} {i:Nat} {x:Str} {v:V} {u:Value} {Q:Unit->Shared->Prop} (I:Inv X pins σ H s) (hN:X.N.Nodup) (hi:X.N[i]?=some x) (hx:Loc X.env.scope x) (r:Zz v u)
  (h: ∀ s',Inv X pins (σ.set i (some v)) H s'->(∃ a,Heap.SameBut a s.heap s'.heap/\(a=X.env.locals\/X.env.cells.lookup x=some a))->Q () s') (hf:X.fn x=true\/X.env.scope.names.lookup x=some .local:=by first | exact .inl rfl | exact .inr rfl | assumption):wpAny M A (storeName X.env x u) Q E s:=by
 obtain ⟨m,hn,hl⟩:=id I.loc
 have hcls:(X.env.scope.kind == .class || (X.env.scope.kind == .module && X.env.locals != X.env.globals))=false:=by rw[I.ok.kind];rfl
 have hiσ:i < σ.length:=by rw[I.len];exact (List.getElem?_eq_some_iff.mp hi).1
 have cne:=I.cne
 have tracked: ∀ {a:Addr} {h':Heap},(∃ o,s.heap.get? a=some o/\H a=none)->Heap.SameBut a s.heap h'->HOk X.prog X.w H h':=fun {a h'} ha hs b ob e=>by
  obtain ⟨_,_,hfree⟩:=ha
  refine (I.hok b ob e).stay (fun c w' hc q=>(hs.2 c ?_).trans q) (fun _ q=>q) fun _ _ q=>q
  rintro rfl
  rcases hc with rfl | hc
  ·rw[hfree] at e;cases e
  ·rw[hfree] at hc;cases hc
 rcases hx with hk | hk
 ·refine wpAny_storeName_local hk hn (fun h' hn' hs=> ?_) hcls
  obtain ⟨oL,_,_,hoL,_⟩:=id hn
  refine h _ ⟨I.ok,I.os,I.bare,⟨fun b o e n hb hx=> ?_,fun b o e n hb hx=> ?_,I.base.free,fun b o e hx=> ?_,I.base.tups,I.base.frzs,I.base.tbls⟩,⟨_,hn',fun j y v' e1 e2 e3=> ?_⟩,fun y c e=> ?_,I.free,I.freeC,fun p hp=> ?_,tracked ⟨oL,hoL,I.free⟩ hs,by simpa using I.len,I.qd⟩ ⟨_,hs,.inl rfl⟩
  ·exact (hs.2 b (Nat.ne_of_lt (Nat.lt_of_lt_of_le (Heap.lt_size e) I.ok.above))).trans (I.base.keep b o e n hb hx)
  ·obtain ⟨sl,e1⟩:=I.base.slot b o e n hb hx
   exact ⟨sl,(hs.2 b (Nat.ne_of_lt (Nat.lt_of_lt_of_le (Heap.lt_size e) I.ok.above))).trans e1⟩
  ·obtain ⟨o',e1⟩:=I.base.there b o e hx
   exact ⟨o',(hs.2 b (Nat.ne_of_lt (Nat.lt_of_lt_of_le (Heap.lt_size e) I.ok.above))).trans e1⟩
  ·by_cases hj:j=i
   ·subst hj
    rw[hi] at e1;cases e1
    rw[List.getElem?_set_self hiσ] at e2
    cases e2
    exact ⟨u,r,.inl ⟨hk,by simp⟩⟩
   ·rw[List.getElem?_set_ne (Ne.symm hj)] at e2
    obtain ⟨u',r',q⟩:=hl j y v' e1 e2 e3
    refine ⟨u',r',?_⟩
    rcases q with ⟨k,e⟩ | ⟨k,c,e,z⟩
    ·refine .inl ⟨k,?_⟩
     have:y≠x:=fun e=>hj (ZcR hN e1 (e ▸ hi))
     simp[this,e]
    ·exact .inr ⟨k,c,e,z.sameBut hs (cne y c e)⟩
  ·obtain ⟨w',z⟩:=I.cell y c e
   exact ⟨w',z.sameBut hs (cne y c e)⟩
  ·obtain ⟨e,n,ne,nf,d⟩:=I.pin p hp
   exact ⟨(hs.2 p.1 ne).trans e,n,ne,nf,d⟩
 ·have hfn:X.fn x=true:=by
   rcases hf with z | z
   ·exact z
   ·rw[z] at hk;cases hk
  obtain ⟨c,hc⟩:=I.ok.has x (.inl hk)
  obtain ⟨w',z⟩:=I.cell x c hc
  refine wpAny_storeName_cell I.ok.kind hk hc z (fun h' hc' hs=> ?_)
  obtain ⟨oc,hoc,hocd⟩:=id z
  refine h { s with heap:=h' } ⟨I.ok,I.os,I.bare,⟨fun b o e n hb hx=> ?_,fun b o e n hb hx=> ?_,I.base.free,fun b o e hx=> ?_,I.base.tups,I.base.frzs,I.base.tbls⟩,⟨m,hn.sameBut hs (Ne.symm (cne x c hc)),fun j y v' e1 e2 e3=> ?_⟩,fun y c' e=> ?_,I.free,I.freeC,fun p hp=> ?_,tracked ⟨oc,hoc,I.freeC x c hc⟩ hs,by simpa using I.len,I.qd⟩ ⟨c,hs,.inr hc⟩
  ·exact (hs.2 b (Nat.ne_of_lt (Nat.lt_of_lt_of_le (Heap.lt_size e) (I.ok.cab x c hfn hc)))).trans (I.base.keep b o e n hb hx)
  ·obtain ⟨sl,e1⟩:=I.base.slot b o e n hb hx
   exact ⟨sl,(hs.2 b (Nat.ne_of_lt (Nat.lt_of_lt_of_le (Heap.lt_size e) (I.ok.cab x c hfn hc)))).trans e1⟩
  ·obtain ⟨o',e1⟩:=I.base.there b o e hx
   exact ⟨o',(hs.2 b (Nat.ne_of_lt (Nat.lt_of_lt_of_le (Heap.lt_size e) (I.ok.cab x c hfn hc)))).trans e1⟩
  ·by_cases hj:j=i
   ·subst hj
    rw[hi] at e1;cases e1
    rw[List.getElem?_set_self hiσ] at e2
    cases e2
    exact ⟨u,r,.inr ⟨.inl hk,c,hc,hc'⟩⟩
   ·rw[List.getElem?_set_ne (Ne.symm hj)] at e2
    obtain ⟨u',r',q⟩:=hl j y v' e1 e2 e3
    refine ⟨u',r',?_⟩
    rcases q with q | ⟨k,c',e,z'⟩
    ·exact .inl q
    ·refine .inr ⟨k,c',e,z'.sameBut hs ?_⟩
     rintro rfl
     exact hj (ZcR hN e1 (I.ok.inj _ _ _ e hc ▸ hi))
  ·by_cases hcc:c'=c
   ·subst hcc;exact ⟨_,hc'⟩
   ·obtain ⟨w2,z2⟩:=I.cell y c' e
    exact ⟨w2,z2.sameBut hs hcc⟩
  ·obtain ⟨e,n,ne,nf,d⟩:=I.pin p hp
   refine ⟨(hs.2 p.1 ?_).trans e,n,ne,nf,d⟩
   intro q
   rw[q,hoc] at e
   have q':oc=p.2:=Option.some.inj e
   exact d w' (by rw[<- q'];exact hocd)
theorem ZaW {M:Model} {A:Around} {E:Value->Shared->Prop} {i:Nat} {x:Str} {v:V} {u:Value} {Q:Unit->Shared->Prop} (I:Inv X pins σ H s) (hN:X.N.Nodup) (hi:X.N[i]?=some x) (hx:Loc X.env.scope x) (r:Zz v u)
  (h: ∀ s',Inv X pins (σ.set i (some v)) H s'->Q () s') (hf:X.fn x=true\/X.env.scope.names.lookup x=some .local:=by first | exact .inl rfl | exact .inr rfl | assumption):wpAny M A (storeName X.env x u) Q E s:=
 ZdM I hN hi hx r (fun s' I' _=>h s' I') hf
theorem Inv.call' {s':Shared} {ch:List Addr} (I:Inv X pins σ H s) (ho:s'.os=s.os) (u:Un (frs X.stack) ch H H' s.heap s'.heap) (hok:HOk X.prog X.w H' s'.heap) (hg:AllBare s'.gens)
  (hch: ∀ b∈ch,(b∈X.ex\/X.s₀.heap.objs.size<=b)/\b≠X.env.locals/\(∀ x c,X.env.cells.lookup x=some c->c≠b)/\ ∀ p∈X.pn ++ pins,p.1≠b):Inv X pins σ H' s':=by
 obtain ⟨h',g',d',t',o'⟩:=s'
 have e:o'=s.os:=ho
 subst e
 exact I.call (g':=g') (t':=t') (d':=d') u hok hg hch
end
noncomputable abbrev XK:=Value->Option Addr->Hp->Prop
noncomputable abbrev St:=List (Option V)
noncomputable abbrev VK:=V->Hp->Prop
noncomputable abbrev TE:=St->Hp->VK->Prop
noncomputable abbrev TT:=St->Hp->(Bool->Hp->Prop)->Prop
noncomputable abbrev TA:=St->Hp->(List V->Hp->Prop)->Prop
structure Ends where
 nx:St->Hp->Prop
 rt:VK
 bk:St->Hp->Prop:=fun _ _=>False
 ct:St->Hp->Prop:=fun _ _=>False
noncomputable abbrev TS:=Ends->St->Hp->Prop
noncomputable def EP (X:Cx) (pins:List (Addr × Obj)) (σ:St) (Q:VK) (u:Value) (s':Shared):Prop:= ∃ v H',Inv X pins σ H' s'/\Zz v u/\Q v H'
noncomputable def TP (X:Cx) (pins:List (Addr × Obj)) (σ:St) (Q:Bool->Hp->Prop) (b:Bool) (s':Shared):Prop:= ∃ H',Inv X pins σ H' s'/\Q b H'
noncomputable def AP (X:Cx) (pins:List (Addr × Obj)) (σ:St) (Q:List V->Hp->Prop) (us:List Value) (s':Shared):Prop:= ∃ vs H',Inv X pins σ H' s'/\ZF vs us/\Q vs H'
noncomputable def SP (X:Cx) (pins:List (Addr × Obj)) (D:Ends) (f:Flow) (s':Shared):Prop:=
 match f with
 | .next=> ∃ σ' H',Inv X pins σ' H' s'/\D.nx σ' H'
 | .brk=> ∃ σ' H',Inv X pins σ' H' s'/\D.bk σ' H'
 | .cont=> ∃ σ' H',Inv X pins σ' H' s'/\D.ct σ' H'
 | .ret u=> ∃ v σ' H',Inv X pins σ' H' s'/\Zz v u/\D.rt v H'
noncomputable def PE (X:Cx) (e:Expr) (t:TE):Prop:=
 ∀ (pins:List (Addr × Obj)) (s:Shared) (σ:St) (H:Hp) (Q:VK),Inv X pins σ H s->t σ H Q->wpAny (model X.prog X.w) X.A (eval e X.env) (EP X pins σ Q) X.xe s
noncomputable def PT (X:Cx) (e:Expr) (t:TT):Prop:=
 ∀ (pins:List (Addr × Obj)) (s:Shared) (σ:St) (H:Hp) (Q:Bool->Hp->Prop),Inv X pins σ H s->t σ H Q->wpAny (model X.prog X.w) X.A (isTrue e X.env (eval e X.env)) (TP X pins σ Q) X.xe s
noncomputable def PW (X:Cx) (e:Expr) (t:TT):Prop:=
 ∀ (whole:Sem Value) (pins:List (Addr × Obj)) (s:Shared) (σ:St) (H:Hp) (Q:Bool->Hp->Prop),Inv X pins σ H s->t σ H Q->wpAny (model X.prog X.w) X.A (isTrue e X.env whole) (TP X pins σ Q) X.xe s
theorem PW.pt {X:Cx} {e:Expr} {t:TT} (h:PW X e t):PT X e t:=h _
noncomputable def PA (X:Cx) (es:List Expr) (t:TA):Prop:=
 ∀ (pos:Pos) (pins:List (Addr × Obj)) (s:Shared) (σ:St) (H:Hp) (Q:List V->Hp->Prop),Inv X pins σ H s->t σ H Q->wpAny (model X.prog X.w) X.A (spliced (backTo pos (starEach es X.env))) (AP X pins σ Q) X.xe s
noncomputable def PS (X:Cx) (st:Stmt) (t:TS):Prop:=
 ∀ (pins:List (Addr × Obj)) (s:Shared) (σ:St) (H:Hp) (D:Ends),Inv X pins σ H s->t D σ H->wpAny (model X.prog X.w) X.A (exec st X.env) (SP X pins D) X.xe s
noncomputable def PSs (X:Cx) (st:List Stmt) (t:TS):Prop:=
 ∀ (pins:List (Addr × Obj)) (s:Shared) (σ:St) (H:Hp) (D:Ends),Inv X pins σ H s->t D σ H->wpAny (model X.prog X.w) X.A (execs st X.env) (SP X pins D) X.xe s
theorem thn {α:Type} {t:Sem α} {Q Q':α->Shared->Prop} {M:Model} {A:Around} {E:Value->Shared->Prop} {s:Shared} (h:wpAny M A t Q E s) (hQ: ∀ a s,Q a s->Q' a s):wpAny M A t Q' E s:=wpAny_mono h hQ fun _ _ x=>x
end L2
namespace L2
open PySem PySem.Spec PyProof.Rows
section
variable {X:Cx}
theorem bin {a b:Expr} {ta tb:TE} (ha:PE X a ta) (hb:PE X b tb) {pins:List (Addr × Obj)} {s:Shared} {σ:St} {H:Hp} {R:V->V->Hp->Prop} (I:Inv X pins σ H s) (h:ta σ H fun x H1=>tb σ H1 fun y H2=>R x y H2)
  {α:Type} {Q:α->Shared->Prop} {f:Value->Value->Sem α}
  (hf: ∀ v u s2 x y H2,Inv X pins σ H2 s2->Zz x v->Zz y u->R x y H2->wpAny (model X.prog X.w) X.A (f v u) Q X.xe s2):
  wpAny (model X.prog X.w) X.A (eval a X.env) (fun v s₁=>wpAny (model X.prog X.w) X.A (eval b X.env) (fun u s₂=>wpAny (model X.prog X.w) X.A (f v u) Q X.xe s₂) X.xe s₁) X.xe s:=by
 refine thn (ha pins s σ H _ I h) fun v s1 ⟨x,H1,I1,r1,q1⟩=> ?_
 refine thn (hb pins s1 σ H1 _ I1 q1) fun u s2 ⟨y,H2,I2,r2,q2⟩=> ?_
 exact hf v u s2 x y H2 I2 r1 r2 q2
noncomputable def Znb (i:Nat):TE:=fun σ H Q=> ∃ v,σ[i]?=some (some v)/\Q v H
noncomputable def tC (v:V):TE:=fun _ H Q=>Q v H
theorem ZfY {i:Nat} {x:Str} {pos:Pos} (hN:X.N[i]?=some x) (hv:Vis X.env.scope x) (hd:(x == ("__debug__":Str))=false:=by decide) (hcd:(x == ("__classdict__":Str))=false:=by decide):PE X (.Name x pos) (Znb i):=by
 intro pins s σ H Q I h
 obtain ⟨v,e,h⟩:=h
 obtain ⟨m,hn,hl⟩:=I.loc
 obtain ⟨u,r,l⟩:=hl i x v hN e hv
 have fin:EP X pins σ Q u s:=⟨v,H,I,r,h⟩
 rcases l with ⟨hk,hm⟩ | ⟨hk,c,hc,hcell⟩
 ·exact wpAny_Name (wpAny_loadName_local I.ok.kind hk hn hm fin) hd
 ·rcases hk with hk | hk
  ·exact wpAny_Name (wpAny_loadName_cell I.ok.kind hk hc hcell fin) hd
  ·exact wpAny_Name (wpAny_loadName_free I.ok.kind hk hc hcell fin hcd) hd
theorem Ziq {i j pos}:PE X (.Constant (.int i) j pos) (tC (.int i)):=fun _ _ _ H _ I h=>wpAny_Constant_int ⟨.int i,H,I.tok _,⟨_,rfl⟩,h⟩
theorem Zlh {b j pos}:PE X (.Constant (.bool b) j pos) (tC (.bl b)):=fun _ _ _ H _ I h=>Constant_bool ⟨.bl b,H,I,rfl,h⟩
theorem Zir {x j pos}:PE X (.Constant (.str x) j pos) (tC (.str x)):=fun _ _ _ H _ I h=>Calls.Constant_str ⟨.str x,H,I.tok _,⟨_,rfl⟩,h⟩
noncomputable def Gl (X:Cx) (x:Str):Prop:=X.env.kindOf x=some .globalImplicit
theorem ZdN {E:Value->Shared->Prop} {pins:List (Addr × Obj)} {s:Shared} {σ:St} {H:Hp} {x:Str} {u:Value} {pos:Pos} {Q:Value->Shared->Prop} (I:Inv X pins σ H s) (hg:Gl X x) (hm:X.mg x=some u) (h:Q u s)
  (hd:(x == ("__debug__":Str))=false:=by decide):wpAny (model X.prog X.w) X.A (eval (.Name x pos) X.env) Q E s:=
 Calls.Name_function_global I.ok.kind hg (Calls.loadGlobal_global (by rw[I.ok.glob];exact I.mod.glob.keeps I.bk) hm h) hd
theorem ZbJ {E:Value->Shared->Prop} {pins:List (Addr × Obj)} {s:Shared} {σ:St} {H:Hp} {x:Str} {u:Value} {pos:Pos} {Q:Value->Shared->Prop} (I:Inv X pins σ H s) (hg:Gl X x) (hm:X.mg x=none) (hv:bootBuiltins x=some u) (h:Q u s)
  (hn:x≠"__name__":=by decide) (hd:(x == ("__debug__":Str))=false:=by decide):wpAny (model X.prog X.w) X.A (eval (.Name x pos) X.env) Q E s:=by
 obtain ⟨mb,h1,h2⟩:=I.mod.blt
 exact Calls.Name_function_global I.ok.kind hg (Calls.loadGlobal_builtin (by rw[I.ok.glob];exact I.mod.glob.keeps I.bk) hm (by rw[I.ok.blt];exact h1.keeps I.bk) ((h2 x hn).trans hv) h) hd
theorem ZgE {x:Str} {v:V} {u:Value} {pos:Pos} (hg:Gl X x) (hm:X.mg x=none) (hv:bootBuiltins x=some u) (r:Zz v u) (hn:x≠"__name__":=by decide) (hd:(x == ("__debug__":Str))=false:=by decide):PE X (.Name x pos) (tC v):=
 fun _ _ _ H _ I h=>ZbJ I hg hm hv ⟨v,H,I,r,h⟩ hn hd
variable {a b:Expr} {ta tb:TE} {pos:Pos}
noncomputable def PC (X:Cx) (op:CmpOp) (a b:Expr) (t:TE):Prop:=
 ∀ (pins:List (Addr × Obj)) (s:Shared) (σ:St) (H:Hp) (Q:VK),Inv X pins σ H s->t σ H Q->
  wpAny (model X.prog X.w) X.A (eval a X.env) (fun v s₁=>wpAny (model X.prog X.w) X.A (eval b X.env) (fun u s₂=>wpAny (model X.prog X.w) X.A (compareOp op v u) (EP X pins σ Q) X.xe s₂) X.xe s₁) X.xe s
theorem Ze8 (b:Expr) {op:CmpOp} (h:op≠ .In) (h2:op≠ .NotIn):behindInMarks op b=false:=by
 have e1:(op == CmpOp.In)=false:=by cases op<;>first | rfl | exact absurd rfl h
 have e2:(op == CmpOp.NotIn)=false:=by cases op<;>first | rfl | exact absurd rfl h2
 cases b<;>simp[behindInMarks,e1,e2]
noncomputable def tB (t:TE):TT:=fun σ H Q=>t σ H fun x H1=> ∃ c,x= .bl c/\Q c H1
theorem Znc {op:CmpOp} {t:TE} (h:PC X op a b t) (h1:behindInMarks op b=false:=by first | exact Ze8 _ (by decide) (by decide) | rfl):PT X (.Compare a [op] [b] pos) (tB t):=by
 intro pins s σ H Q I hw
 refine wpAny_isTrue_Compare1 (thn (h pins s σ H _ I hw) fun v s1 h1=>thn h1 fun u s2 h2=>thn h2 fun c s3 ⟨x,H1,I1,r1,q1⟩=> ?_) h1
 obtain ⟨d,rfl,q⟩:=q1
 cases r1
 exact wpAny_truthy_bool ⟨H1,I1,q⟩
theorem Zis {e:Expr} {t:TE} (h:PE X e t) (he: ∀ whole,isTrue e X.env whole=(do let v <- whole;standAt e.pos;holding [v] (truthy v)):=by intro _;rfl):PT X e (tB t):=by
 intro pins s σ H Q I hw
 refine isTrue_plain (thn (h pins s σ H _ I hw) fun v s1 ⟨x,H1,I1,r1,q1⟩=> ?_) (he _)
 obtain ⟨d,rfl,q⟩:=q1
 cases r1
 exact wpAny_truthy_bool ⟨H1,I1,q⟩
variable {tA tB':TT} {rest:List Expr}
noncomputable def Zol (t u:TT):TT:=fun σ H Q=>t σ H fun c H1=>if c=true then u σ H1 Q else Q false H1
noncomputable def tOr (t u:TT):TT:=fun σ H Q=>t σ H fun c H1=>if c=true then Q true H1 else u σ H1 Q
noncomputable def Zom (t:TT):TT:=fun σ H Q=>t σ H fun c H1=>Q (!c) H1
theorem pw_and1 (ha:PT X a tA):PW X (.BoolOp .And [a] pos) tA:=by
 intro wh pins s σ H Q I h
 refine isTrue_and (thn (ha pins s σ H Q I h) fun c s1 e=> ?_)
 cases c with
 |true=>exact isTrue_and_nil e
 |false=>exact e
theorem pw_or1 (ha:PT X a tA):PW X (.BoolOp .Or [a] pos) tA:=by
 intro wh pins s σ H Q I h
 refine isTrue_or (thn (ha pins s σ H Q I h) fun c s1 e=> ?_)
 cases c with
 |false=>exact isTrue_or_nil e
 |true=>exact e
theorem pw_and (ha:PT X a tA) (hb:PW X (.BoolOp .And (b :: rest) pos) tB'):PW X (.BoolOp .And (a :: b :: rest) pos) (Zol tA tB'):=by
 intro wh pins s σ H Q I h
 refine isTrue_and (thn (ha pins s σ H _ I h) fun c s1 ⟨H1,I1,q1⟩=> ?_)
 cases c with
 |true=>exact hb wh pins s1 σ H1 Q I1 q1
 |false=>exact ⟨H1,I1,q1⟩
theorem pw_or (ha:PT X a tA) (hb:PW X (.BoolOp .Or (b :: rest) pos) tB'):PW X (.BoolOp .Or (a :: b :: rest) pos) (tOr tA tB'):=by
 intro wh pins s σ H Q I h
 refine isTrue_or (thn (ha pins s σ H _ I h) fun c s1 ⟨H1,I1,q1⟩=> ?_)
 cases c with
 |true=>exact ⟨H1,I1,q1⟩
 |false=>exact hb wh pins s1 σ H1 Q I1 q1
theorem Zit (ha:PT X a tA):PT X (.UnaryOp .Not a pos) (Zom tA):=by
 intro pins s σ H Q I h
 exact isTrue_not (ha pins s σ H (fun c H1=>Q (!c) H1) I h)
end
end L2
namespace L2
open PySem PySem.Spec PyProof.Rows
noncomputable def SqL (K:PySem.W.Frag) (H:Hp) (a:Addr) (xs:List V):Prop:=
 Rd H a (.lst xs)\/
  ∃ (o:Obj) (its:Array Value) (n:Nat),K.lookup a=some o/\o.cls= .type "list"/\o.dict=none/\o.data= .seq its n/\its.size<=sizeLine/\ZF xs its.toList
noncomputable def SqT (K:PySem.W.Frag) (H:Hp) (a:Addr) (xs:List V):Prop:=
 Rd H a (.tup xs)\/
  ∃ (o:Obj) (its:Array Value) (n:Nat),K.lookup a=some o/\o.cls= .type "tuple"/\o.data= .seq its n/\its.size<=sizeLine/\ZF xs its.toList
noncomputable def Zon:Value->Option V
 | .none=>some .non
 | .bool b=>some (.bl b)
 | .int i _=>some (.int i)
 | .str x _=>some (.str x)
 | .bytes b _=>some (.byt b)
 | .float b _=>some (.flt b)
 | .ref a=>some (.ref a)
 | .type n=>some (.ty n)
 |_=>none
theorem Zz.abs {x:V} {u:Value} (r:Zz x u):Zon u=some x:=by
 cases x with
 |non=>cases r;rfl
 |bl _=>cases r;rfl
 |int _=>obtain ⟨t,rfl⟩:=r;rfl
 |str _=>obtain ⟨t,rfl⟩:=r;rfl
 |byt _=>obtain ⟨t,rfl⟩:=r;rfl
 |flt _=>obtain ⟨t,rfl⟩:=r;rfl
 |ref _=>cases r;rfl
 |ty _=>cases r;rfl
theorem Zz.inj {x y:V} {u:Value} (r:Zz x u) (q:Zz y u):x=y:=Option.some.inj (r.abs.symm.trans q.abs)
theorem ZF.inj: ∀ {xs ys:List V} {us:List Value},ZF xs us->ZF ys us->xs=ys
 |_,_,_,.nil,.nil=>rfl
 |_,_,_,.cons r t,.cons r' t'=>by rw[r.inj r',ZF.inj t t']
section
variable {X:Cx} {pins:List (Addr × Obj)} {σ:St} {H:Hp} {s:Shared} {a:Addr} {xs ys:List V}
theorem SqL.of {K:PySem.W.Frag} (h:H a=some (.lst xs)):SqL K H a xs:= .inl (.inl h)
theorem SqT.of {K:PySem.W.Frag} (h:H a=some (.tup xs)):SqT K H a xs:= .inl (.inl h)
theorem Inv.list (I:Inv X pins σ H s) (h:SqL X.K H a xs): ∃ its:List Value,ZF xs its/\PlainL s.heap a its.toArray/\xs.length<=sizeLine:=by
 rcases h with h | ⟨o,its,n,hk,hc,hd,hs,hz,r⟩
 ·obtain ⟨z,its,n,r,e⟩:=h.ok I.hok
  exact ⟨its,r,⟨_,n,e,rfl,rfl,rfl⟩,z⟩
 ·refine ⟨its.toList,r,⟨o,n,I.kIn a o hk,hc,hd,by simpa using hs⟩,?_⟩
  have e:=r.length
  simp only[Array.length_toList] at e
  omega
theorem Inv.tuple (I:Inv X pins σ H s) (h:SqT X.K H a xs): ∃ its:List Value,ZF xs its/\IsTup s.heap a its.toArray/\xs.length<=sizeLine:=by
 rcases h with h | ⟨o,its,n,hk,hc,hs,hz,r⟩
 ·obtain ⟨z,its,r,p⟩:=h.ok I.hok
  exact ⟨its,r,p,z⟩
 ·refine ⟨its.toList,r,⟨o,I.kIn a o hk,hc,n,by simpa using hs⟩,?_⟩
  have e:=r.length
  simp only[Array.length_toList] at e
  omega
theorem Inv.list_inj (I:Inv X pins σ H s) (h:SqL X.K H a xs) (h':SqL X.K H a ys):xs=ys:=by
 obtain ⟨its,r,⟨o,n,e,_,_,d⟩,_⟩:=I.list h
 obtain ⟨its',r',⟨o',n',e',_,_,d'⟩,_⟩:=I.list h'
 rw[e] at e';cases e'
 rw[d] at d'
 injection d' with d1 _
 have:its=its':=by simpa using congrArg Array.toList d1
 subst this
 exact r.inj r'
theorem Inv.tuple_inj (I:Inv X pins σ H s) (h:SqT X.K H a xs) (h':SqT X.K H a ys):xs=ys:=by
 obtain ⟨its,r,⟨o,e,_,n,d⟩,_⟩:=I.tuple h
 obtain ⟨its',r',⟨o',e',_,n',d'⟩,_⟩:=I.tuple h'
 rw[e] at e';cases e'
 rw[d] at d'
 injection d' with d1 _
 have:its=its':=by simpa using congrArg Array.toList d1
 subst this
 exact r.inj r'
end
section
variable {X:Cx} {pins:List (Addr × Obj)} {σ:St} {H:Hp} {s:Shared} {E:Value->Shared->Prop}
end
section
variable {X:Cx} {st:Stmt} {rest:List Stmt} {t u:TS} {e:Expr} {te:TE} {pos:Pos}
noncomputable def tNext:TS:=fun D σ H=>D.nx σ H
noncomputable def Zoo (t u:TS):TS:=fun D σ H=>t { D with nx:=u D } σ H
theorem ZgF:PSs X [] tNext:=fun _ _ σ H _ I h=>wpAny_execs_nil ⟨σ,H,I,h⟩
theorem Ze9 (h1:PS X st t) (h2:PSs X rest u):PSs X (st :: rest) (Zoo t u):=by
 intro pins s σ H D I h
 refine wpAny_execs_cons (thn (h1 pins s σ H { D with nx:=u D } I h) fun f s1 q=> ?_)
 cases f with
 |next=>
  obtain ⟨σ',H',I',q⟩:=q
  exact h2 pins s1 σ' H' D I' q
 |ret v=>exact q
 |brk=>exact q
 |cont=>exact q
theorem ZgG (h1:PS X st t):PSs X [st] t:=by
 intro pins s σ H D I h
 refine wpAny_execs_cons (thn (h1 pins s σ H D I h) fun f s1 q=> ?_)
 cases f with
 |next=>exact wpAny_execs_nil q
 |ret v=>exact q
 |brk=>exact q
 |cont=>exact q
theorem Inv.quiet {pins:List (Addr × Obj)} {σ:St} {H:Hp} {s:Shared} (I:Inv X pins σ H s):interactive X.env=false:=by simp[interactive,I.ok.kind]
noncomputable def Zli (te:TE):TS:=fun D σ H=>te σ H fun _ H1=>D.nx σ H1
theorem ZgH (he:PE X e te) (hs:swapsWith e none pos.line X.env=pure false:=by rfl):PS X (.Expr e pos) (Zli te):=by
 intro pins s σ H D I h
 exact wpAny_Expr_any (thn (he pins s σ H _ I h) fun v s1 ⟨x,H1,I1,r1,q1⟩=>⟨σ,H1,I1,q1⟩) I.quiet hs
noncomputable def Zop (te:TE):TS:=fun D σ H=>te σ H D.rt
theorem Ziu (he:PE X e te):PS X (.Return (some e) pos) (Zop te):=by
 intro pins s σ H D I h
 exact wpAny_Return_some (thn (he pins s σ H _ I h) fun v s1 ⟨x,H1,I1,r1,q1⟩=>⟨x,σ,H1,I1,r1,q1⟩)
noncomputable def Zoq (c:TT) (t u:TS):TS:=fun D σ H=>c σ H fun b H1=>if b=true then t D σ H1 else u D σ H1
theorem Zlj {c:Expr} {a b:List Stmt} {tc:TT} (hc:PT X c tc) (ha:PSs X a t) (hb:PSs X b u):PS X (.If c a b pos) (Zoq tc t u):=by
 intro pins s σ H D I h
 refine wpAny_If (thn (hc pins s σ H _ I h) fun d s1 ⟨H1,I1,q1⟩=> ?_)
 cases d with
 |true=>exact ha pins s1 σ H1 D I1 q1
 |false=>exact hb pins s1 σ H1 D I1 q1
end
noncomputable abbrev TG:=V->St->Hp->(St->Hp->Prop)->Prop
noncomputable abbrev TGs:=List V->St->Hp->(St->Hp->Prop)->Prop
noncomputable def PG (X:Cx) (target:Expr) (t:TG):Prop:=
 ∀ (pins:List (Addr × Obj)) (s:Shared) (σ:St) (H:Hp) (v:V) (u:Value) (Q:St->Hp->Prop),Inv X pins σ H s->Zz v u->t v σ H Q->
  wpAny (model X.prog X.w) X.A (assign target X.env u) (fun _ s'=> ∃ σ' H',Inv X pins σ' H' s'/\Q σ' H') X.xe s
noncomputable def PGs (X:Cx) (ts:List Expr) (t:TGs):Prop:=
 ∀ (pins:List (Addr × Obj)) (s:Shared) (σ:St) (H:Hp) (vs:List V) (us:List Value) (Q:St->Hp->Prop),Inv X pins σ H s->ZF vs us->t vs σ H Q->
  wpAny (model X.prog X.w) X.A (assignInOrder ((assignEach ts X.env).map (·.2)) us) (fun _ s'=> ∃ σ' H',Inv X pins σ' H' s'/\Q σ' H') X.xe s
noncomputable abbrev Zlk:=V->V->V->Hp->(Hp->Prop)->Prop
noncomputable def Znd (X:Cx) (t:Zlk):Prop:=
 ∀ (pins:List (Addr × Obj)) (s:Shared) (σ:St) (H:Hp) (o i v:V) (ov iv u:Value) (Q:Hp->Prop),Inv X pins σ H s->Zz o ov->Zz i iv->Zz v u->t o i v H Q->
  wpAny (model X.prog X.w) X.A (setItem ov iv u) (fun _ s'=> ∃ H',Inv X pins σ H' s'/\Q H') X.xe s
section
variable {X:Cx} {pos:Pos}
noncomputable def Ziv (i:Nat):TG:=fun v σ H Q=>Q (σ.set i (some v)) H
theorem ZgI {i:Nat} {x:Str} (hN:X.N.Nodup) (hi:X.N[i]?=some x) (hx:Loc X.env.scope x) (hf:X.fn x=true\/X.env.scope.names.lookup x=some .local:=by first | exact .inl rfl | exact .inr rfl | assumption):PG X (.Name x pos) (Ziv i):=by
 intro pins s σ H v u Q I r h
 exact wpAny_assign_Name (ZaW I hN hi hx r (fun s' I'=>⟨_,H,I',h⟩) hf)
noncomputable def gNil:TGs:=fun vs σ H Q=>vs=[]/\Q σ H
noncomputable def Zll (t:TG) (u:TGs):TGs:=fun vs σ H Q=> ∃ v r,vs=v :: r/\t v σ H fun σ' H'=>u r σ' H' Q
theorem ZgJ:PGs X [] gNil:=by
 intro pins s σ H vs us Q I r h
 obtain ⟨e,h⟩:=h
 subst e
 cases r
 exact assignInOrder_nil ⟨σ,H,I,h⟩
theorem Zfa {e:Expr} {es:List Expr} {t:TG} {u:TGs} (h1:PG X e t) (h2:PGs X es u)
  (hs:(assignEach (e :: es) X.env).map (·.2)=assign e X.env :: (assignEach es X.env).map (·.2):=by rfl):PGs X (e :: es) (Zll t u):=by
 intro pins s σ H vs us Q I r h
 obtain ⟨v,vr,e1,h⟩:=h
 subst e1
 cases r with
 |cons r rr=>
  rw[hs]
  refine assignInOrder_cons (thn (h1 pins s σ H _ _ _ I r h) fun _ s1 ⟨σ1,H1,I1,q1⟩=> ?_)
  exact h2 pins s1 σ1 H1 _ _ Q I1 rr q1
noncomputable def Zor (K:PySem.W.Frag) (n:Nat) (t:TGs):TG:=fun v σ H Q=> ∃ a xs,v= .ref a/\SqT K H a xs/\xs.length=n/\t xs σ H Q
theorem Ziw {es:List Expr} {k:Nat} {t:TGs} {n:Nat} (hc:X.calm=true) (h:PGs X es t)
  (hn:(assignEach es X.env).length=n:=by rfl) (hst:(assignEach es X.env).findIdx? (·.1)=none:=by rfl):PG X (.Tuple es k pos) (Zor X.K n t):=by
 intro pins s σ H v u Q I r hw
 obtain ⟨a,xs,e1,hq,hl,hw⟩:=hw
 subst e1
 cases r
 obtain ⟨its,rv,ht,hz⟩:=I.tuple hq
 refine assign_Tuple_tuple (I.ok.hd hc) ht (by simp[hn,<- hl,rv.length]) hst fun h' hx=> ?_
 have I1:Inv X pins σ H { s with heap:=h' }:=I.kept (t':=s.toks) fun b o e=>hx b o (Nat.ne_of_lt (Heap.lt_size e)) e
 exact h pins _ σ H xs _ Q I1 (by simpa using rv) hw
noncomputable def Zos (to ti:TE) (t:Zlk):TG:=fun v σ H Q=>to σ H fun o H1=>ti σ H1 fun i H2=>t o i v H2 fun H3=>Q σ H3
theorem Zix {o i:Expr} {to ti:TE} {t:Zlk} (ho:PE X o to) (hi:PE X i ti) (hs:Znd X t)
  (ha: ∀ v,assign (.Subscript o i pos) X.env v=(do
   let ov <- holding [v] (eval o X.env)
   let iv <- holding [v,ov] (eval i X.env)
   standAt pos
   holding [v,ov,iv] (setItem ov iv v)
   release [v,ov,iv] []):=by intro _;rfl):PG X (.Subscript o i pos) (Zos to ti t):=by
 intro pins s σ H v u Q I r h
 rw[ha]
 refine wpAny_bind (wpAny_holding (thn (ho pins s σ H _ I h) fun ov s1 ⟨x,H1,I1,r1,q1⟩=> ?_))
 refine wpAny_bind (wpAny_holding (thn (hi pins s1 σ H1 _ I1 q1) fun iv s2 ⟨y,H2,I2,r2,q2⟩=> ?_))
 refine wpAny_bind (wpAny_standAt (wpAny_bind (wpAny_holding (thn (hs pins s2 σ H2 x y v ov iv u _ I2 r1 r2 r q2) fun _ s3 ⟨H3,I3,q3⟩=> ?_))))
 exact wpAny_release ⟨σ,H3,I3,q3⟩
noncomputable def Zne (te:TE) (g:TG):TS:=fun D σ H=>te σ H fun x H1=>g x σ H1 D.nx
theorem ZfZ {tg e:Expr} {te:TE} {g:TG} (he:PE X e te) (hg:PG X tg g) (hs:swapsWithSole [tg] e pos.line X.env=pure false:=by rfl) (hw:swappedStores [tg] e X.env=pure none:=by rfl)
  (h1:(assignEach [tg] X.env).map (·.2)=[assign tg X.env]:=by rfl):PS X (.Assign [tg] e pos) (Zne te g):=by
 intro pins s σ H D I h
 refine wpAny_Assign_stores (thn (he pins s σ H _ I h) fun v s1 ⟨x,H1,I1,r1,q1⟩=> ?_) hs hw
 rw[h1]
 exact thn (hg pins s1 σ H1 x v _ I1 r1 q1) fun _ s2 q=>q
theorem Ziy {i:Nat} {x:Str} {e:Expr} {te:TE} {pos':Pos} (hN:X.N.Nodup) (hi:X.N[i]?=some x) (hx:Loc X.env.scope x) (he:PE X e te) (hs:swapsWith e (some (.Name x pos')) pos.line X.env=pure false:=by rfl) (hf:X.fn x=true\/X.env.scope.names.lookup x=some .local:=by first | exact .inl rfl | exact .inr rfl | assumption):
  PS X (.Assign [.Name x pos'] e pos) (Zne te (Ziv i)):=by
 intro pins s σ H D I h
 refine wpAny_Assign_Name (thn (he pins s σ H _ I h) fun v s1 ⟨y,H1,I1,r1,q1⟩=> ?_) hs
 exact ZaW I1 hN hi hx r1 (fun s2 I2=>⟨_,H1,I2,q1⟩) hf
noncomputable def Zot (i j:Nat) (ta:TA):TS:=fun D σ H=>ta σ H fun vs H1=> ∃ v w,vs=[v,w]/\D.nx ((σ.set i (some v)).set j (some w)) H1
theorem Ziz {i j:Nat} {x y:Str} {a b:Expr} {ta:TA} {px py pt:Pos} {kt k2 pt2} (hc:X.calm=true) (hN:X.N.Nodup) (hi:X.N[i]?=some x) (hj:X.N[j]?=some y) (hij:i≠j)
  (hx:X.env.scope.names.lookup x=some .local) (hy:X.env.scope.names.lookup y=some .local) (ha:PA X [a,b] ta)
  (hw:swappedStores [.Tuple [.Name x px,.Name y py] kt pt] (.Tuple [a,b] k2 pt2) X.env=pure (some [x,y]))
  (hs:swapsWithSole [.Tuple [.Name x px,.Name y py] kt pt] (.Tuple [a,b] k2 pt2) pos.line X.env=pure false:=by rfl):
  PS X (.Assign [.Tuple [.Name x px,.Name y py] kt pt] (.Tuple [a,b] k2 pt2) pos) (Zot i j ta):=by
 intro pins s σ H D I h
 rw[exec_Assign_arm]
 refine wpAny_bind (wpAny_standAt ?_)
 rw[hs]
 refine wpAny_bind (wpAny_pure ?_)
 rw[if_neg (by decide)]
 refine wpAny_bind (Tuple_ (thn (ha _ pins s σ H _ I h) fun us s1 ⟨vs,H1,I1,r1,q1⟩=> ?_))
 obtain ⟨v,w,e1,q1⟩:=q1
 subst e1
 obtain ⟨u1,u2,rfl,rv,rw'⟩: ∃ u1 u2,us=[u1,u2]/\Zz v u1/\Zz w u2:=by
  cases r1 with
  |cons p q=>
   cases q with
   |cons p' q'=>
    cases q'
    exact ⟨_,_,rfl,p,p'⟩
 refine wpAny_newObj_type ?_ (by show 2<=sizeLine;decide)
 have I2:Inv X pins σ H1 { s1 with heap:=s1.heap.push { cls:= .type "tuple",data:= .seq [u1,u2].toArray } }:=I1.kept (t':=s1.toks) fun b o e=>Heap.get?_push_of_some _ e
 rw[hw]
 refine wpAny_bind (wpAny_pure ?_)
 show wpAny (model X.prog X.w) X.A (do rule "assign.swapped-stores";let items <- unpackItems (.ref s1.heap.objs.size) 2 none;assignInOrder [fun v=>bindName X.env y v,fun v=>bindName X.env x v] items.reverse;pure Flow.next) _ _ _
 refine wpAny_bind (wpAny_rule (wpAny_bind (unpackItems_tuple (items:= #[u1,u2]) (I.ok.hd hc) (IsTup.new s1.heap _) fun h' hx'=> ?_)))
 have I3:=I2.kept (h':=h') (t':=s1.toks) fun b o e=>hx' b o (Nat.ne_of_lt (Heap.lt_size e)) e
 show wpAny _ _ (assignInOrder [fun v=>bindName X.env y v,fun v=>bindName X.env x v] [u2,u1] >>= fun _=>pure Flow.next) _ _ _
 refine wpAny_bind (assignInOrder_cons (wpAny_bindName (ZaW I3 hN hj (.inl hy) rw' (fun s2 I4=> ?_) (.inr hy))))
 refine assignInOrder_cons (wpAny_bindName (ZaW I4 hN hi (.inl hx) rv (fun s3 I5=>assignInOrder_nil (wpAny_pure ?_)) (.inr hx)))
 rw[List.set_comm _ _ (Ne.symm hij)] at I5
 exact ⟨_,H1,I5,q1⟩
end
section
variable {X:Cx} {pos:Pos}
noncomputable def ZiA (c:TT) (tb:TS):TS:=fun D σ H=> ∃ W:Nat->St->Hp->Prop,(∃ m,W m σ H)/\ ∀ m σ H,W m σ H->
 c σ H fun b H1=>if b=true then ∃ N:St->Hp->Prop,(∀ σ' H',N σ' H'-> ∃ m',m' < m/\W m' σ' H')/\tb { D with nx:=N,ct:=N,bk:=D.nx } σ H1 else D.nx σ H1
theorem Zfb {c:Expr} {body:List Stmt} {tc:TT} {tb:TS} (hp:PassesOwn (model X.prog X.w) X.A X.env X.xe) (hc:PT X c tc) (hb:PSs X body tb):PS X (.While c body [] pos) (ZiA tc tb):=by
 intro pins s σ H D I h
 obtain ⟨W,⟨m0,w0⟩,turn⟩:=h
 refine wpAny_While (codeAny_whileLoop (fun n s'=> ∃ σ' H',Inv X pins σ' H' s'/\W n σ' H') ?_ m0 ⟨σ,H,I,w0⟩)
 rintro n s1 ⟨σ1,H1,I1,w1⟩
 refine wpAny_passesOwn hp (thn (hc pins s1 σ1 H1 _ I1 (turn n σ1 H1 w1)) fun b s2 ⟨H2,I2,q2⟩=> ?_)
 cases b with
 |true=>
  obtain ⟨N,hN,q2⟩:=q2
  rw[if_pos rfl]
  refine wpAny_passesOwn hp (thn (hb pins s2 σ1 H2 _ I2 q2) fun f s3 q3=> ?_)
  cases f with
  |next=>
   obtain ⟨σ3,H3,I3,n3⟩:=q3
   obtain ⟨m',hm,w3⟩:=hN σ3 H3 n3
   exact ⟨m',hm,σ3,H3,I3,w3⟩
  |cont=>
   obtain ⟨σ3,H3,I3,n3⟩:=q3
   obtain ⟨m',hm,w3⟩:=hN σ3 H3 n3
   exact ⟨m',hm,σ3,H3,I3,w3⟩
  |brk=>exact q3
  |ret v=>exact q3
 |false=>
  rw[if_neg Bool.false_ne_true]
  exact wpAny_execs_nil ⟨σ1,H2,I2,q2⟩
end
structure It where
 go:Nat->Hp->Prop
 yld:Nat->Hp->V->Hp->Prop
 stop:Nat->Hp->Prop
noncomputable def Zdf (X:Cx) (pins:List (Addr × Obj)) (H:Hp) (b:Addr):Prop:=
 H b=none/\b≠X.env.locals/\b ∉ X.fs/\(b∈X.ex\/X.s₀.heap.objs.size<=b)/\(∀ x c,X.env.cells.lookup x=some c->c≠b)/\ ∀ p∈X.pn ++ pins,p.1≠b
theorem Inv.fpOk {X:Cx} {pins:List (Addr × Obj)} {σ:St} {H H':Hp} {s:Shared} {b:Addr} (I:Inv X pins σ H s) (hb:s.heap.objs.size<=b) (hn:H' b=none):Zdf X pins H' b:=by
 refine ⟨hn,Nat.ne_of_gt (Nat.lt_of_lt_of_le I.lt hb),I.nofs hb,.inr (Nat.le_trans I.sz hb),fun x c e z=> ?_,fun p hp z=> ?_⟩
 ·obtain ⟨v,q⟩:=I.cell x c e
  exact absurd (Nat.lt_of_lt_of_le q.lt (by rw[z];exact hb)) (Nat.lt_irrefl _)
 ·exact absurd (Nat.lt_of_lt_of_le (Heap.lt_size (I.pin p hp).1) (by rw[z];exact hb)) (Nat.lt_irrefl _)
structure Turn (P:Program) (w:World) (K:PySem.W.Frag) (B:Around) (tg:Expr) (J:It) (fp:List Addr) (it:Addr) (tn:Nat->Heap->Prop):Prop where
 mem:it∈fp
 obj: ∀ i h,tn i h-> ∀ b∈fp,∃ o,h.get? b=some o/\ ∀ v,o.data≠ .cell v
 keep: ∀ i h h',tn i h->(∀ b∈fp,∀ o,h.get? b=some o->h'.get? b=some o)->tn i h'
 item: ∀ (X:Cx),X.prog=P->X.w=w->X.K=K->X.A=B-> ∀ (i:Nat) (pins:List (Addr × Obj)) (s:Shared) (σ:St) (H:Hp) (E:Value->Shared->Prop),Inv X pins σ H s->(∀ b∈fp,Zdf X pins H b)->tn i s.heap->J.go i H->
  wpAny (model P w) X.A (pyNext (.ref it)) (fun r s1=> ∃ u,r=some u/\
   wpAny (model P w) X.A (letOwnedTupleGo tg (.ref it) u) (fun _ s2=> ∃ x H',Inv X pins σ H' s2/\Zz x u/\J.yld i H x H'/\tn (i + 1) s2.heap/\ ∀ b∈fp,H' b=none) E s1) E s
 done: ∀ (X:Cx),X.prog=P->X.w=w->X.K=K->X.A=B-> ∀ (i:Nat) (pins:List (Addr × Obj)) (s:Shared) (σ:St) (H:Hp) (E:Value->Shared->Prop),Inv X pins σ H s->(∀ b∈fp,Zdf X pins H b)->tn i s.heap->J.stop i H->
  wpAny (model P w) X.A (pyNext (.ref it)) (fun r s1=>r=none/\Inv X pins σ H s1) E s
 self: ∀ (A:Around) (i:Nat) (s:Shared) (Q:Value->Shared->Prop) (E:Value->Shared->Prop),tn i s.heap->Q (.ref it) s->wpAny (model P w) A (pyIter (.ref it)) Q E s
noncomputable abbrev TI:=St->Hp->(It->Hp->Prop)->Prop
noncomputable def PIE (X:Cx) (pins:List (Addr × Obj)) (σ:St) (tg:Expr) (R:It->Hp->Prop) (itv:Value) (s2:Shared):Prop:=
 ∃ (it:Addr) (fp:List Addr) (tn:Nat->Heap->Prop) (J:It) (H':Hp),itv= .ref it/\Inv X pins σ H' s2/\Turn X.prog X.w X.K X.A tg J fp it tn/\tn 0 s2.heap/\(∀ b∈fp,Zdf X pins H' b)/\R J H'
noncomputable def PI (X:Cx) (tg iter:Expr) (wi:TI):Prop:=
 ∀ (pins:List (Addr × Obj)) (s:Shared) (σ:St) (H:Hp) (R:It->Hp->Prop),Inv X pins σ H s->wi σ H R->
  wpAny (model X.prog X.w) X.A (eval iter X.env) (fun v s1=>wpAny (model X.prog X.w) X.A (pyIter v) (PIE X pins σ tg R) X.xe s1) X.xe s
theorem Zfc {M:Model} {A:Around} {E:Value->Shared->Prop} {s:Shared} {tg:Expr} {it:Addr} {u:Value} {o:Obj} {n:String} {vs:Array Value} {Q:Unit->Shared->Prop} (ho:s.heap.get? it=some o) (hc:o.cls= .type n) (hd:o.data= .fields vs)
  (hn:["enumerate","zip","dict_itemiterator","dict_reverseitemiterator","odict_iterator","itertools.zip_longest","itertools.pairwise"].contains n=false) (hQ:Q () s):wpAny M A (letOwnedTupleGo tg (.ref it) u) Q E s:=by
 unfold letOwnedTupleGo
 cases tg<;>first
  |exact wpAny_pure hQ
  | (cases u<;>first
    |exact wpAny_pure hQ
    | (refine wpAny_bind (wpAny_load ho ?_)
       rw[hc,hd]
       show wpAny M A (if (["enumerate","zip","dict_itemiterator","dict_reverseitemiterator","odict_iterator","itertools.zip_longest","itertools.pairwise"].contains n && vs[0]? == some (rawInt _))=true then _ else _) Q E s
       rw[if_neg (by intro h;rw[hn,Bool.false_and] at h;cases h)]
       exact wpAny_pure hQ))
noncomputable def Itl (K:PySem.W.Frag) (a:Addr):It:=
 ⟨fun i H=> ∃ xs x,SqL K H a xs/\xs[i]?=some x,fun i H x H'=>H'=H/\ ∀ xs,SqL K H a xs->xs[i]?=some x,fun i H=> ∃ xs,SqL K H a xs/\xs.length<=i⟩
noncomputable def Itt (K:PySem.W.Frag) (a:Addr):It:=
 ⟨fun i H=> ∃ xs x,SqT K H a xs/\xs[i]?=some x,fun i H x H'=>H'=H/\ ∀ xs,SqT K H a xs->xs[i]?=some x,fun i H=> ∃ xs,SqT K H a xs/\xs.length<=i⟩
noncomputable def Itr (lo:Int) (n:Nat):It:=⟨fun i _=>i < n,fun i H x H'=>H'=H/\x= .int (lo + i),fun i _=>n<=i⟩
theorem ZdO {P:Program} {w:World} {K:PySem.W.Frag} {B:Around} {tg:Expr} (a it:Addr):Turn P w K B tg (Itl K a) [it] it (fun i h=>h.IsListIter it a i) where
 mem:=by simp
 obj:=fun i h st b hb=>by
  have e:b=it:=by simpa using hb
  subst e
  obtain ⟨o,e,c,d⟩:=st
  exact ⟨o,e,fun v z=>by rw[d] at z;cases z⟩
 keep:=fun i h h' st k=>st.at fun o e=>k it (by simp) o e
 item:=by
  intro X hP hw hK hB i pins s σ H E I hf st hg
  subst hP hw hK
  obtain ⟨xs,x,hq,hx⟩:=hg
  obtain ⟨its,rv,p,hz⟩:=I.list hq
  obtain ⟨u,hu,ru⟩:=rv.get hx
  obtain ⟨f0,f1,f2,f3,f4,f5⟩:=hf it (by simp)
  refine wpAny_pyNext_list_item st p.isList (x:=u) (by simpa using hu) fun h' st' sb=> ?_
  have I1:Inv X pins σ H { s with heap:=h' }:=I.turned (t':=s.toks) (fun b o hb e=>(sb.2 b hb).trans e) f0 f1 f3 f4 f5
  obtain ⟨o,e,c,d⟩:=id st'
  exact ⟨u,rfl,Zfc (s:={ s with heap:=h' }) e c d (by decide) ⟨x,H,I1,ru,⟨rfl,fun ys hy=>by rw[I.list_inj hy hq];exact hx⟩,st',fun b hb=>(hf b hb).1⟩⟩
 done:=by
  intro X hP hw hK hB i pins s σ H E I hf st hg
  subst hP hw hK
  obtain ⟨xs,hq,hx⟩:=hg
  obtain ⟨its,rv,p,hz⟩:=I.list hq
  obtain ⟨f0,f1,f2,f3,f4,f5⟩:=hf it (by simp)
  have hl:=rv.length
  exact DQ.Ze7 I.qh st p.isList (by simp;omega) fun h' eb=>⟨rfl,I.turned (t':=s.toks) (fun b o hb e=>eb b o hb e) f0 f1 f3 f4 f5⟩
 self:=fun _ _ _ _ _ st h=>wpAny_pyIter_listiter st h
theorem Zdg {P:Program} {w:World} {K:PySem.W.Frag} {B:Around} {tg:Expr} (a it:Addr):Turn P w K B tg (Itt K a) [it] it (fun i h=>h.IsTupleIter it a i) where
 mem:=by simp
 obj:=fun i h st b hb=>by
  have e:b=it:=by simpa using hb
  subst e
  obtain ⟨o,e,c,d⟩:=st
  exact ⟨o,e,fun v z=>by rw[d] at z;cases z⟩
 keep:=fun i h h' st k=>st.at fun o e=>k it (by simp) o e
 item:=by
  intro X hP hw hK hB i pins s σ H E I hf st hg
  subst hP hw hK
  obtain ⟨xs,x,hq,hx⟩:=hg
  obtain ⟨its,rv,p,hz⟩:=I.tuple hq
  obtain ⟨u,hu,ru⟩:=rv.get hx
  obtain ⟨f0,f1,f2,f3,f4,f5⟩:=hf it (by simp)
  refine wpAny_pyNext_tuple_item st (show s.heap.IsTuple a its.toArray from p) (x:=u) (by simpa using hu) fun h' st' sb=> ?_
  have I1:Inv X pins σ H { s with heap:=h' }:=I.turned (t':=s.toks) (fun b o hb e=>(sb.2 b hb).trans e) f0 f1 f3 f4 f5
  obtain ⟨o,e,c,d⟩:=id st'
  exact ⟨u,rfl,Zfc (s:={ s with heap:=h' }) e c d (by decide) ⟨x,H,I1,ru,⟨rfl,fun ys hy=>by rw[I.tuple_inj hy hq];exact hx⟩,st',fun b hb=>(hf b hb).1⟩⟩
 done:=by
  intro X hP hw hK hB i pins s σ H E I hf st hg
  subst hP hw hK
  obtain ⟨xs,hq,hx⟩:=hg
  obtain ⟨its,rv,p,hz⟩:=I.tuple hq
  obtain ⟨f0,f1,f2,f3,f4,f5⟩:=hf it (by simp)
  have hl:=rv.length
  exact DQ.ZdH I.qh st (show s.heap.IsTuple a its.toArray from p) (by simp;omega) fun h' eb=>⟨rfl,I.turned (t':=s.toks) (fun b o hb e=>eb b o hb e) f0 f1 f3 f4 f5⟩
 self:=fun _ _ _ _ _ st h=>wpAny_pyIter_tupleiter st h
theorem Zdh {P:Program} {w:World} {K:PySem.W.Frag} {B:Around} {tg:Expr} (it:Addr) (lo:Int) (n:Nat):Turn P w K B tg (Itr lo n) [it] it (fun i h=>IsRangeIter h it (lo + (i:Nat) * 1) ((n:Int) - (i:Nat)) 1) where
 mem:=by simp
 obj:=fun i h st b hb=>by
  have e:b=it:=by simpa using hb
  subst e
  exact ⟨_,st,fun v z=>by
   have z':Data.fields _=Data.cell v:=z
   cases z'⟩
 keep:=fun i h h' st k=>k it (by simp) _ st
 item:=by
  intro X hP hw hK hB i pins s σ H E I hf st hg
  subst hP hw hK
  obtain ⟨f0,f1,f2,f3,f4,f5⟩:=hf it (by simp)
  have hlt:i < n:=hg
  refine wpAny_pyNext_range_item st (by omega) fun h' st' sb=> ?_
  have I1:Inv X pins σ H { s with heap:=h',toks:=s.toks + 1 }:=I.turned (fun b o hb e=>(sb.2 b hb).trans e) f0 f1 f3 f4 f5
  have st2:IsRangeIter h' it (lo + ((i + 1:Nat):Int) * 1) ((n:Int) - ((i + 1:Nat):Int)) 1:=by
   have e1:lo + ((i + 1:Nat):Int) * 1=lo + (i:Nat) * 1 + 1:=by omega
   have e2:(n:Int) - ((i + 1:Nat):Int)=(n:Int) - (i:Nat) - 1:=by omega
   rw[e1,e2]
   exact st'
  refine ⟨_,rfl,Zfc (s:={ s with heap:=h',toks:=s.toks + 1 }) (n:="range_iterator") st2 rfl rfl (by decide) ⟨.int (lo + i),H,I1,⟨s.toks,?_⟩,⟨rfl,rfl⟩,st2,fun b hb=>(hf b hb).1⟩⟩
  rw[Int.mul_one]
 done:=by
  intro X hP hw hK hB i pins s σ H E I hf st hg
  subst hP hw hK
  obtain ⟨f0,f1,f2,f3,f4,f5⟩:=hf it (by simp)
  exact DQ.ZdG I.qh st (by have:n<=i:=hg;omega) fun h' eb=>⟨rfl,I.turned (t':=s.toks) (fun b o hb e=>eb b o hb e) f0 f1 f3 f4 f5⟩
 self:=fun _ _ _ _ _ st h=>wpAny_pyIter_rangeiter st h
end L2
namespace L2
open PySem PySem.Spec PyProof.Rows
section
variable {X:Cx} {tg:Expr}
theorem ZcS {pins:List (Addr × Obj)} {σ:St} {H:Hp} {s:Shared} {R:It->Hp->Prop} {E:Value->Shared->Prop} {lo hi:Int} {t u v:Tok} {tk:Nat} (I:Inv X pins σ H s) (h1: -(2 ^ 62)<=lo) (h2:lo < 2 ^ 62) (h3: -(2 ^ 62)<=hi) (h4:hi < 2 ^ 62)
  (q:R (Itr lo (hi - lo).toNat) H):wpAny (model X.prog X.w) X.A (pyIter (.ref s.heap.objs.size)) (PIE X pins σ tg R) E { s with heap:=s.heap.push { cls:= .type "range",data:= .fields #[.int lo t,.int hi u,.int 1 v] },toks:=tk }:=by
 refine wpAny_pyIter_range (IsRange.new ..) (small_one h1 h2 h3 h4) ?_
 have I1:Inv X pins σ H { s with heap:=s.heap.push { cls:= .type "range",data:= .fields #[.int lo t,.int hi u,.int 1 v] },toks:=tk }:=I.kept fun b o e=>Heap.get?_push_of_some _ e
 refine ⟨(s.heap.push { cls:= .type "range",data:= .fields #[.int lo t,.int hi u,.int 1 v] }).objs.size,[(s.heap.push { cls:= .type "range",data:= .fields #[.int lo t,.int hi u,.int 1 v] }).objs.size],_,_,H,rfl,
  I1.kept (t':=tk) fun b o e=>Heap.get?_push_of_some _ e,Zdh _ lo (hi - lo).toNat,?_,fun b hb=> ?_,q⟩
 ·have e1:lo + ((0:Nat):Int) * 1=lo:=by simp
  have e2:(((hi - lo).toNat:Nat):Int) - ((0:Nat):Int)=Builtin.Range.rangeSize lo hi 1:=by rw[rangeSize_one];split<;>omega
  show IsRangeIter _ _ (lo + ((0:Nat):Int) * 1) ((((hi - lo).toNat:Nat):Int) - ((0:Nat):Int)) 1
  rw[e1,e2]
  exact Heap.get?_push_size _ rfl
 ·have e:b=(s.heap.push { cls:= .type "range",data:= .fields #[.int lo t,.int hi u,.int 1 v] }).objs.size:=by simpa using hb
  subst e
  exact I1.fpOk (Nat.le_refl _) (I1.hok.fresh (Nat.le_refl _))
noncomputable def Zlm (ta:TA):TI:=fun σ H R=>ta σ H fun vs H1=> ∃ j:Int,vs=[.int j]/\ -(2 ^ 62)<=j/\j < 2 ^ 62/\R (Itr 0 j.toNat) H1
noncomputable def Zln (ta:TA):TI:=fun σ H R=>ta σ H fun vs H1=> ∃ i j:Int,vs=[.int i,.int j]/\(-(2 ^ 62)<=i/\i < 2 ^ 62/\ -(2 ^ 62)<=j/\j < 2 ^ 62)/\R (Itr i (j - i).toNat) H1
theorem ZdP {a:Expr} {ta:TA} {p pos:Pos} (hg:Gl X "range") (hm:X.mg "range"=none) (ha:PA X [a] ta) (hs:starEach [a] X.env=[(false,eval a X.env)]:=by rfl):PI X tg (.Call (.Name "range" p) [a] [] pos) (Zlm ta):=by
 intro pins s σ H R I h
 refine Call_ (ZbJ I hg hm boot_range (PyProof.Rows.callWith_type1 (thn (ha pos pins s σ H _ I h) fun us s1 ⟨vs,H1,I1,r1,q1⟩=> ?_) hs rfl))
 obtain ⟨j,e,q1,q2,q⟩:=q1
 subst e
 cases r1 with
 |cons r rr=>
  cases rr
  obtain ⟨t,rfl⟩:=r
  exact call_range_1 (ZcS I1 (by omega) (by omega) q1 q2 (by simpa using q))
theorem ZdQ {a b:Expr} {ta:TA} {p pos:Pos} (hg:Gl X "range") (hm:X.mg "range"=none) (ha:PA X [a,b] ta) (hs:starEach [a,b] X.env=[(false,eval a X.env),(false,eval b X.env)]:=by rfl) (hs2:starEach [b] X.env=[(false,eval b X.env)]:=by rfl):
  PI X tg (.Call (.Name "range" p) [a,b] [] pos) (Zln ta):=by
 intro pins s σ H R I h
 refine Call_ (ZbJ I hg hm boot_range (PyProof.Rows.callWith_type1 (thn (ha pos pins s σ H _ I h) fun us s1 ⟨vs,H1,I1,r1,q1⟩=> ?_) (by rw[hs,hs2]) (by rw[hs2];rfl)))
 obtain ⟨i,j,e,⟨q1,q2,q3,q4⟩,q⟩:=q1
 subst e
 cases r1 with
 |cons r rr=>
  cases rr with
  |cons r' rr=>
   cases rr
   obtain ⟨t,rfl⟩:=r
   obtain ⟨t',rfl⟩:=r'
   exact call_range_2 (ZcS I1 q1 q2 q3 q4 q)
noncomputable def Zou (wi:TI) (g:TG) (tb:TS):TS:=fun D σ H=>wi σ H fun J H1=> ∃ W:Nat->Nat->St->Hp->Prop,(∃ m,W 0 m σ H1)/\ ∀ i m σ H,W i m σ H->
 (J.stop i H/\D.nx σ H)\/(J.go i H/\ ∃ N:St->Hp->Prop,(∀ σ' H',N σ' H'-> ∃ m',m' < m/\W (i + 1) m' σ' H')/\ ∀ x H',J.yld i H x H'->g x σ H' fun σ2 H2=>tb { D with nx:=N,ct:=N,bk:=D.nx } σ2 H2)
noncomputable def Zbm (fp:List Addr) (h:Heap):List (Addr × Obj):=fp.filterMap fun b=>(h.get? b).map fun o=>(b,o)
theorem ZaA {fp:List Addr} {h:Heap} {b:Addr} {o:Obj} (hb:b∈fp) (e:h.get? b=some o):(b,o)∈Zbm fp h:=List.mem_filterMap.mpr ⟨b,hb,by rw[e];rfl⟩
theorem ZdR {fp:List Addr} {h:Heap} {p:Addr × Obj} (hp:p∈Zbm fp h):p.1∈fp/\h.get? p.1=some p.2:=by
 obtain ⟨b,hb,e⟩:=List.mem_filterMap.mp hp
 cases q:h.get? b with
 |none=>rw[q] at e;cases e
 |some o=>
  rw[q] at e
  have e':(b,o)=p:=Option.some.inj e
  subst e'
  exact ⟨hb,q⟩
theorem Inv.pinned {pins:List (Addr × Obj)} {σ:St} {H:Hp} {s:Shared} {fp:List Addr} (I:Inv X pins σ H s) (hf: ∀ b∈fp,Zdf X pins H b) (ho: ∀ b∈fp,∃ o,s.heap.get? b=some o/\ ∀ v,o.data≠ .cell v):Inv X (pins ++ Zbm fp s.heap) σ H s:=
 I.pins_of fun p hp=>(List.mem_append.mp hp).elim (fun z=>I.pin p (List.mem_append_right _ z)) fun z=>by
  obtain ⟨hb,e⟩:=ZdR z
  obtain ⟨f0,f1,f2,_⟩:=hf p.1 hb
  obtain ⟨o,e',d⟩:=ho p.1 hb
  rw[e] at e';cases e'
  exact ⟨e,f0,f1,f2,d⟩
theorem Inv.unpinned {pins pl:List (Addr × Obj)} {σ:St} {H:Hp} {s:Shared} (I:Inv X (pins ++ pl) σ H s):Inv X pins σ H s:=I.pins_of fun p hp=>I.pin p (List.mem_append_right _ (List.mem_append_left _ hp))
theorem ZcT {iter:Expr} {body:List Stmt} {wi:TI} {g:TG} {tb:TS} {pos:Pos} (hp:PassesOwn (model X.prog X.w) X.A X.env X.xe) (hi:PI X tg iter wi) (hg:PG X tg g) (hb:PSs X body tb)
  (hs: ∀ x,foldedSetIterable iter X.env x=pure x:=by intro _;rfl):PS X (.For tg iter body [] pos) (Zou wi g tb):=by
 intro pins s σ H D I h
 refine wpAny_For (thn (hi pins s σ H _ I h) fun v s1 h1=>thn h1 fun itv s2 h2=> ?_) hs
 obtain ⟨it,fp,tn,J,H2,e,I2,T,st2,f2,W,⟨m0,w0⟩,turn⟩:=h2
 subst e
 have stat: ∀ {H':Hp},(∀ b∈fp,H' b=none)-> ∀ b∈fp,Zdf X pins H' b:=fun hn b hb=>⟨hn b hb,(f2 b hb).2⟩
 refine codeAny_forLoop_any (fun n s'=> ∃ i σ' H',Inv X pins σ' H' s'/\tn i s'.heap/\(∀ b∈fp,H' b=none)/\W i n σ' H') ?_ m0 ⟨0,σ,H2,I2,st2,fun b hb=>(f2 b hb).1,w0⟩
 rintro n s3 ⟨i,σ3,H3,I3,st3,fr3,w3⟩
 rcases turn i n σ3 H3 w3 with ⟨stop,qn⟩ | ⟨go,N,hN,step⟩
 ·refine wpAny_passesOwn hp (thn (T.done X rfl rfl rfl rfl i pins s3 σ3 H3 X.xe I3 (stat fr3) st3 stop) fun r s4 ⟨hr,I4⟩=> ?_)
  subst hr
  exact wpAny_execs_nil ⟨σ3,H3,I4,qn⟩
 ·refine wpAny_passesOwn hp (thn (T.item X rfl rfl rfl rfl i pins s3 σ3 H3 X.xe I3 (stat fr3) st3 go) fun r s4 ⟨u,hr,h4⟩=> ?_)
  subst hr
  refine wpAny_passesOwn hp (thn h4 fun _ s5 ⟨x,H5,I5,r5,y5,st5,fr5⟩=> ?_)
  have I5':=I5.pinned (stat fr5) (T.obj _ _ st5)
  refine wpAny_passesOwn hp (thn (hg _ s5 σ3 H5 x u _ I5' r5 (step x H5 y5)) fun _ s6 ⟨σ6,H6,I6,q6⟩=> ?_)
  refine wpAny_passesOwn hp (thn (hb _ s6 σ6 H6 _ I6 q6) fun f s7 q7=> ?_)
  have again: ∀ {σ7:St} {H7:Hp},Inv X (pins ++ Zbm fp s5.heap) σ7 H7 s7->N σ7 H7-> ∃ m,m < n/\ ∃ i σ' H',Inv X pins σ' H' s7/\tn i s7.heap/\(∀ b∈fp,H' b=none)/\W i m σ' H':=fun {σ7 H7} I7 n7=>by
   obtain ⟨m',hm,w7⟩:=hN σ7 H7 n7
   refine ⟨m',hm,i + 1,σ7,H7,I7.unpinned,T.keep _ _ _ st5 fun b hb o e=>(I7.pin (b,o) (List.mem_append_right _ (List.mem_append_right _ (ZaA hb e)))).1,fun b hb=> ?_,w7⟩
   obtain ⟨o,e,d⟩:=T.obj _ _ st5 b hb
   exact (I7.pin (b,o) (List.mem_append_right _ (List.mem_append_right _ (ZaA hb e)))).2.1
  cases f with
  |next=>obtain ⟨σ7,H7,I7,n7⟩:=q7;exact again I7 n7
  |cont=>obtain ⟨σ7,H7,I7,n7⟩:=q7;exact again I7 n7
  |brk=>obtain ⟨σ7,H7,I7,q7⟩:=q7;exact ⟨σ7,H7,I7.unpinned,q7⟩
  |ret v=>obtain ⟨x7,σ7,H7,I7,r7,q7⟩:=q7;exact ⟨x7,σ7,H7,I7.unpinned,r7,q7⟩
end
theorem Zfd {K:PySem.W.Frag} {a:Addr} {xs:List V} {g:TG} {tb:TS} {D:Ends} {σ:St} {H:Hp} (Pv:Nat->St->Hp->Prop) (h0:Pv 0 σ H) (hl: ∀ i σ H,i<=xs.length->Pv i σ H->SqL K H a xs)
  (hs: ∀ i x σ H,xs[i]?=some x->Pv i σ H->g x σ H fun σ2 H2=>tb { D with nx:=Pv (i + 1),ct:=Pv (i + 1),bk:=D.nx } σ2 H2) (hd: ∀ σ H,Pv xs.length σ H->D.nx σ H):
  ∃ W:Nat->Nat->St->Hp->Prop,(∃ m,W 0 m σ H)/\ ∀ i m σ H,W i m σ H->
   ((Itl K a).stop i H/\D.nx σ H)\/((Itl K a).go i H/\ ∃ N:St->Hp->Prop,(∀ σ' H',N σ' H'-> ∃ m',m' < m/\W (i + 1) m' σ' H')/\ ∀ x H',(Itl K a).yld i H x H'->g x σ H' fun σ2 H2=>tb { D with nx:=N,ct:=N,bk:=D.nx } σ2 H2):=by
 refine ⟨fun i m σ H=>m=xs.length - i/\i<=xs.length/\Pv i σ H,⟨xs.length,by simp,Nat.zero_le _,h0⟩,?_⟩
 rintro i m σ H ⟨rfl,hi,p⟩
 have q:=hl i σ H hi p
 by_cases hlt:i < xs.length
 ·refine .inr ⟨⟨xs,xs[i],q,by simp[hlt]⟩,Pv (i + 1),fun σ' H' p'=>⟨xs.length - (i + 1),by omega,rfl,hlt,p'⟩,fun x H' y=> ?_⟩
  obtain ⟨e,y⟩:=y
  subst e
  exact hs i x σ _ (y xs q) p
 ·have e:i=xs.length:=by omega
  subst e
  exact .inl ⟨⟨xs,q,Nat.le_refl _⟩,hd σ H p⟩
theorem ZgK {K:PySem.W.Frag} {a:Addr} {xs:List V} {g:TG} {tb:TS} {D:Ends} {σ:St} {H:Hp} (Pv:Nat->St->Hp->Prop) (h0:Pv 0 σ H) (hl: ∀ i σ H,i<=xs.length->Pv i σ H->SqT K H a xs)
  (hs: ∀ i x σ H,xs[i]?=some x->Pv i σ H->g x σ H fun σ2 H2=>tb { D with nx:=Pv (i + 1),ct:=Pv (i + 1),bk:=D.nx } σ2 H2) (hd: ∀ σ H,Pv xs.length σ H->D.nx σ H):
  ∃ W:Nat->Nat->St->Hp->Prop,(∃ m,W 0 m σ H)/\ ∀ i m σ H,W i m σ H->
   ((Itt K a).stop i H/\D.nx σ H)\/((Itt K a).go i H/\ ∃ N:St->Hp->Prop,(∀ σ' H',N σ' H'-> ∃ m',m' < m/\W (i + 1) m' σ' H')/\ ∀ x H',(Itt K a).yld i H x H'->g x σ H' fun σ2 H2=>tb { D with nx:=N,ct:=N,bk:=D.nx } σ2 H2):=by
 refine ⟨fun i m σ H=>m=xs.length - i/\i<=xs.length/\Pv i σ H,⟨xs.length,by simp,Nat.zero_le _,h0⟩,?_⟩
 rintro i m σ H ⟨rfl,hi,p⟩
 have q:=hl i σ H hi p
 by_cases hlt:i < xs.length
 ·refine .inr ⟨⟨xs,xs[i],q,by simp[hlt]⟩,Pv (i + 1),fun σ' H' p'=>⟨xs.length - (i + 1),by omega,rfl,hlt,p'⟩,fun x H' y=> ?_⟩
  obtain ⟨e,y⟩:=y
  subst e
  exact hs i x σ _ (y xs q) p
 ·have e:i=xs.length:=by omega
  subst e
  exact .inl ⟨⟨xs,q,Nat.le_refl _⟩,hd σ H p⟩
theorem ZdS {lo:Int} {n:Nat} {g:TG} {tb:TS} {D:Ends} {σ:St} {H:Hp} (Pv:Nat->St->Hp->Prop) (h0:Pv 0 σ H)
  (hs: ∀ i σ H,i < n->Pv i σ H->g (.int (lo + i)) σ H fun σ2 H2=>tb { D with nx:=Pv (i + 1),ct:=Pv (i + 1),bk:=D.nx } σ2 H2) (hd: ∀ σ H,Pv n σ H->D.nx σ H):
  ∃ W:Nat->Nat->St->Hp->Prop,(∃ m,W 0 m σ H)/\ ∀ i m σ H,W i m σ H->
   ((Itr lo n).stop i H/\D.nx σ H)\/((Itr lo n).go i H/\ ∃ N:St->Hp->Prop,(∀ σ' H',N σ' H'-> ∃ m',m' < m/\W (i + 1) m' σ' H')/\ ∀ x H',(Itr lo n).yld i H x H'->g x σ H' fun σ2 H2=>tb { D with nx:=N,ct:=N,bk:=D.nx } σ2 H2):=by
 refine ⟨fun i m σ H=>m=n - i/\i<=n/\Pv i σ H,⟨n,by simp,Nat.zero_le _,h0⟩,?_⟩
 rintro i m σ H ⟨rfl,hi,p⟩
 by_cases hlt:i < n
 ·refine .inr ⟨hlt,Pv (i + 1),fun σ' H' p'=>⟨n - (i + 1),by omega,rfl,hlt,p'⟩,fun x H' y=> ?_⟩
  obtain ⟨e,y⟩:=y
  subst e y
  exact hs i σ _ hlt p
 ·have e:i=n:=by omega
  subst e
  exact .inl ⟨Nat.le_refl _,hd σ H p⟩
end L2
namespace L2
open PySem PySem.Spec PyProof.Rows
noncomputable abbrev R2:=V->V->Hp->VK->Prop
noncomputable def OpR (X:Cx) (f:Value->Value->Sem Value) (r:R2):Prop:=
 ∀ (pins:List (Addr × Obj)) (s:Shared) (σ:St) (H:Hp) (x y:V) (v u:Value) (Q:VK),Inv X pins σ H s->Zz x v->Zz y u->r x y H Q->
  wpAny (model X.prog X.w) X.A (f v u) (EP X pins σ Q) X.xe s
noncomputable def UnR (X:Cx) (f:Value->Sem Value) (r:V->Hp->VK->Prop):Prop:=
 ∀ (pins:List (Addr × Obj)) (s:Shared) (σ:St) (H:Hp) (x:V) (v:Value) (Q:VK),Inv X pins σ H s->Zz x v->r x H Q->
  wpAny (model X.prog X.w) X.A (f v) (EP X pins σ Q) X.xe s
noncomputable def ZaV (X:Cx) (f:Value) (r:List V->Hp->VK->Prop):Prop:=
 ∀ (pins:List (Addr × Obj)) (s:Shared) (σ:St) (H:Hp) (xs:List V) (us:List Value) (Q:VK),Inv X pins σ H s->ZF xs us->r xs H Q->
  wpAny (model X.prog X.w) X.A (call f us) (EP X pins σ Q) X.xe s
noncomputable def tOp (r:R2) (ta tb:TE):TE:=fun σ H Q=>ta σ H fun x H1=>tb σ H1 fun y H2=>r x y H2 Q
noncomputable def tUn (r:V->Hp->VK->Prop) (ta:TE):TE:=fun σ H Q=>ta σ H fun x H1=>r x H1 Q
noncomputable def rI (C:Int->Int->Prop) (g:Int->Int->V):R2:=fun x y H Q=> ∃ i j,x= .int i/\y= .int j/\C i j/\Q (g i j) H
noncomputable def rI0 (g:Int->Int->V):R2:=fun x y H Q=> ∃ i j,x= .int i/\y= .int j/\Q (g i j) H
noncomputable def rU (g:Int->V):V->Hp->VK->Prop:=fun x H Q=> ∃ i,x= .int i/\Q (g i) H
section
variable {X:Cx} {a b c:Expr} {ta tb tc:TE} {pos:Pos}
theorem Zlo (ha:PE X a ta) (hb:PE X b tb) {pins:List (Addr × Obj)} {s:Shared} {σ:St} {H:Hp} {R:V->V->Hp->Prop} (I:Inv X pins σ H s)
  (h:ta σ H fun x H1=>tb σ H1 fun y H2=>R x y H2) {Q:Value->Shared->Prop} {f:Value->Value->Sem Value}
  (hf: ∀ v u s2 x y H2,Inv X pins σ H2 s2->Zz x v->Zz y u->R x y H2->wpAny (model X.prog X.w) X.A (f v u) Q X.xe s2):
  wpAny (model X.prog X.w) X.A (eval a X.env) (fun v s₁=>wpAny (model X.prog X.w) X.A (eval b X.env) (fun u s₂=>wpAny (model X.prog X.w) X.A (f v u) Q X.xe s₂) X.xe s₁) X.xe s:=by
 refine thn (ha pins s σ H _ I h) fun v s1 ⟨x,H1,I1,r1,q1⟩=> ?_
 refine thn (hb pins s1 σ H1 _ I1 q1) fun u s2 ⟨y,H2,I2,r2,q2⟩=> ?_
 exact hf v u s2 x y H2 I2 r1 r2 q2
theorem Zlp {op:Operator} {r:R2} (ho:OpR X (binaryOp op) r) (ha:PE X a ta) (hb:PE X b tb):PE X (.BinOp a op b pos) (tOp r ta tb):=by
 intro pins s σ H Q I h
 exact wpAny_BinOp (Zlo ha hb I h fun v u s2 x y H2 I2 rx ry q=>ho pins s2 σ H2 x y v u Q I2 rx ry q)
theorem Zlq {op:UnaryOp} {r:V->Hp->VK->Prop} (ho:UnR X (unaryOp op) r) (ha:PE X a ta):PE X (.UnaryOp op a pos) (tUn r ta):=by
 intro pins s σ H Q I h
 exact UnaryOp_ (thn (ha pins s σ H _ I h) fun v s1 ⟨x,H1,I1,r1,q1⟩=>ho pins s1 σ H1 x v Q I1 r1 q1)
theorem opI {f:Value->Value->Sem Value} {C:Int->Int->Prop} {g:Int->Int->Int}
  (rule: ∀ (i j:Int) (t u:Tok) (s:Shared) (Q:Value->Shared->Prop) (E:Value->Shared->Prop),C i j->Q (.int (g i j) s.toks) { s with toks:=s.toks + 1 }->wpAny (model X.prog X.w) X.A (f (.int i t) (.int j u)) Q E s):
  OpR X f (rI C fun i j=> .int (g i j)):=by
 intro pins s σ H x y v u Q I rx ry h
 obtain ⟨i,j,rfl,rfl,hc,q⟩:=h
 obtain ⟨t,rfl⟩:=rx
 obtain ⟨t',rfl⟩:=ry
 exact rule i j t t' s _ _ hc ⟨.int (g i j),H,I.tok _,⟨_,rfl⟩,q⟩
theorem Znf {f:Value->Value->Sem Value} {g:Int->Int->Int}
  (rule: ∀ (i j:Int) (t u:Tok) (s:Shared) (Q:Value->Shared->Prop) (E:Value->Shared->Prop),Q (.int (g i j) s.toks) { s with toks:=s.toks + 1 }->wpAny (model X.prog X.w) X.A (f (.int i t) (.int j u)) Q E s):
  OpR X f (rI0 fun i j=> .int (g i j)):=by
 intro pins s σ H x y v u Q I rx ry h
 obtain ⟨i,j,rfl,rfl,q⟩:=h
 obtain ⟨t,rfl⟩:=rx
 obtain ⟨t',rfl⟩:=ry
 exact rule i j t t' s _ _ ⟨.int (g i j),H,I.tok _,⟨_,rfl⟩,q⟩
theorem Zk3 {f:Value->Value->Sem Value} {g:Int->Int->Bool}
  (rule: ∀ (i j:Int) (t u:Tok) (s:Shared) (Q:Value->Shared->Prop) (E:Value->Shared->Prop),Q (.bool (g i j)) s->wpAny (model X.prog X.w) X.A (f (.int i t) (.int j u)) Q E s):
  OpR X f (rI0 fun i j=> .bl (g i j)):=by
 intro pins s σ H x y v u Q I rx ry h
 obtain ⟨i,j,rfl,rfl,q⟩:=h
 obtain ⟨t,rfl⟩:=rx
 obtain ⟨t',rfl⟩:=ry
 exact rule i j t t' s _ _ ⟨.bl (g i j),H,I,rfl,q⟩
noncomputable def Zng (i j:Int):Prop:=0<=j/\j<=1000000/\i.natAbs < 2 ^ 64
theorem ZiB:OpR X (binaryOp .Add) (rI0 fun i j=> .int (i + j)):=Znf fun _ _ _ _ _ _ _ q=>add_int q
theorem ZiC:OpR X (binaryOp .Sub) (rI0 fun i j=> .int (i - j)):=Znf fun _ _ _ _ _ _ _ q=>sub_int q
theorem ZgL:OpR X (binaryOp .Mod) (rI (fun _ j=>j≠0) fun i j=> .int (i.fmod j)):=opI fun _ _ _ _ _ _ _ hc q=>mod_int' hc q
theorem ZiD:OpR X (binaryOp .Pow) (rI Zng fun i j=> .int (i ^ j.toNat)):=opI fun _ _ _ _ _ _ _ hc q=>pow_int_small hc.1 hc.2.1 hc.2.2 q
theorem unI {f:Value->Sem Value} {g:Int->Int}
  (rule: ∀ (i:Int) (t:Tok) (s:Shared) (Q:Value->Shared->Prop) (E:Value->Shared->Prop),Q (.int (g i) s.toks) { s with toks:=s.toks + 1 }->wpAny (model X.prog X.w) X.A (f (.int i t)) Q E s):
  UnR X f (rU fun i=> .int (g i)):=by
 intro pins s σ H x v Q I rx h
 obtain ⟨i,rfl,q⟩:=h
 obtain ⟨t,rfl⟩:=rx
 exact rule i t s _ _ ⟨.int (g i),H,I.tok _,⟨_,rfl⟩,q⟩
theorem ZiE:UnR X (unaryOp .USub) (rU fun i=> .int (-i)):=unI fun _ _ _ _ _ q=>neg_int q
end
section
variable {X:Cx} {a b c:Expr} {ta tb tc:TE} {pos:Pos}
theorem ZiF:OpR X (compareOp .Lt) (rI0 fun i j=> .bl (decide (i < j))):=Zk3 fun _ _ _ _ _ _ _ q=>lt_int q
theorem ZdT:OpR X (compareOp .LtE) (rI0 fun i j=> .bl (decide (i<=j))):=Zk3 fun _ _ _ _ _ _ _ q=>le_int q
theorem ZgM:OpR X (compareOp .Gt) (rI0 fun i j=> .bl (decide (j < i))):=Zk3 fun _ _ _ _ _ _ _ q=>gt_int q
theorem Zlr:OpR X (compareOp .GtE) (rI0 fun i j=> .bl (decide (j<=i))):=Zk3 fun _ _ _ _ _ _ _ q=>ge_int q
theorem OpR.or {f:Value->Value->Sem Value} {r r':R2} (h:OpR X f r) (h':OpR X f r'):OpR X f (fun x y H Q=>r x y H Q\/r' x y H Q):=by
 intro pins s σ H x y v u Q I rx ry q
 rcases q with q | q
 ·exact h pins s σ H x y v u Q I rx ry q
 ·exact h' pins s σ H x y v u Q I rx ry q
theorem Zf0 (b:Expr) {op:CmpOp} (h:op≠ .In:=by decide) (h2:op≠ .NotIn:=by decide):behindInMarks op b=false:=by
 have e1:(op == CmpOp.In)=false:=by cases op<;>first | rfl | exact absurd rfl h
 have e2:(op == CmpOp.NotIn)=false:=by cases op<;>first | rfl | exact absurd rfl h2
 cases b<;>simp[behindInMarks,e1,e2]
theorem ZgN {op:CmpOp} {r:R2} (ho:OpR X (compareOp op) r) (ha:PE X a ta) (hb:PE X b tb) (hm:behindInMarks op b=false):PE X (.Compare a [op] [b] pos) (tOp r ta tb):=by
 intro pins s σ H Q I h
 exact wpAny_Compare1 (Zlo ha hb I h fun v u s2 x y H2 I2 rx ry q=>ho pins s2 σ H2 x y v u Q I2 rx ry q) hm
noncomputable def ZgO (t:TE):TT:=fun σ H Q=>t σ H fun x H'=> ∃ k,x= .bl k/\Q k H'
theorem ZgP {op:CmpOp} {r:R2} (ho:OpR X (compareOp op) r) (ha:PE X a ta) (hb:PE X b tb) (hm:behindInMarks op b=false):PT X (.Compare a [op] [b] pos) (ZgO (tOp r ta tb)):=by
 intro pins s σ H Q I h
 refine wpAny_isTrue_Compare1 (thn (ha pins s σ H _ I h) fun v s1 ⟨x,H1,I1,r1,q1⟩=>thn (hb pins s1 σ H1 _ I1 q1) fun u s2 ⟨y,H2,I2,r2,q2⟩=>
  thn (ho pins s2 σ H2 x y v u _ I2 r1 r2 q2) fun c s3 ⟨z,H3,I3,r3,k,e,q3⟩=> ?_) hm
 subst e
 cases r3
 exact wpAny_truthy_bool ⟨H3,I3,q3⟩
noncomputable def Zf1 (r r':R2) (ta tb tc:TE):TE:=fun σ H Q=>ta σ H fun x H1=>tb σ H1 fun y H2=>r x y H2 fun z H3=> ∃ k,z= .bl k/\
 (if k=true then tc σ H3 fun w' H4=>r' y w' H4 Q else Q (.bl false) H3)
theorem Zfe {op op':CmpOp} {r r':R2} (ho:OpR X (compareOp op) r) (ho':OpR X (compareOp op') r') (ha:PE X a ta) (hb:PE X b tb) (hc:PE X c tc)
  (hm:lastMarks [op,op'] [b,c]=false:=by with_unfolding_all rfl):PT X (.Compare a [op,op'] [b,c] pos) (ZgO (Zf1 r r' ta tb tc)):=by
 intro pins s σ H Q I h
 refine isTrue_chain (thn (ha pins s σ H _ I h) fun v s1 ⟨x,H1,I1,r1,q1⟩=>test_link (thn (hb pins s1 σ H1 _ I1 q1) fun u s2 ⟨y,H2,I2,r2,q2⟩=>
  thn (ho pins s2 σ H2 x y v u _ I2 r1 r2 q2) fun d s3 ⟨z,H3,I3,r3,k,e,q3⟩=> ?_)) hm
 subst e
 cases r3
 refine wpAny_truthy_bool ?_
 cases k with
 |false=>
  obtain ⟨k',e',q'⟩:=q3
  cases e'
  exact ite_ff ⟨H3,I3,q'⟩
 |true=>
  refine ite_tt (test_last (thn (hc pins s3 σ H3 _ I3 q3) fun w' s4 ⟨z',H4,I4,r4,q4⟩=>thn (ho' pins s4 σ H4 y z' u w' _ I4 r2 r4 q4) fun d' s5 ⟨z2,H5,I5,r5,k2,e2,q5⟩=> ?_))
  subst e2
  cases r5
  exact wpAny_truthy_bool ⟨H5,I5,q5⟩
theorem ZcU:(sizeLine:Nat) < 2 ^ 63:=by rw[sizeLine_eq];decide
theorem Zdi:OpR X (binaryOp .Add) (fun x y H Q=> ∃ i j,x= .str i/\y= .str j/\i.length + j.length<=sizeLine/\Q (.str (i ++ j)) H):=by
 intro pins s σ H x y v u Q I rx ry h
 obtain ⟨i,j,rfl,rfl,hz,q⟩:=h
 obtain ⟨t,rfl⟩:=rx
 obtain ⟨t',rfl⟩:=ry
 exact add_str (fun t' tk=>⟨.str (i ++ j),H,I.tok _,⟨_,rfl⟩,q⟩) hz
theorem Zdj {x:V} {us:List Value} (r:ZF [x] us): ∃ u,us=[u]/\Zz x u:=by
 cases r with
 |cons r1 r2=>cases r2;exact ⟨_,rfl,r1⟩
theorem ZgQ {x y:V} {us:List Value} (r:ZF [x,y] us): ∃ u w',us=[u,w']/\Zz x u/\Zz y w':=by
 cases r with
 |cons r1 r2=>
  cases r2 with
  |cons r3 r4=>cases r4;exact ⟨_,_,rfl,r1,r3⟩
theorem ZcV:ZaV X (.builtin "abs") (fun xs H Q=> ∃ i,xs=[.int i]/\Q (.int (if i < 0 then -i else i)) H):=by
 intro pins s σ H xs us Q I r h
 obtain ⟨i,rfl,q⟩:=h
 obtain ⟨u,rfl,t,rfl⟩:=Zdj r
 exact call_abs_int fun u tk=>⟨.int (if i < 0 then -i else i),H,I.tok _,⟨_,rfl⟩,q⟩
theorem Zaq (hc:X.calm=true):ZaV X (.builtin "max") (fun xs H Q=> ∃ i j,xs=[.int i,.int j]/\Q (.int (if j > i then j else i)) H):=by
 intro pins s σ H xs us Q I r h
 obtain ⟨i,j,rfl,q⟩:=h
 obtain ⟨u,w',rfl,⟨t,rfl⟩,⟨t',rfl⟩⟩:=ZgQ r
 refine max_two_ints (I.ok.hd hc) fun h' tk k=>⟨_,H,I.kept k,?_,q⟩
 by_cases hj:j > i
 ·rw[if_pos hj,if_pos hj];exact ⟨_,rfl⟩
 ·rw[if_neg hj,if_neg hj];exact ⟨_,rfl⟩
theorem Zar (hc:X.calm=true):ZaV X (.builtin "min") (fun xs H Q=> ∃ i j,xs=[.int i,.int j]/\Q (.int (if j < i then j else i)) H):=by
 intro pins s σ H xs us Q I r h
 obtain ⟨i,j,rfl,q⟩:=h
 obtain ⟨u,w',rfl,⟨t,rfl⟩,⟨t',rfl⟩⟩:=ZgQ r
 refine min_two_ints (I.ok.hd hc) fun h' tk k=>⟨_,H,I.kept k,?_,q⟩
 by_cases hj:j < i
 ·rw[if_pos hj,if_pos hj];exact ⟨_,rfl⟩
 ·rw[if_neg hj,if_neg hj];exact ⟨_,rfl⟩
theorem ZdU:ZaV X (.type "int") (fun xs H Q=>(∃ i,xs=[.int i]/\Q (.int i) H)\/ ∃ k,xs=[.bl k]/\Q (.int (if k then 1 else 0)) H):=by
 intro pins s σ H xs us Q I r h
 rcases h with ⟨i,rfl,q⟩ | ⟨k,rfl,q⟩
 ·obtain ⟨u,rfl,t,rfl⟩:=Zdj r
  exact call_int_int ⟨.int i,H,I,⟨_,rfl⟩,q⟩
 ·obtain ⟨u,rfl,r1⟩:=Zdj r
  cases r1
  exact call_int_bool ⟨.int (if k then 1 else 0),H,I.tok _,⟨_,rfl⟩,q⟩
end
end L2
namespace L2
open PySem PySem.Spec PyProof.Rows
section
variable {prog:Program} {w:World} {A:Around} {E:Value->Shared->Prop} {s:Shared} {K:PySem.W.Frag} {x dx C f:Addr} {mA:Str->Option Value} {name:Str} {v:Value}
end
section
variable {P:Program} {w:World} {H H':Hp} {h h':Heap} {a C dx:Addr} {fs fs':List (Str × V)}
end
section
variable {X:Cx} {pins:List (Addr × Obj)} {σ:St} {H:Hp} {s:Shared} {a C dx:Addr} {fs:List (Str × V)} {f:Str} {v:V} {A:Around} {E:Value->Shared->Prop}
end
section
variable {X:Cx} {o e value:Expr} {f:Str} {pos pos' tpos:Pos} {ta tv:TE}
end
section
variable {X:Cx} {pins:List (Addr × Obj)} {σ:St} {H:Hp} {s:Shared} {A:Around} {E:Value->Shared->Prop} {Q:Value->Shared->Prop} {c:Value} {b:Bool}
end
end L2
namespace L2
open PySem PySem.Spec PyProof.Rows
structure Room (k:Nat) (A:Around):Prop where
 hd:100<=k->A.handled=none
 dp:A.depth + 3 * k + 5 < recursionLimit
 un:A.units + 16 * k + 200 < cLine
theorem Room.mono {j k:Nat} {A:Around} (r:Room k A) (h:j<=k):Room j A:=⟨fun z=>r.hd (Nat.le_trans z h),by have:=r.dp;omega,by have:=r.un;omega⟩
theorem Room.deeper {k:Nat} {A:Around} (r:Room (k + 1) A) (env:Env):Room k (A.deeper env):=
 ⟨fun z=>r.hd (Nat.le_succ_of_le z),by have:=r.dp;show A.depth + 1 + 3 * k + 5 < _;omega,by have:=r.un;show A.units + 3 + 16 * k + 200 < _;omega⟩
theorem Room.depth {k:Nat} {A:Around} (r:Room k A):A.depth < recursionLimit:=by have:=r.dp;omega
theorem Room.units {k:Nat} {A:Around} (r:Room k A):A.units + 64 < cLine:=by have:=r.un;omega
noncomputable def tNil:TA:=fun _ H Q=>Q [] H
noncomputable def Zls (ta:TE) (tr:TA):TA:=fun σ H Q=>ta σ H fun x H1=>tr σ H1 fun xs H2=>Q (x :: xs) H2
section
variable {X:Cx} {e:Expr} {es:List Expr} {te:TE} {t:TA} {pos:Pos}
theorem Zf2:PA X [] tNil:=fun _ _ _ _ H Q I h=>Calls.spliced_nil ⟨[],H,I,.nil,h⟩
theorem Zcw (ha:PE X e te) (hr:PA X es t) (hs:starEach (e :: es) X.env=(false,eval e X.env) :: starEach es X.env:=by rfl):PA X (e :: es) (Zls te t):=by
 intro pos pins s σ H Q I h
 rw[hs]
 show wpAny _ _ (spliced ((false,eval e X.env) :: backTo pos (starEach es X.env))) _ _ s
 refine Calls.spliced_cons (thn (ha pins s σ H _ I h) fun u s1 ⟨x,H1,I1,r1,q1⟩=> ?_)
 exact thn (hr pos pins s1 σ H1 _ I1 q1) fun us s2 ⟨xs,H2,I2,r2,q2⟩=>⟨x :: xs,H2,I2,.cons r1 r2,q2⟩
noncomputable def Zov (t:TA):TE:=fun σ H Q=>t σ H fun xs H1=>xs.length<=sizeLine/\ ∀ p,H1 p=none->Q (.ref p) (upd H1 p (.tup xs))
noncomputable def Zow (t:TA):TE:=fun σ H Q=>t σ H fun xs H1=>xs.length<=sizeLine/\ ∀ p,H1 p=none->Q (.ref p) (upd H1 p (.lst xs))
theorem ZiG {x1} (h:PA X es t):PE X (.Tuple es x1 pos) (Zov t):=by
 intro pins s σ H Q I hq
 refine wpAny_Tuple_spliced (thn (h pos pins s σ H _ I hq) fun us s1 ⟨xs,H1,I1,r,z,q⟩=>⟨by rw[<- r.length];exact z,?_⟩)
 have hf:H1 s1.heap.objs.size=none:=I1.hok.fresh (Nat.le_refl _)
 refine ⟨.ref s1.heap.objs.size,upd H1 s1.heap.objs.size (.tup xs),I1.laid (t':=s1.toks) (fun b u e=>Heap.get?_push_of_some _ e) (Nat.le_refl _) ?_,rfl,q _ hf⟩
 exact ⟨z,us,r,⟨_,Heap.get?_push_size _ rfl,rfl,_,rfl⟩⟩
theorem ZiH (h:PA X es t):PE X (.List es pos) (Zow t):=by
 intro pins s σ H Q I hq
 refine wpAny_List_spliced (thn (h pos pins s σ H _ I hq) fun us s1 ⟨xs,H1,I1,r,z,q⟩=>⟨by rw[<- r.length];exact z,?_⟩)
 have hf:H1 s1.heap.objs.size=none:=I1.hok.fresh (Nat.le_refl _)
 refine ⟨.ref s1.heap.objs.size,upd H1 s1.heap.objs.size (.lst xs),I1.laid (t':=s1.toks) (fun b u e=>Heap.get?_push_of_some _ e) (Nat.le_refl _) ?_,rfl,q _ hf⟩
 exact ⟨z,us,0,r,Heap.get?_push_size _ rfl⟩
end
noncomputable abbrev Sp:=List V->Hp->VK->XK->Prop
noncomputable abbrev CXT:=List Env->Hp->Shared->XK->Value->Shared->Prop
structure Env0 (P:Program) (w:World) (K:PySem.W.Frag) (mg:Str->Option Value) (base:Heap) (A:Around) (outer:List Env) (s:Shared) (H:Hp):Prop where
 frames:A.frames=some outer
 mod:Mod K mg base
 bs: ∀ b o,base.get? b=some o->s.heap.get? b=some o/\H b=none
 bsz:base.objs.size<=s.heap.objs.size
 funs:s.heap.FunFrames base outer
 frf: ∀ b∈frs outer,H b=none
 hok:HOk P w H s.heap
 bare:AllBare s.gens
 qd:Qd A H
noncomputable def CE (outer:List Env) (P:Program) (w:World) (H:Hp) (s:Shared) (Q:VK) (u:Value) (s':Shared):Prop:=
 ∃ v H',s'.os=s.os/\AllBare s'.gens/\Un (frs outer) [] H H' s.heap s'.heap/\HOk P w H' s'.heap/\Zz v u/\Q v H'
noncomputable def CR (CX:CXT) (outer:List Env) (P:Program) (w:World) (H:Hp) (s:Shared) (Q:VK) (E:XK) (r:Result) (s':Shared):Prop:=
 match r with
 | .ok (.ret u)=>CE outer P w H s Q u s'
 | .ok _=>False
 | .error e=>CX outer H s E e s'
structure FnOk (P:Program) (w:World) (K:PySem.W.Frag) (mg:Str->Option Value) (base:Heap) (CX:CXT) (k:Nat) (f:Addr) (fd:FuncData) (ps:List Str) (sp:Sp):Prop where
 len: ∀ vs H Q E,sp vs H Q E->vs.length=ps.length
 run: ∀ (A:Around) (outer:List Env) (s:Shared) (H:Hp) (args:Args) (us:List Value) (vs:List V) (Q:VK) (E:XK),Room k A->Env0 P w K mg base A outer s H->BindsTo s fd args (ps.zip us)->ZF vs us->sp vs H Q E->
  codeAny (model P w) A (.call (.ref f) args) (CR CX outer P w H s Q E) s
section
variable {X:Cx} {pins:List (Addr × Obj)} {σ:St} {H:Hp} {s s':Shared}
theorem Inv.env0 (I:Inv X pins σ H s):Env0 X.prog X.w X.K X.mg X.base X.A X.stack s H:=
 ⟨I.ok.frames,I.ok.mod,I.bs,Nat.le_trans I.ok.bsz I.sz,I.stack,I.stkFree,I.hok,I.bare,I.qd⟩
theorem Inv.after {Q:VK} {u:Value} (I:Inv X pins σ H s) (h:CE X.stack X.prog X.w H s Q u s'):EP X pins σ Q u s':=by
 obtain ⟨v,H',os,bare,un,hok,r,q⟩:=h
 obtain ⟨hh,g,d,t,os'⟩:=s'
 obtain rfl:os'=s.os:=os
 exact ⟨v,H',I.call (h':=hh) (g':=g) (d':=d) (t':=t) (ch:=[]) un hok bare (fun b z=>absurd z (by simp)),r,q⟩
end
noncomputable def Zlt (sp:Sp) (dvs:List V) (E:XK) (t:TA):TE:=fun σ H Q=>t σ H fun vs H1=>sp (vs ++ dvs) H1 Q E
noncomputable def Zcx (K:PySem.W.Frag) (fd:FuncData) (ps:List Str) (ds:List Value):Prop:=
 ∀ (s:Shared) (us:List Value),K.In s.heap->(us ++ ds).length=ps.length->BindsTo s fd ⟨us,[]⟩ (ps.zip (us ++ ds))
theorem Zcx.all {K:PySem.W.Frag} {fd:FuncData} {ps:List Str} (h: ∀ us:List Value,us.length=ps.length->bindArgs fd ⟨us,[]⟩=pure (ps.zip us)):Zcx K fd ps []:=fun s us _ hl=>by
 rw[List.append_nil] at hl ⊢
 exact .of_eq (h us hl)
noncomputable def ZdV (CX:CXT) (X:Cx) (E:XK):Prop:= ∀ (pins:List (Addr × Obj)) (σ:St) (H:Hp) (s:Shared) (e:Value) (s':Shared),Inv X pins σ H s->CX X.stack H s E e s'->X.xe e s'
section
variable {X:Cx} {CX:CXT} {k:Nat} {f C:Addr} {fd:FuncData} {ps:List Str} {sp:Sp} {dvs:List V} {ds:List Value} {E:XK} {x m:Str} {p pos apos:Pos} {e o:Expr} {es:List Expr} {ta:TE} {t:TA}
theorem ZiI {pins:List (Addr × Obj)} {σ:St} {H:Hp} {s:Shared} {Q:VK} {us:List Value} {vs:List V} (F:FnOk X.prog X.w X.K X.mg X.base CX k f fd ps sp) (hr:Room k X.A) (hb:Zcx X.K fd ps ds) (hd:ZF dvs ds) (hx:ZdV CX X E)
  (I:Inv X pins σ H s) (r:ZF vs us) (h:sp (vs ++ dvs) H Q E):wpAny (model X.prog X.w) X.A (call (.ref f) us) (EP X pins σ Q) X.xe s:=by
 have r2:ZF (vs ++ dvs) (us ++ ds):=r.append hd
 have hl:(us ++ ds).length=ps.length:=by rw[<- r2.length];exact F.len _ _ _ _ h
 refine wpAny_call (codeAny_mono (F.run X.A X.stack s H ⟨us,[]⟩ (us ++ ds) (vs ++ dvs) Q E hr I.env0 (hb s us I.kIn hl) r2 h) fun r s' hq=> ?_)
 cases r with
 |error e=>exact hx pins σ H s e s' I hq
 |ok fl=>
  cases fl with
  |ret u=>exact I.after hq
  |next=>exact False.elim hq
  |brk=>exact False.elim hq
  |cont=>exact False.elim hq
theorem ZgR (F:FnOk X.prog X.w X.K X.mg X.base CX k f fd ps sp) (hr:Room k X.A) (hg:Gl X x) (hm:X.mg x=some (.ref f)) (hk:PySem.W.keepIn X.K (.ref f)=true) (hb:Zcx X.K fd ps ds) (hd:ZF dvs ds) (hx:ZdV CX X E)
  (ha:PA X (e :: es) t) (hdb:(x == ("__debug__":Str))=false:=by decide) (he:starEach (e :: es) X.env=(false,eval e X.env) :: starEach es X.env:=by rfl) (hpl:(backTo pos (starEach es X.env)).any (·.1)=false:=by rfl):
  PE X (.Call (.Name x p) (e :: es) [] pos) (Zlt sp dvs E t):=by
 intro pins s σ H Q I h
 refine wpAny_Call_Name_kw (ZdN I hg hm ?_ hdb)
 refine PySem.W.callWith_K (h₀:=X.base) I.ok.mod.kin hk (thn (ha pos pins s σ H _ I h) fun us s1 ⟨vs,H1,I1,r,q⟩=>⟨I1.kIn,?_⟩) he hpl
 exact ZiI F hr hb hd hx I1 r q
end
section
variable {X:Cx} {CX:CXT} {k:Nat} {f C:Addr} {fd:FuncData} {ps ks:List Str} {sp:Sp} {E:XK} {x m:Str} {p pos apos kpos:Pos} {e o:Expr} {es:List Expr} {kws:List Keyword} {te ta:TE} {t tk:TA} {nm:Option Str}
variable {g:List Value->List Value->List Value} {gV:List V->List V->List V}
end
structure FnScope (N P:List Str) (sc:Scope):Prop where
 kind:sc.kind= .function
 co:sc.isCoroutine=false
 gen:sc.isGenerator=false
 nd:N.Nodup
 pre:N.take P.length=P
 par: ∀ x∈P,sc.names.lookup x=some .local\/sc.names.lookup x=some .cell
 nofree: ∀ y∈sc.names,y.2≠ .free
theorem ZbK {kindOf:Str->Option NameKind} {x:Str}: ∀ {binds:List (Str × Value)} {m:Str->Option Value},(∀ v,(x,v) ∉ binds)->bindL kindOf binds m x=m x
 | [],_,_=>rfl
 | (n,v) :: r,m,h=>by
  unfold bindL
  rw[ZbK fun w hw=>h w (List.mem_cons_of_mem _ hw)]
  split
  ·have:x≠n:=by rintro rfl;exact h v List.mem_cons_self
   simp[this]
  ·rfl
theorem ZbL {kindOf:Str->Option NameKind} {x:Str}: ∀ {binds:List (Str × Value)} {m:Str->Option Value},(∀ v,(x,v) ∉ binds)->bindC kindOf binds m x=m x
 | [],_,_=>rfl
 | (n,v) :: r,m,h=>by
  unfold bindC
  rw[ZbL fun w hw=>h w (List.mem_cons_of_mem _ hw)]
  split
  ·rfl
  ·have:x≠n:=by rintro rfl;exact h v List.mem_cons_self
   simp[this]
theorem ZbM {kindOf:Str->Option NameKind} {x:Str} {v:Value}: ∀ {P:List Str} {vs:List Value} {i:Nat} {m:Str->Option Value},P.Nodup->P[i]?=some x->vs[i]?=some v->kindOf x=some .local->
  bindL kindOf (P.zip vs) m x=some v
 | [],_,_,_,_,h,_,_=>by simp at h
 |_ :: _,[],_,_,_,_,h,_=>by simp at h
 |p :: P,w :: vs,0,m,nd,h1,h2,hk=>by
  simp at h1 h2;subst h1;subst h2
  show bindL kindOf ((p,w) :: P.zip vs) m p=_
  unfold bindL
  rw[ZbK fun v hv=>(List.nodup_cons.mp nd).1 (List.of_mem_zip hv).1,if_pos hk]
  simp
 |p :: P,w :: vs,i + 1,m,nd,h1,h2,hk=>by
  show bindL kindOf ((p,w) :: P.zip vs) m x=_
  unfold bindL
  exact ZbM (i:=i) (List.nodup_cons.mp nd).2 (by simpa using h1) (by simpa using h2) hk
theorem ZbN {kindOf:Str->Option NameKind} {x:Str} {v:Value}: ∀ {P:List Str} {vs:List Value} {i:Nat} {m:Str->Option Value},P.Nodup->P[i]?=some x->vs[i]?=some v->kindOf x≠some .local->
  bindC kindOf (P.zip vs) m x=some v
 | [],_,_,_,_,h,_,_=>by simp at h
 |_ :: _,[],_,_,_,_,h,_=>by simp at h
 |p :: P,w :: vs,0,m,nd,h1,h2,hk=>by
  simp at h1 h2;subst h1;subst h2
  show bindC kindOf ((p,w) :: P.zip vs) m p=_
  unfold bindC
  rw[ZbL fun v hv=>(List.nodup_cons.mp nd).1 (List.of_mem_zip hv).1,if_neg hk]
  simp
 |p :: P,w :: vs,i + 1,m,nd,h1,h2,hk=>by
  show bindC kindOf ((p,w) :: P.zip vs) m x=_
  unfold bindC
  exact ZbN (i:=i) (List.nodup_cons.mp nd).2 (by simpa using h1) (by simpa using h2) hk
noncomputable def start (N:List Str) (vs:List V):St:=vs.map some ++ List.replicate (N.length - vs.length) none
noncomputable def Zcq (CX:CXT) (P:Program) (w:World) (K:PySem.W.Frag) (mg:Str->Option Value) (base:Heap) (N:List Str) (qual:Str) (scope:Scope) (f:Addr) (cd:Value) (A:Around) (outer:List Env) (s:Shared) (H:Hp) (E:XK):Cx where
 prog:=P
 w:=w
 K:=K
 mg:=mg
 base:=base
 A:=A.deeper (envOfC qual scope s.heap.objs.size f cd)
 N:=N
 s₀:=s
 H₀:=H
 env:=envOfC qual scope s.heap.objs.size f cd
 outer:=outer
 stack:=envOfC qual scope s.heap.objs.size f cd :: outer
 ex:=[]
 calm:=A.handled.isNone
 fn:=fun _=>true
 pn:=[]
 xe:=fun e s'=>wpAny (model P w) (A.deeper (envOfC qual scope s.heap.objs.size f cd)) (leaving (envOfC qual scope s.heap.objs.size f cd) e) (fun _ s''=>CX outer H s E e s'') (fun e' s''=>CX outer H s E e' s'') s'
theorem ZcW {sc:Scope} {n:Nat} {x:Str} (h:sc.names.lookup x=some .cell): ∃ c,(cellsFrom n sc.names []).lookup x=some c:=by
 have q:=PySem.W.cellsFrom_some sc.names n [] (.inl h)
 exact Option.isSome_iff_exists.mp q
theorem ZdW {CX:CXT} {P:Program} {w:World} {K:PySem.W.Frag} {mg:Str->Option Value} {base:Heap} {N ps:List Str} {qual:Str} {scope:Scope} {f:Addr} {cd:Value} {A:Around} {outer:List Env} {s s1:Shared} {H:Hp} {E:XK} {us:List Value} {vs:List V}
  (S:FnScope N ps scope) (e0:Env0 P w K mg base A outer s H) (hl:vs.length=ps.length) (r:ZF vs us)
  (x:InCallC s s.heap.objs.size (bindL (envOfC qual scope s.heap.objs.size f cd).kindOf (ps.zip us) fun _=>none) (cellsFrom (s.heap.objs.size + 1) scope.names []) (bindC (envOfC qual scope s.heap.objs.size f cd).kindOf (ps.zip us) fun _=>none) s1):
  Inv (Zcq CX P w K mg base N qual scope f cd A outer s H E) [] (start N vs) H s1:=by
 have hpl:ps.length<=N.length:=by have:=congrArg List.length S.pre;rw[List.length_take] at this;omega
 obtain ⟨h1,tk,rfl,hk⟩:=x.done
 have noA: ∀ b:Addr,b ∉ (Zcq CX P w K mg base N qual scope f cd A outer s H E).ex:=fun b z=>absurd (show b∈([]:List Addr) from z) (by simp)
 refine ⟨⟨e0.mod,S.kind,rfl,rfl,Nat.le_refl _,fun y z c h1 h2=> ?_,fun y hy=> ?_,fun y c _ h=> ?_,fun z=>Option.isNone_iff_eq_none.mp z,Around.frames_deeper e0.frames,.inr ⟨rfl,rfl⟩,fun b z=>absurd z (noA b),e0.bs,e0.bsz,fun b _ _=>noA b,fun b z=>absurd z (noA b),e0.funs,e0.frf⟩,
  rfl,e0.bare,Un.kept hk,⟨_,x.toInCall.ns,fun i y v h1 h2 h3=> ?_⟩,fun y c h=>⟨_,x.cell y c h⟩,e0.hok.fresh (Nat.le_refl _),fun y c h=> ?_,fun p hp=>absurd (show p∈([]:List (Addr × Obj)) from hp) (by simp),e0.hok.kept hk,?_,e0.qd⟩
 ·exact name_of_addr x.apart (PySem.mem_of_lookup h1) (PySem.mem_of_lookup h2)
 ·have hy:scope.names.lookup y=some .cell\/scope.names.lookup y=some .free:=hy
  rcases hy with hy | hy
  ·exact ZcW hy
  ·exact absurd rfl (S.nofree _ (PySem.mem_of_lookup hy))
 ·exact Nat.le_of_lt (x.above y c (PySem.mem_of_lookup h))
 ·have hi:i < vs.length:=by
   unfold start at h2
   by_cases hi:i < vs.length
   ·exact hi
   ·rw[List.getElem?_append_right (by simpa using hi)] at h2
    rw[List.getElem?_replicate] at h2
    split at h2<;>cases h2
  have ha:vs[i]?=some v:=by
   unfold start at h2
   rw[List.getElem?_append_left (by simpa using hi),List.getElem?_map] at h2
   cases e:vs[i]? with
   |none=>rw[e] at h2;cases h2
   |some a=>rw[e] at h2;cases h2;rfl
  obtain ⟨u,hu,rv⟩:=r.get ha
  have hp:ps[i]?=some y:=by
   rw[<- S.pre,List.getElem?_take_of_lt (by omega)];exact h1
  have ndP:ps.Nodup:=by rw[<- S.pre];exact S.nd.sublist (List.take_sublist _ _)
  refine ⟨u,rv,?_⟩
  rcases S.par y (List.mem_of_getElem? hp) with k | k
  ·exact .inl ⟨k,ZbM ndP hp hu k⟩
  ·obtain ⟨c,e⟩:=ZcW (n:=s.heap.objs.size + 1) k
   refine .inr ⟨.inl k,c,e,?_⟩
   have q:=x.cell y c e
   rw[ZbN ndP hp hu (by show scope.names.lookup y≠_;rw[k];decide)] at q
   exact q
 ·exact e0.hok.fresh (Nat.le_of_lt (x.above y c (PySem.mem_of_lookup h)))
 ·unfold start
  show _=N.length
  rw[List.length_append,List.length_map,List.length_replicate]
  omega
theorem Zlu {CX:CXT} {P:Program} {w:World} {K:PySem.W.Frag} {mg:Str->Option Value} {base:Heap} {k:Nat} {f:Addr} {name qual:Str} {params:Arguments} {body:List Stmt} {scope:Scope} {dV kV doc pm cdv ct oc:Value} {an od:Option Addr}
  {osl:Array (Option Value)} {N ps:List Str} {sp:Sp} (lk:K.lookup f=some ⟨oc,od,.func (PySem.W.fnOf name qual params body scope dV kV doc pm an cdv ct),osl⟩) (hcd:PySem.W.codeIn K cdv qual=true) (S:FnScope N ps scope)
  (len: ∀ vs H Q E,sp vs H Q E->vs.length=ps.length)
  (hbody: ∀ (A:Around) (outer:List Env) (s:Shared) (H:Hp) (vs:List V) (Q:VK) (E:XK),Room k (A.deeper (envOfC qual scope s.heap.objs.size f cdv))->sp vs H Q E->
   ∃ t,PSs (Zcq CX P w K mg base N qual scope f cdv A outer s H E) body t/\t { nx:=fun _ H'=>Q .non H',rt:=Q } (start N vs) H):
  FnOk P w K mg base CX (k + 1) f (PySem.W.fnOf name qual params body scope dV kV doc pm an cdv ct) ps sp:=by
 refine ⟨len,fun A outer s H args us vs Q E hr e0 hb r hsp=> ?_⟩
 have hl:=len _ _ _ _ hsp
 have KX:K.In s.heap:=e0.mod.kin.keeps fun b o e=>(e0.bs b o e).1
 have lim:s.heap.NoLimit:=e0.mod.nolimit.keeps fun b o e=>(e0.bs b o e).1
 have hkind: ∀ y∈ps.zip us,scope.names.lookup y.1=some .local\/(scope.names.lookup y.1=some .cell/\((cellsFrom (s.heap.objs.size + 1) scope.names []).lookup y.1).isSome=true):=fun ⟨n,v⟩ hy=>by
  rcases S.par n (List.of_mem_zip hy).1 with q | q
  ·exact .inl q
  ·exact .inr ⟨q,PySem.W.cellsFrom_some _ _ _ (.inl q)⟩
 refine codeAny_call_function hr.depth (KX _ _ lk) rfl S.co S.gen rfl (PySem.W.codeRec_of KX hcd) (hb _ _ _ _ ?_)
 refine wpAny_newFunctionEnv_cells S.kind hkind fun env he s1 x=> ?_
 subst he
 refine ⟨lim.keeps x.toInCall.keep,codeAny_func ?_⟩
 obtain ⟨t,ht,hq⟩:=hbody A outer s H vs Q E (hr.deeper _) hsp
 have I:Inv (Zcq CX P w K mg base N qual scope f cdv A outer s H E) [] (start N vs) H s1:=ZdW S e0 hl r x
 refine wpAny_mono (ht [] s1 (start N vs) H _ I hq) (fun fl s' hs=> ?_) fun e s' hs=>hs
 have fin: ∀ {σ':St} {H':Hp} {v:V} {u:Value},Inv (Zcq CX P w K mg base N qual scope f cdv A outer s H E) [] σ' H' s'->Zz v u->Q v H'->CE outer P w H s Q u s':=
  fun {σ' H' v u} J rv q=>⟨v,H',J.os,J.bare,J.base,J.hok,rv,q⟩
 cases fl with
 |ret u=>
  obtain ⟨v,σ',H',J,rv,q⟩:=hs
  exact fin J rv q
 |next=>
  obtain ⟨σ',H',J,q⟩:=hs
  exact fin (v:=V.non) (u:=Value.none) J rfl q
 |brk=>
  obtain ⟨_,_,_,q⟩:=hs
  exact False.elim q
 |cont=>
  obtain ⟨_,_,_,q⟩:=hs
  exact False.elim q
end L2
namespace L2
open PySem PySem.Spec PyProof.Rows
section
variable {X:Cx} {x:Str} {p pos:Pos} {e:Expr} {es:List Expr} {t:TA} {id T:String} {r:List V->Hp->VK->Prop}
noncomputable def tCB (r:List V->Hp->VK->Prop) (t:TA):TE:=fun σ H Q=>t σ H fun vs H1=>r vs H1 Q
theorem ZcX (hc:ZaV X (.builtin id) r) (hg:Gl X x) (hm:X.mg x=none) (hv:bootBuiltins x=some (.builtin id)) (ha:PA X (e :: es) t) (hn:x≠"__name__":=by decide) (hdb:(x == ("__debug__":Str))=false:=by decide)
  (he:starEach (e :: es) X.env=(false,eval e X.env) :: starEach es X.env:=by rfl) (hpl:(backTo pos (starEach es X.env)).any (·.1)=false:=by rfl):PE X (.Call (.Name x p) (e :: es) [] pos) (tCB r t):=by
 intro pins s σ H Q I h
 refine wpAny_Call_Name_kw (ZbJ I hg hm hv ?_ hn hdb)
 exact PyProof.Rows.callWith_builtin1 (thn (ha pos pins s σ H _ I h) fun us s1 ⟨vs,H1,I1,r1,q1⟩=>hc pins s1 σ H1 vs us Q I1 r1 q1) he hpl
theorem ZdX (hc:ZaV X (.type T) r) (hg:Gl X x) (hm:X.mg x=none) (hv:bootBuiltins x=some (.type T)) (ha:PA X (e :: es) t) (hn:x≠"__name__":=by decide) (hdb:(x == ("__debug__":Str))=false:=by decide)
  (he:starEach (e :: es) X.env=(false,eval e X.env) :: starEach es X.env:=by rfl) (hpl:(backTo pos (starEach es X.env)).any (·.1)=false:=by rfl):PE X (.Call (.Name x p) (e :: es) [] pos) (tCB r t):=by
 intro pins s σ H Q I h
 refine wpAny_Call_Name_kw (ZbJ I hg hm hv ?_ hn hdb)
 exact PyProof.Rows.callWith_type1 (thn (ha pos pins s σ H _ I h) fun us s1 ⟨vs,H1,I1,r1,q1⟩=>hc pins s1 σ H1 vs us Q I1 r1 q1) he hpl
end
end L2
namespace HT
open PySem PyProof.Rows
noncomputable def Zao:List Int->List Int->Bool
 | [],[]=>false
 | [],_ :: _=>true
 |_ :: _,[]=>false
 |x :: xs,y :: ys=>if x=y then Zao xs ys else decide (x < y)
theorem ZV (x y:Int) (xs ys:List Int):Zao (x :: xs) (y :: ys)=if x=y then Zao xs ys else decide (x < y):=rfl
theorem Zff (A:Around) (s:Shared) (a:Int) (t:Tok) (c:Int) (u:Tok): ∃ e,SeqAt.EqAt A s (.int a t) (.int c u) e/\(e=true ↔ a=c):=
 ⟨(a == c),SeqAt.EqAt.int_int a t c u,by simp⟩
theorem Zfg (A:Around) (s:Shared) (a:Int) (t:Tok) (c:Int) (u:Tok) (prog:Program) (w:World) (E:Value->Shared->Prop) (Q:Value->Shared->Prop) (h:Q (.bool (decide (a < c))) s):
  wpAny (model prog w) A (richCompare .Lt (.int a t) (.int c u)) Q E s:=
 (PyProof.Rows.lt_int h:wpAny (model prog w) A (compareOp .Lt (.int a t) (.int c u)) Q E s)
section
open PySem.SeqAt
open PySem.AutoSeq1 (wpAny_loadPart')
open PySem.MeetsSeq PySem.MeetsSeq2 PySem.MeetsSeq3
end
section
variable {prog:Program} {w:World} {A:Around} {E:Value->Shared->Prop} {s:Shared}
theorem ZgS {t b:Addr} {vs ws:List Value} {Q:Value->Shared->Prop} (ht:IsTup s.heap t vs.toArray) (hb:IsTup s.heap b ws.toArray) (hv:vs≠[])
  (h1:ws=[]->Q (.ref t) s) (h2:ws≠[]->Q (.ref s.heap.objs.size) { s with heap:=s.heap.push { cls:= .type "tuple",data:= .seq (vs ++ ws).toArray } })
  (hsz:vs.length + ws.length<=sizeLine):wpAny (model prog w) A (binaryOp .Add (.ref t) (.ref b)) Q E s:=by
 obtain ⟨⟨cls,dd,data,sl⟩,ho,hc,n,hd⟩:=id ht
 obtain ⟨⟨cls2,dd2,data2,sl2⟩,ho2,hc2,n2,hd2⟩:=id hb
 simp only at hc hd hc2 hd2
 subst hc hd hc2 hd2
 have e:vs.toArray ++ ws.toArray=(vs ++ ws).toArray:=by simp
 by_cases hw:ws=[]
 ·exact concat_meets ⟨_,ho,rfl⟩ ⟨_,ho2,rfl⟩ noFill_tuple_add seq_tuple_add PySem.F.slot_tuple_add PySem.F.entry_tuple_add (PySem.F.args_tuple_add_2 _ _)
   (tuple_addW1 t b vs.toArray ws.toArray n n2 dd dd2 sl sl2 (by simpa using hv) (by simp[hw])) ⟨ho,ho2,h1 hw⟩
 ·refine concat_meets ⟨_,ho,rfl⟩ ⟨_,ho2,rfl⟩ noFill_tuple_add seq_tuple_add PySem.F.slot_tuple_add PySem.F.entry_tuple_add (PySem.F.args_tuple_add_2 _ _)
   (tuple_addW2 t b vs.toArray ws.toArray n n2 dd dd2 sl sl2 (by simpa using hv) (by simpa using hw) (by rw[List.size_toArray,List.size_toArray];exact hsz)) ⟨ho,ho2,?_⟩
  rw[e]
  exact h2 hw
noncomputable def sIx (n d:Nat):Option Int->Nat
 |none=>d
 |some v=>if v < 0 then (v + (n:Int)).toNat else min v.toNat n
end
end HT
namespace L2
open PySem PySem.Spec PyProof.Rows
theorem Zdk {ns:List Int}: ∀ {us:List Value},ZF (ns.map V.int) us->IntsAre us ns:=by
 induction ns with
 |nil=>intro us r;rw[List.map_nil] at r;cases r;exact .nil
 |cons n ns ih=>
  intro us r
  rw[List.map_cons] at r
  cases r with
  |cons r1 r2=>
   obtain ⟨t,e⟩:=r1
   subst e
   exact .cons n t (ih r2)
section
variable {X:Cx} {e:Expr} {te:TE} {lo hi:Option Expr} {tl th:TO} {pos p2:Pos}
noncomputable def ZgT (K:PySem.W.Frag):R2:=fun x y H Q=> ∃ a b xs ys,x= .ref a/\y= .ref b/\SqT K H a xs/\SqT K H b ys/\xs≠[]/\xs.length + ys.length<=sizeLine/\
 (ys=[]->Q (.ref a) H)/\(ys≠[]-> ∀ p,H p=none->Q (.ref p) (upd H p (.tup (xs ++ ys))))
theorem ZF.nil_iff {xs:List V} {us:List Value} (r:ZF xs us):us=[] ↔ xs=[]:=by
 cases r with
 |nil=>simp
 |cons _ _=>simp
theorem ZgU:OpR X (binaryOp .Add) (ZgT X.K):=by
 intro pins s σ H x y v u Q I rx ry h
 obtain ⟨a,b,xs,ys,rfl,rfl,ha,hb,hx,hz,q1,q2⟩:=h
 cases rx
 cases ry
 obtain ⟨its,r1,p1,_⟩:=I.tuple ha
 obtain ⟨its2,r2,p2,_⟩:=I.tuple hb
 refine HT.ZgS p1 p2 (fun z=>hx (r1.nil_iff.mp z)) (fun z=>⟨.ref a,H,I,rfl,q1 (r2.nil_iff.mp z)⟩) (fun z=> ?_) (by rw[<- r1.length,<- r2.length];exact hz)
 refine ⟨.ref s.heap.objs.size,_,I.laid (t':=s.toks) (o:= .tup (xs ++ ys)) (fun b ob q=>Heap.get?_push_of_some _ q) (Nat.le_refl _) ?_,rfl,q2 (fun w=>z (r2.nil_iff.mpr w)) _ (I.hok.fresh (Nat.le_refl _))⟩
 exact ⟨by rw[List.length_append];exact hz,_,r1.append r2,IsTup.new _ _⟩
end
end L2
namespace L2
open PySem PySem.Spec PyProof.Rows
noncomputable def ixN (n:Nat) (i:Int):Option Nat:=if 0<=i then (if i < n then some i.toNat else none) else if -(n:Int)<=i then some (i + n).toNat else none
noncomputable def atI {α:Type} (xs:List α) (i:Int):Option α:=(ixN xs.length i).bind fun j=>xs[j]?
theorem ZdY {n:Nat} {i:Int} {j:Nat} (h:ixN n i=some j):seqIndex? i n=some j/\j < n/\ -(n:Int)<=i/\i < n:=by
 unfold ixN at h
 by_cases h0:0<=i
 ·rw[if_pos h0] at h
  by_cases h1:i < n
  ·rw[if_pos h1] at h
   have e:i.toNat=j:=Option.some.inj h
   exact ⟨by rw[seqIndex_of h0 h1,e],by omega,by omega,h1⟩
  ·rw[if_neg h1] at h;cases h
 ·rw[if_neg h0] at h
  by_cases h1: -(n:Int)<=i
  ·rw[if_pos h1] at h
   have e:(i + n).toNat=j:=Option.some.inj h
   exact ⟨by rw[seqIndex_neg (by omega) h1,e],by omega,h1,by omega⟩
  ·rw[if_neg h1] at h;cases h
theorem ZdZ {α:Type} {xs:List α} {i:Int} {v:α} (h:atI xs i=some v): ∃ j,seqIndex? i xs.length=some j/\xs[j]?=some v/\j < xs.length/\ -(xs.length:Int)<=i/\i < xs.length:=by
 unfold atI at h
 cases e:ixN xs.length i with
 |none=>rw[e] at h;cases h
 |some j=>
  rw[e] at h
  obtain ⟨h1,h2,h3,h4⟩:=ZdY e
  exact ⟨j,h1,h,h2,h3,h4⟩
theorem ZgV {α:Type} {xs:List α} {j:Nat} {v:α} (h:xs[j]?=some v):atI xs (j:Int)=some v:=by
 have hj:j < xs.length:=(List.getElem?_eq_some_iff.mp h).1
 have e:ixN xs.length (j:Int)=some j:=by
  unfold ixN
  rw[if_pos (by omega),if_pos (by omega)];simp
 unfold atI;rw[e];exact h
noncomputable def Zd0 (b:Expr):Prop:= ∀ o i,subscripted b false o i=operate [o,i] (getItem o i)
noncomputable def IxR (X:Cx) (r:R2):Prop:=
 ∀ (value slice:Expr) (pins:List (Addr × Obj)) (s:Shared) (σ:St) (H:Hp) (x y:V) (v u:Value) (Q:VK),Inv X pins σ H s->Zz x v->Zz y u->r x y H Q->
  subscripted slice false v u=operate [v,u] (getItem v u)->wpAny (model X.prog X.w) X.A (subscriptTail value slice v u) (EP X pins σ Q) X.xe s
noncomputable def MtR (X:Cx) (id:String) (r:V->List V->Hp->VK->Prop):Prop:=
 ∀ (pins:List (Addr × Obj)) (s:Shared) (σ:St) (H:Hp) (x:V) (xs:List V) (v:Value) (us:List Value) (Q:VK),Inv X pins σ H s->Zz x v->ZF xs us->r x xs H Q->
  wpAny (model X.prog X.w) X.A (call (.builtin id) (v :: us)) (EP X pins σ Q) X.xe s
section
variable {X:Cx} {a b:Expr} {ta tb:TE} {pos:Pos}
theorem IxR.or {r r':R2} (h:IxR X r) (h':IxR X r'):IxR X (fun x y H Q=>r x y H Q\/r' x y H Q):=by
 intro value slice pins s σ H x y v u Q I rx ry q hs
 rcases q with q | q
 ·exact h value slice pins s σ H x y v u Q I rx ry q hs
 ·exact h' value slice pins s σ H x y v u Q I rx ry q hs
theorem Zlv {r:R2} (hr:IxR X r) (ha:PE X a ta) (hb:PE X b tb) (hs:Zd0 b):PE X (.Subscript a b pos) (tOp r ta tb):=by
 intro pins s σ H Q I h
 exact Subscript_ (Zlo ha hb I h fun v u s2 x y H2 I2 rx ry q=>hr a b pins s2 σ H2 x y v u Q I2 rx ry q (hs _ _))
noncomputable def Znh (K:PySem.W.Frag):R2:=fun x y H Q=> ∃ p xs i v,x= .ref p/\y= .int i/\SqL K H p xs/\atI xs i=some v/\Q v H
noncomputable def Zni (K:PySem.W.Frag):R2:=fun x y H Q=> ∃ p xs i v,x= .ref p/\y= .int i/\SqT K H p xs/\atI xs i=some v/\Q v H
theorem ZgW:IxR X (Znh X.K):=by
 intro value slice pins s σ H x y v u Q I rx ry h hs
 obtain ⟨p,xs,i,z,rfl,rfl,hq,he,q⟩:=h
 cases rx
 obtain ⟨t,rfl⟩:=ry
 obtain ⟨its,r,pl,hz⟩:=I.list hq
 obtain ⟨j,h1,h2,h3,h4,h5⟩:=ZdZ he
 obtain ⟨w,ew,rw'⟩:=r.get h2
 have hl:=r.length
 have hn:=ZcU
 have fin:EP X pins σ Q w s:=⟨z,H,I,rw',q⟩
 by_cases h0:0<=i
 ·have hj:i.toNat=j:=by
   rw[seqIndex_of h0 h5] at h1
   exact Option.some.inj h1
  exact item_listR pl.isList h0 (by omega) (by rw[hj];simpa using ew) fin hs
 ·have hj:(i + (its.toArray.size:Int)).toNat=j:=by
   rw[seqIndex_neg (by omega) h4] at h1
   rw[List.size_toArray,<- hl]
   exact Option.some.inj h1
  exact subscriptTail_builtinR (x:=w) pl.isList.typeIs slot_list_getitem.lookup
   (wpAny_getItem_list_neg (Q:=fun r s'=>r=w/\EP X pins σ Q r s') pl.isList (by omega) (by rw[List.size_toArray]<;>omega) (by omega) (by rw[hj];simpa using ew) ⟨rfl,fin⟩) hs
theorem ZiJ:IxR X (Zni X.K):=by
 intro value slice pins s σ H x y v u Q I rx ry h hs
 obtain ⟨p,xs,i,z,rfl,rfl,hq,he,q⟩:=h
 cases rx
 obtain ⟨t,rfl⟩:=ry
 obtain ⟨its,r,pl,hz⟩:=I.tuple hq
 obtain ⟨j,h1,h2,h3,h4,h5⟩:=ZdZ he
 obtain ⟨w,ew,rw'⟩:=r.get h2
 have hl:=r.length
 have hn:=ZcU
 have fin:EP X pins σ Q w s:=⟨z,H,I,rw',q⟩
 exact subscriptTail_builtinR (x:=w) pl.typeIs slot_tuple_getitem.lookup
  (getItem_tuple (j:=j) (Q:=fun r s'=>r=w/\EP X pins σ Q r s') pl (by omega) (by omega) (by rw[List.size_toArray,<- hl];exact h1) (by simpa using ew) ⟨rfl,fin⟩) hs
theorem Zdl (its:List Value) (n j:Nat) (u:Value):Obj.mapSeq (·.setIfInBounds j u) { cls:= .type "list",data:= .seq its.toArray n }={ cls:= .type "list",data:= .seq (its.set j u).toArray n }:=by
 simp[Obj.mapSeq]
theorem Inv.lst {pins:List (Addr × Obj)} {σ:St} {H:Hp} {s:Shared} {p:Addr} {xs:List V} (I:Inv X pins σ H s) (h:H p=some (.lst xs)):
  ∃ (its:List Value) (n:Nat),ZF xs its/\s.heap.get? p=some { cls:= .type "list",data:= .seq its.toArray n }/\xs.length<=sizeLine:=by
 obtain ⟨z,its,n,r,e⟩:=I.hok p _ h
 exact ⟨its,n,r,e,z⟩
theorem Inv.lstUpd {pins:List (Addr × Obj)} {σ:St} {H:Hp} {s:Shared} {p:Addr} {xs ys:List V} {its its':List Value} {n n':Nat} {f:Obj->Obj} (I:Inv X pins σ H s) (h:H p=some (.lst xs))
  (ho:s.heap.get? p=some { cls:= .type "list",data:= .seq its.toArray n }) (hf:f { cls:= .type "list",data:= .seq its.toArray n }={ cls:= .type "list",data:= .seq its'.toArray n' }) (r:ZF ys its') (hz:ys.length<=sizeLine) (t:Nat):
  Inv X pins σ (upd H p (.lst ys)) { s with heap:=s.heap.update p f,toks:=t }:=by
 have e:(s.heap.update p f).get? p=some { cls:= .type "list",data:= .seq its'.toArray n' }:=by
  rw[Heap.get?_update_self f ho (by rw[hf]<;>rfl),hf]
 refine I.write (x:=p) (e:=p) (by rw[h];trivial) (.inl rfl) (fun b u hb q=>(Heap.get?_update_other _ _ (Ne.symm hb)).trans q) ⟨_,e⟩ ?_
 exact ⟨hz,its',n',r,e⟩
noncomputable def rSetL:V->V->V->Hp->(Hp->Prop)->Prop:=fun o i v H Q=> ∃ p xs k j,o= .ref p/\i= .int k/\H p=some (.lst xs)/\ixN xs.length k=some j/\Q (upd H p (.lst (xs.set j v)))
theorem Zfh:Znd X rSetL:=by
 intro pins s σ H o i v ov iv u Q I ro ri rv h
 obtain ⟨p,xs,k,j,rfl,rfl,hp,hj,q⟩:=h
 cases ro
 obtain ⟨t,rfl⟩:=ri
 obtain ⟨its,n,r,ho,hz⟩:=I.lst hp
 obtain ⟨h1,h2,h3,h4⟩:=ZdY hj
 have hl:=r.length
 have hn:=ZcU
 have I':Inv X pins σ (upd H p (.lst (xs.set j v))) { s with heap:=s.heap.update p (Obj.mapSeq (·.setIfInBounds j u)) }:=
  I.lstUpd hp ho (Zdl its n j u) (r.set rv j) (by rw[List.length_set];exact hz) s.toks
 by_cases h0:0<=k
 ·have hk:k.toNat=j:=by
   rw[seqIndex_of h0 h4] at h1
   exact Option.some.inj h1
  exact PySem.W.ki_setAt ho h0 (by omega) (by rw[List.size_toArray,<- hl];exact h4) (by rw[hk];exact ⟨_,I',q⟩)
 ·have hk:(k + (its.toArray.size:Int)).toNat=j:=by
   rw[seqIndex_neg (by omega) h3] at h1
   rw[List.size_toArray,<- hl]
   exact Option.some.inj h1
  exact PySem.W.ki_setBack ho (by omega) (by rw[List.size_toArray,<- hl];exact h3) (by omega) (by rw[hk];exact ⟨_,I',q⟩)
theorem ZaS:ZaV X (.builtin "len") (fun xs H Q=> ∃ p ys,xs=[.ref p]/\(SqL X.K H p ys\/SqT X.K H p ys)/\Q (.int ys.length) H):=by
 intro pins s σ H xs us Q I r h
 obtain ⟨p,ys,rfl,hq,q⟩:=h
 obtain ⟨u,rfl,rx⟩:=Zdj r
 cases rx
 have hn:=ZcU
 rcases hq with hq | hq
 ·obtain ⟨its,r',pl,hz⟩:=I.list hq
  have hlen:=r'.length
  exact Calls.call_len_list pl.isList (by simp only[List.size_toArray]<;>omega) ⟨.int ys.length,H,I.tok _,⟨s.toks + 1,by rw[List.size_toArray,hlen]⟩,q⟩
 ·obtain ⟨its,r',pl,hz⟩:=I.tuple hq
  have hlen:=r'.length
  exact len_tuple pl (by simp only[List.size_toArray]<;>omega) ⟨.int ys.length,H,I.tok _,⟨s.toks + 1,by rw[List.size_toArray,hlen]⟩,q⟩
noncomputable def tyV (K:PySem.W.Frag) (T:String) (x:V) (H:Hp):Prop:=match x with
 | .str _=>T="str"
 | .int _=>T="int"
 | .ref p=>(T="list"/\ ∃ xs,SqL K H p xs)\/(T="tuple"/\ ∃ o,K.lookup p=some o/\o.cls= .type "tuple"/\o.dict=none)\/
   (T="dict"/\((∃ kvs,H p=some (.dK kvs))\/ ∃ kvs,H p=some (.dT kvs)))\/(T="set"/\ ∃ S n,H p=some (.set S n))
 |_=>False
theorem ZiK {pins:List (Addr × Obj)} {σ:St} {H:Hp} {s:Shared} {T:String} {x:V} {v:Value} (I:Inv X pins σ H s) (r:Zz x v) (ty:tyV X.K T x H):
  s.TypeIs v T/\ ∀ a,v= .ref a-> ∃ ob,s.heap.get? a=some ob/\ob.dict=none:=by
 cases x with
 |str z=>
  obtain ⟨t,rfl⟩:=r
  cases (show T="str" from ty)
  exact ⟨typeIs_str s z t,fun _ e=>nomatch e⟩
 |int i=>
  obtain ⟨t,rfl⟩:=r
  cases (show T="int" from ty)
  exact ⟨typeIs_int s i t,fun _ e=>nomatch e⟩
 |ref p=>
  cases r
  rcases ty with ⟨rfl,xs,hq⟩ | ⟨rfl,o,hk,hc,hd⟩ | ⟨rfl,hk⟩ | ⟨rfl,S,n,hk⟩
  ·obtain ⟨its,_,pl,_⟩:=I.list hq
   refine ⟨pl.isList.typeIs,fun a e=> ?_⟩
   cases e
   obtain ⟨o,n,e,c,hd,_⟩:=pl
   exact ⟨o,e,hd⟩
  ·refine ⟨⟨o,I.kIn p o hk,hc⟩,fun a e=> ?_⟩
   cases e
   exact ⟨o,I.kIn _ o hk,hd⟩
  ·have z: ∃ o,s.heap.get? p=some o/\o.ExactDict:=by
    rcases hk with ⟨kvs,hk⟩ | ⟨kvs,hk⟩
    ·obtain ⟨_,_,_,_,o,_,_,e,ex,_⟩:=I.hok p _ hk
     exact ⟨o,e,ex⟩
    ·obtain ⟨_,_,_,_,o,_,_,e,ex,_⟩:=I.hok p _ hk
     exact ⟨o,e,ex⟩
   obtain ⟨o,e,ex⟩:=z
   refine ⟨⟨o,e,ex.1⟩,fun a e2=> ?_⟩
   cases e2
   exact ⟨o,e,ex.2.1⟩
  ·obtain ⟨o,_,_,_,e,ex,_⟩:=I.hok p _ hk
   refine ⟨⟨o,e,ex.1⟩,fun a e2=> ?_⟩
   cases e2
   exact ⟨o,e,ex.2.1⟩
 |_=>exact False.elim ty
noncomputable def tBM (K:PySem.W.Frag) (T:String) (r:V->List V->Hp->VK->Prop) (to:TE) (t:TA):TE:=fun σ H Q=>to σ H fun x H1=>tyV K T x H1/\t σ H1 fun xs H2=>r x xs H2 Q
variable {o e:Expr} {es:List Expr} {to:TE} {t:TA} {name:Str} {apos cpos:Pos} {T id:String} {r:V->List V->Hp->VK->Prop}
theorem Zlw (pa:PlainAttrs T) (slot:Slot T name id) (hty:typeOf (.builtin id)=pure (.type "method_descriptor")) (hm:MtR X id r) (ho:PE X o to) (ha:PA X (e :: es) t)
  (hbase:attributeBase o name X.env (eval o X.env)=eval o X.env:=by rfl)
  (hfew:((backTo cpos (starEach (e :: es) X.env)).all (fun x=> !x.1) && (backToKw cpos (keywordEach [] X.env)).all (fun x=>x.1.isSome)
   && decide ((e :: es).length + ([]:List Keyword).length + (if ([]:List Keyword).isEmpty then 0 else 1) < 30))=true:=by rfl)
  (hline:(apos.endLine == cpos.line)=true:=by rfl) (hs:starEach (e :: es) X.env=(false,eval e X.env) :: starEach es X.env:=by rfl) (hplain:(backTo cpos (starEach es X.env)).any (·.1)=false:=by rfl):
  PE X (.Call (.Attribute o name apos) (e :: es) [] cpos) (tBM X.K T r to t):=by
 intro pins s σ H Q I h
 refine wpAny_Call_method_late hbase hfew hline rfl (thn (ho pins s σ H _ I h) fun v s1 ⟨x,H1,I1,r1,ty,q1⟩=> ?_)
 obtain ⟨h1,h2⟩:=ZiK I1 r1 ty
 refine ⟨T,id,pa,slot,hty,h1,h2,?_⟩
 have hA:=ha cpos pins s1 σ H1 _ I1 q1
 rw[hs] at hA ⊢
 refine Calls.callWith_builtin (by show (false || (backTo cpos (starEach es X.env)).any (·.1))=false;rw[hplain]<;>rfl) (Calls.evalArgs_plain ?_)
 exact thn hA fun us s2 ⟨vs,H2,I2,r2,q2⟩=>hm pins s2 σ H2 x vs v us Q I2 r1 r2 q2
end
end L2
namespace L2
open PySem PySem.Spec PyProof.Rows
noncomputable def MtM (X:Cx) (id:String) (r:V->List V->Hp->VK->Prop):Prop:=
 ∀ (pins:List (Addr × Obj)) (s:Shared) (σ:St) (H:Hp) (x:V) (xs:List V) (v:Value) (us:List Value) (Q:VK),Inv X pins σ H s->Zz x v->ZF xs us->r x xs H Q->
  wpAny (model X.prog X.w) X.A (call (.builtin id) (v :: us)) (EP X pins σ Q) X.xe s
theorem ZF.one: ∀ {x:V} {us:List Value},ZF [x] us-> ∃ u,us=[u]/\Zz x u
 |_,_,.cons r .nil=>⟨_,rfl,r⟩
section
variable {X:Cx} {pins:List (Addr × Obj)} {σ:St} {H:Hp} {s:Shared} {l b:Addr} {xs ys zs:List V}
theorem Inv.lset {its its':List Value} {n:Nat} {f:Array Value->Array Value} {t':Nat} (I:Inv X pins σ H s) (hH:H l=some (.lst xs))
  (e:s.heap.get? l=some { cls:= .type "list",data:= .seq its.toArray n }) (hf:f its.toArray=its'.toArray) (hv:ZF ys its') (hz:ys.length<=sizeLine):
  Inv X pins σ (upd H l (.lst ys)) { s with heap:=s.heap.update l (Obj.mapSeq f),toks:=t' }:=by
 have q:=PySem.IsL.update e f
 rw[hf] at q
 refine I.write (x:=l) (e:=l) (by rw[hH];exact trivial) (.inl rfl) (fun b' u hb hu=>(Heap.get?_update_other s.heap (Obj.mapSeq f) (Ne.symm hb)).trans hu) ⟨_,q⟩ ?_
 exact ⟨hz,its',_,hv,q⟩
theorem Inv.lnew {its:List Value} {t':Nat} (I:Inv X pins σ H s) (hv:ZF ys its) (hz:ys.length<=sizeLine):
  Inv X pins σ (upd H s.heap.objs.size (.lst ys)) { s with heap:=s.heap.push { cls:= .type "list",data:= .seq its.toArray },toks:=t' }:=
 I.laid (fun _ _ q=>Heap.get?_push_of_some _ q) (Nat.le_refl _) ⟨hz,its,0,hv,Heap.get?_push_size _ rfl⟩
theorem Inv.fresh (I:Inv X pins σ H s):H s.heap.objs.size=none:=I.hok.fresh (Nat.le_refl _)
theorem Inv.lstM (I:Inv X pins σ H s) (hH:H l=some (.lst xs)):xs.length<=sizeLine/\ ∃ (its:List Value) (n:Nat),ZF xs its/\xs.length=its.length/\s.heap.get? l=some { cls:= .type "list",data:= .seq its.toArray n }:=by
 obtain ⟨z,its,n,r,e⟩:=I.hok l _ hH
 exact ⟨z,its,n,r,r.length,e⟩
theorem Zfi {n:Nat} (h:n<=sizeLine):Builtin.List.listTooLong n=false:=by
 unfold Builtin.List.listTooLong
 exact decide_eq_false (by omega)
end
section
variable {X:Cx}
noncomputable def rAppend:V->List V->Hp->VK->Prop:=fun x vs H Q=> ∃ l xs y,x= .ref l/\vs=[y]/\H l=some (.lst xs)/\xs.length < sizeLine/\Q .non (upd H l (.lst (xs ++ [y])))
theorem ZbO:MtM X "list.append" rAppend:=by
 intro pins s σ H x vs v us Q I rx rv h
 obtain ⟨l,xs,y,rfl,rfl,hH,hz,q⟩:=h
 cases rx
 obtain ⟨u,rfl,ru⟩:=rv.one
 obtain ⟨z,its,n,r,hl,e⟩:=I.lstM hH
 refine call_meets F.slot_list_append ⟨_,e,rfl⟩ F.entry_list_append (F.args_list_append_2 _ _) (PySem.list_append l its.toArray n u (by rw[List.size_toArray];omega)) ⟨e,?_⟩
 refine ⟨.non,_,I.lset (its':=its ++ [u]) hH e (by simp) (r.append (.cons ru .nil)) ?_,rfl,q⟩
 rw[List.length_append,List.length_singleton]
 omega
noncomputable def rExtend:V->List V->Hp->VK->Prop:=fun x vs H Q=> ∃ l b xs zs,x= .ref l/\vs=[.ref b]/\H l=some (.lst xs)/\H b=some (.lst zs)/\xs.length + zs.length<=sizeLine/\Q .non (upd H l (.lst (xs ++ zs)))
theorem ZiL:MtM X "list.extend" rExtend:=by
 intro pins s σ H x vs v us Q I rx rv h
 obtain ⟨l,b,xs,zs,rfl,rfl,hH,hB,hz,q⟩:=h
 cases rx
 obtain ⟨u,rfl,ru⟩:=rv.one
 cases ru
 obtain ⟨z,its,n,r,hl,e⟩:=I.lstM hH
 obtain ⟨z2,its2,n2,r2,hl2,e2⟩:=I.lstM hB
 have hsz:its.toArray.size + its2.toArray.size<=sizeLine:=by rw[List.size_toArray,List.size_toArray];omega
 have hlong: ¬ (!its.toArray.isEmpty && Builtin.List.listTooLong (its.toArray.size + its2.toArray.size))=true:=by
  rw[Zfi hsz,Bool.and_false]
  exact Bool.false_ne_true
 refine call_meets F.slot_list_extend ⟨_,e,rfl⟩ F.entry_list_extend (F.args_list_extend_2 _ _)
  (AutoSeq1.list_extend_list_list_0 l its.toArray n b its2.toArray n2 hlong (by rw[List.size_toArray];omega) (by omega)) ⟨e,e2,?_⟩
 refine ⟨.non,_,I.lset (its':=its ++ its2) hH e (by simp) (r.append r2) ?_,rfl,q⟩
 rw[List.length_append]
 omega
noncomputable def rCat:R2:=fun x y H Q=> ∃ l b xs zs,x= .ref l/\y= .ref b/\H l=some (.lst xs)/\H b=some (.lst zs)/\xs.length + zs.length<=sizeLine/\ ∀ p,H p=none->Q (.ref p) (upd H p (.lst (xs ++ zs)))
theorem ZiM:OpR X (binaryOp .Add) rCat:=by
 intro pins s σ H x y v u Q I rx ry h
 obtain ⟨l,b,xs,zs,rfl,rfl,hH,hB,hz,q⟩:=h
 cases rx
 cases ry
 obtain ⟨z,its,n,r,hl,e⟩:=I.lstM hH
 obtain ⟨z2,its2,n2,r2,hl2,e2⟩:=I.lstM hB
 refine PySem.P.add_list e e2 ?_ (by rw[List.size_toArray,List.size_toArray];omega)
 have ea:its.toArray ++ its2.toArray=(its ++ its2).toArray:=by simp
 rw[ea]
 exact ⟨.ref _,_,I.lnew (t':=s.toks) (r.append r2) (by rw[List.length_append];omega),rfl,q _ I.fresh⟩
end
section
variable {prog:Program} {w:World} {A:Around} {E:Value->Shared->Prop} {s:Shared}
end
section
variable {X:Cx}
end
end L2
namespace Att
open PySem PySem.W PySem.Calls PyProof.Rows
theorem Za1 {P:Params} {h:Heap}: ∀ (ns:List Int) (vs:List Value),WellAll P h vs (ns.map WData.int)->IntsAre vs ns:=by
 intro ns
 induction ns with
 |nil=>
  intro vs w
  rw[List.map_nil] at w
  cases w
  exact .nil
 |cons n ns ih=>
  intro vs w
  rw[List.map_cons] at w
  cases w with
  |cons a b=>
   cases a
   exact .cons _ _ (ih _ b)
theorem Zd1 {l:OpenLaw} {n:Nat} (hn:l.most=some n) {P:Params} {h:Heap} {args:List WData} {vals:List Value}
  (hpre:l.row.toRowW.claim.pre args=true) (hwl:WellAll P h vals args):
  ∃ a vs ns,vals=[Value.ref a]/\args=[WData.list (ns.map WData.int)]/\h.get? a=some { cls:= .type "list",data:= .seq vs.toArray }/\IntsAre vs ns/\ns.length<=n:=by
 have hsh:WShape.hasAll [] args [.list .int]=true:=(pre_splitW hpre).1
 have hc:l.pre.holds [] { args:=args }=true:=(pre_splitW hpre).2
 obtain ⟨d,r,rfl,h1,h2⟩:=hasAllW_cons hsh
 obtain rfl:=hasAllW_nil h2
 obtain ⟨xs,rfl,h3⟩:=hasW_list h1
 obtain ⟨ns,rfl⟩:=items_int h3
 have hlen:ns.length<=n:=by
  unfold OpenLaw.pre at hc
  have h4:(WTm.not (.lt (.lit (.int (n:Int))) (.len (.arg 0)))).holds [] { args:=[.list (ns.map .int)] }=true:=by
   have h4:=(holds_andW hc).1
   rw[hn] at h4
   exact h4
  have h5:=condW_of h4 (w_not (w_lt w_lit (w_len_list (w_arg rfl))))
  rw[List.length_map] at h5
  refine Nat.le_of_not_lt fun q=> ?_
  have q':(n:Int) < ((ns.length:Nat):Int):=by omega
  first
   | (rw[decide_eq_true q'] at h5;exact absurd h5 (by decide))
   | (simp at h5;omega)
 cases hwl with
 |cons w1 w2=>
  cases w2
  cases w1 with
  |list ho hall=>exact ⟨_,_,ns,rfl,rfl,ho,Za1 ns _ hall,hlen⟩
theorem Zd2 (l:OpenLaw) (args:List WData):l.row.toRowW.claim.post args (.bool true) args=true:=
 postW_of (r:=l.row.toRowW) (X:=(true == true))
  (show WShape.has [] (.bool true) .bool=true by first | rfl | decide | simp[WShape.has,WShape.arms,WShape.armsAll])
  (show (WTm.eq .res (.lit (.bool true))).value [] { args:=args,res:=some (.bool true),after:=args }=some (.bool (true == true)) from w_eq_bool (w_res rfl) w_lit) rfl
theorem Zcy {l:OpenLaw} {n:Nat} {q:Program} {loose:List Str} {XP:(Str->Option Value)->Heap->Prop} {YP:World->Heap->Prop} {d:DefRec}
  (hn:l.most=some n) (hdf:d.params.defaults=[])
  (call: ∀ (w:World) (s₀ s₁:Shared) (mg mb:Str->Option Value) (fa:Addr) (o:Obj) (pm cd doc:Value) (a:Addr) (vs:List Value) (ns:List Int),
   Ground q loose [] XP w s₀ mg mb s₁.heap->YP w s₁.heap->
   s₁.heap.get? fa=some o->o.data= .func (docDef d.name d.params d.body d.scope pm cd doc)->s₁.heap.CodeRec cd d.name->mg d.name=some (.ref fa)->
   s₁.heap.get? a=some { cls:= .type "list",data:= .seq vs.toArray }->IntsAre vs ns->ns.length<=n->s₁.gens= #[]->
   codeAny (model l.prog w) callerA (.call (.ref fa) ⟨[.ref a],[]⟩) (fun r s'=>r= .ok (.ret (.bool true))/\OldK s₁.heap s'.heap/\s'.os=s₁.os/\AllBare s'.gens) s₁):
  WalkO q loose XP YP l.row.toRowW d [] (fun f vs=>PySem.call f vs):=by
 intro w s₀ s₁ mg mb G Y fa o pm cd doc dV kV ho hd hcd hD hmg hg args vals as hpre hlay hrd hwl hlo
 obtain rfl:dV= .none:=Dflts.none hD hdf
 obtain rfl:kV= .none:=Dflts.noKw hD
 obtain ⟨a,vs,ns,rfl,rfl,hobj,hints,hlen⟩:=Zd1 hn hpre hwl
 refine enter_call (codeAny_mono (call w s₀ s₁ mg mb fa o pm cd doc a vs ns G Y ho (fd_plain hd) hcd hmg hobj hints hlen hg) fun r s' hq=> ?_)
 obtain ⟨rfl,h2,h3,h4⟩:=hq
 exact ⟨.inl ⟨.bool true,.bool true,[],rfl,fun _=>rfl,.bool true,Zd2 l _,fun _=>⟨List.Pairwise.nil,fun _ hm=>(nomatch hm)⟩⟩,h2,h3,h4⟩
section
variable {prog:Program} {w:World} {A:Around} {E:Value->Shared->Prop} {s:Shared} {K:Frag}
end
end Att
namespace L2
open PySem PySem.Spec PyProof.Rows
theorem ZbP: ∀ {vs:List Value} {ns:List Int},IntsAre vs ns->ZF (ns.map V.int) vs
 |_,_,.nil=> .nil
 |_,_,.cons n t h=> .cons ⟨t,rfl⟩ (ZbP h)
noncomputable def Zk4 (H:Hp):Prop:= ∀ b,H b=none\/ ∃ o xs,H b=some (.frz o (.lst xs))
theorem Zfj {P:Program} {w:World} {K:PySem.W.Frag} {mg mb:Str->Option Value} {CX:CXT} {k:Nat} {fa a:Addr} {fd:FuncData} {x:Str} {sp:Sp} {s₁:Shared} {vs:List Value} {ns:List Int}
  (KX:K.In s₁.heap) (hns:s₁.heap.Ns mainGlobals mg) (hb:s₁.heap.Ns builtinsNs mb) (hbb: ∀ x:Str,x≠"__name__"->mb x=bootBuiltins x) (hlim:s₁.heap.NoLimit) (hg:s₁.gens= #[])
  (ha:s₁.heap.get? a=some { cls:= .type "list",data:= .seq vs.toArray }) (hi:IntsAre vs ns) (hl:ns.length<=sizeLine) (hr:Room k callerA)
  (F: ∀ base:Heap,K.In base->base.Ns mainGlobals mg->FnOk P w K mg base CX k fa fd [x] sp) (hbind: ∀ (s:Shared) (u:Value),BindsTo s fd ⟨[u],[]⟩ [(x,u)])
  (hsp: ∀ H:Hp,Zk4 H->SqL K H a (ns.map V.int)->sp [.ref a] H (fun v _=>v= .bl true) fun _ _ _=>False)
  (hCX: ∀ H e s',CX [] H s₁ (fun _ _ _=>False) e s'->False):
  codeAny (model P w) callerA (.call (.ref fa) ⟨[.ref a],[]⟩) (fun r s'=>r= .ok (.ret (.bool true))/\OldK s₁.heap s'.heap/\s'.os=s₁.os/\AllBare s'.gens) s₁:=by
 have rv:=ZbP hi
 have lenV:=hi.length
 have core: ∀ H:Hp,Zk4 H->SqL K H a (ns.map V.int)->HOk P w H s₁.heap->(∀ b,H b≠none->b=a)->(H a≠none->K.lookup a=none)->
   codeAny (model P w) callerA (.call (.ref fa) ⟨[.ref a],[]⟩) (fun r s'=>r= .ok (.ret (.bool true))/\OldK s₁.heap s'.heap/\s'.os=s₁.os/\AllBare s'.gens) s₁:=by
  intro H hO hS hok hA hK
  have base_of: ∀ {b:Addr} {o:Obj},s₁.heap.get? b=some o->H b=none->(Ze4 s₁.heap H).get? b=some o:=fun e n=>ZcQ e n
  have noA: ∀ {b:Addr} {o:Obj} {es:Array DictEntry} {ep:Nat},s₁.heap.get? b=some o->o.data= .dict es ep->H b=none:=fun {b o es ep} e d=>by
   cases q:H b with
   |none=>rfl
   |some u=>
    have e':b=a:=hA b (by rw[q];simp)
    subst e'
    rw[ha] at e;cases e
    have d':Data.seq vs.toArray _=Data.dict es ep:=d
    cases d'
  have nsK: ∀ {b:Addr} {m:Str->Option Value},s₁.heap.Ns b m->(Ze4 s₁.heap H).Ns b m:=fun {b m} ⟨o,es,ep,e,d,r⟩=>⟨o,es,ep,base_of e (noA e d),d,r⟩
  have hKb:K.In (Ze4 s₁.heap H):=fun b o e=>base_of (KX b o e) (by
   cases q:H b with
   |none=>rfl
   |some u=>
    have e':b=a:=hA b (by rw[q];simp)
    subst e'
    rw[hK (by rw[q];simp)] at e;cases e)
  have hM:Mod K mg (Ze4 s₁.heap H):=⟨hKb,nsK hns,⟨mb,nsK hb,hbb⟩,let ⟨mc,h1,h2⟩:=hlim;⟨mc,nsK h1,h2⟩⟩
  have e0:Env0 P w K mg (Ze4 s₁.heap H) callerA [] s₁ H:=⟨rfl,hM,fun b o e=>ZdL e,Nat.le_of_eq (ZdK _ _),trivial,fun b hb=>absurd (show b∈([]:List Addr) from hb) (by simp),hok,.of_eq hg,.inl rfl⟩
  refine codeAny_mono ((F _ hKb (nsK hns)).run callerA [] s₁ H ⟨[.ref a],[]⟩ [.ref a] [.ref a] _ _ hr e0 (hbind s₁ (.ref a)) (.cons rfl .nil) (hsp H hO hS)) fun r s' h=> ?_
  cases r with
  |error e=>exact (hCX H e s' h).elim
  |ok fl=>
   cases fl with
   |next=>exact False.elim h
   |brk=>exact False.elim h
   |cont=>exact False.elim h
   |ret u=>
    obtain ⟨v,H',os,bare,un,hok',r',q⟩:=h
    have q':v= .bl true:=q
    subst q'
    obtain rfl:u=Value.bool true:=r'
    refine ⟨rfl,OldK.of_keep fun b o e=> ?_,os,bare⟩
    cases q:H b with
    |none=>exact un.keep b o e q (by intro z;exact absurd (show b∈([]:List Addr) from z) (by simp)) (by simp)
    |some u=>
     rcases hO b with z | ⟨ob,xs,z⟩
     ·rw[q] at z;cases z
     ·have z2:=un.frzs b ob _ z
      obtain ⟨e1,_⟩:=hok b _ z
      obtain ⟨e2,_⟩:=hok' b _ z2
      rw[e] at e1;cases e1
      exact e2
 cases hk:K.lookup a with
 |some o=>
  have e:=KX a o hk
  rw[ha] at e
  cases e
  refine core (fun _=>none) (fun _=> .inl rfl) (.inr ⟨_,vs.toArray,_,hk,rfl,rfl,rfl,by rw[List.size_toArray,lenV];exact hl,by simpa using rv⟩) (fun b u z=>by have z':(none:Option HO)=some u:=z;cases z') (fun b z=>absurd rfl z) fun z=>absurd rfl z
 |none=>
  refine core (fun b=>if b=a then some (.frz { cls:= .type "list",data:= .seq vs.toArray } (.lst (ns.map V.int))) else none) (fun b=> ?_) (.inl (.inr ⟨{ cls:= .type "list",data:= .seq vs.toArray },if_pos rfl⟩)) (fun b u z=> ?_) (fun b z=> ?_) fun _=>hk
  ·by_cases hb:b=a
   ·exact .inr ⟨_,_,if_pos hb⟩
   ·exact .inl (if_neg hb)
  ·by_cases hb:b=a
   ·have z':=(if_pos hb).symm.trans z
    cases z'
    subst hb
    exact ⟨ha,by rw[List.length_map];exact hl,vs,_,rv,ha⟩
   ·have z':=(if_neg hb).symm.trans z
    cases z'
  ·by_cases hb:b=a
   ·exact hb
   ·exact absurd (if_neg hb) z
end L2
namespace L2
open PySem PySem.Spec PyProof.Rows
theorem ZgX {l:PySem.W.OpenLaw} {n k:Nat} {q:Program} {loose:List Str} {XP:(Str->Option Value)->Heap->Prop} {YP:World->Heap->Prop} {d:DefRec} {K:Params->PySem.W.Frag} {CX:World->CXT} {sp:World->Sp} {x:Str}
  (hn:l.most=some n) (hn2:n<=sizeLine) (hdf:d.params.defaults=[]) (hr:Room k callerA)
  (hY: ∀ (w:World) (h:Heap),YP w h->(K w.params).In h)
  (F: ∀ (w:World) (mg:Str->Option Value) (fa:Addr) (h:Heap),(K w.params).In h->h.Ns mainGlobals mg->mg d.name=some (.ref fa)->
   ∃ fd:FuncData,(∀ (s:Shared) (u:Value),BindsTo s fd ⟨[u],[]⟩ [(x,u)])/\
    ∀ base:Heap,(K w.params).In base->base.Ns mainGlobals mg->FnOk l.prog w (K w.params) mg base (CX w) k fa fd [x] (sp w))
  (hsp: ∀ (w:World) (H:Hp) (a:Addr) (ns:List Int),ns.length<=n->Zk4 H->SqL (K w.params) H a (ns.map V.int)->sp w [.ref a] H (fun v _=>v= .bl true) fun _ _ _=>False)
  (hCX: ∀ (w:World) (H:Hp) (s:Shared) (e:Value) (s':Shared),CX w [] H s (fun _ _ _=>False) e s'->False):
  PySem.W.WalkO q loose XP YP l.row.toRowW d [] (fun f vs=>PySem.call f vs):=by
 refine Att.Zcy hn hdf fun w s₀ s₁ mg mb fa o pm cd doc a vs ns G Y ho hd hcd hmg hobj hints hlen hg=> ?_
 have KX:=hY w _ Y
 obtain ⟨fd,hb,hF⟩:=F w mg fa _ KX G.T.g hmg
 exact Zfj KX G.T.g G.T.b G.T.builtins G.T.nolimit hg hobj hints (Nat.le_trans hlen hn2) hr hF hb (fun H hO hS=>hsp w H a ns hlen hO hS) fun H e s'=>hCX w H s₁ e s'
end L2
namespace L2
open PySem PySem.Spec PyProof.Rows
noncomputable def Zt (s:Stmt):Arguments:=match s with
 | .FunctionDef _ a _ _ _ _ _ _ _ _=>a
 |_=>{ posonlyargs:=[],args:=[],vararg:=none,kwonlyargs:=[],kw_defaults:=[],kwarg:=none,defaults:=[] }
noncomputable def Zq (s:Stmt):List Stmt:=match s with
 | .FunctionDef _ _ b _ _ _ _ _ _ _=>b
 |_=>[]
noncomputable def Zg (s:Stmt):Scope:=match s with
 | .FunctionDef _ _ _ _ _ _ sc _ _ _=>sc
 |_=>{ kind:= .function,names:=[],isGenerator:=false,isCoroutine:=false }
noncomputable abbrev E0:XK:=fun _ _ _=>False
structure Fun (K:PySem.W.Frag) (x qual:Str) (st:Stmt) (f:Addr) (fd:FuncData):Prop where
 ex: ∃ (oc:Value) (od:Option Addr) (kV doc pm:Value) (an:Option Addr) (cdv ct:Value) (osl:Array (Option Value)),
  fd=PySem.W.fnOf x qual (Zt st) (Zq st) (Zg st) .none kV doc pm an cdv ct/\K.lookup f=some ⟨oc,od,.func fd,osl⟩/\PySem.W.codeIn K cdv qual=true
 kp:PySem.W.keepIn K (.ref f)=true
section
variable {P:Program} {w:World} {K:PySem.W.Frag} {mg:Str->Option Value} {base:Heap}
theorem Fun.binds {x qual:Str} {st:Stmt} {f:Addr} {fd:FuncData} {ps:List Str} (F:Fun K x qual st f fd)
  (h: ∀ (kV doc pm:Value) (an:Option Addr) (cdv ct:Value) (us:List Value),us.length=ps.length->bindArgs (PySem.W.fnOf x qual (Zt st) (Zq st) (Zg st) .none kV doc pm an cdv ct) ⟨us,[]⟩=pure (ps.zip us)):Zcx K fd ps []:=by
 obtain ⟨oc,od,kV,doc,pm,an,cdv,ct,osl,rfl,lk,hcd⟩:=F.ex
 exact .all (h kV doc pm an cdv ct)
theorem Z5 {x qual:Str} {st:Stmt} {f:Addr} {oc:Value} {od an:Option Addr} {osl:Array (Option Value)} {kV doc pm cdv ct:Value} (l:K.lookup f=some ⟨oc,od,.func (PySem.W.fnOf x qual (Zt st) (Zq st) (Zg st) .none kV doc pm an cdv ct),osl⟩)
  (c:PySem.W.codeIn K cdv qual=true) (k:PySem.W.keepIn K (.ref f)=true):Fun K x qual st f (PySem.W.fnOf x qual (Zt st) (Zq st) (Zg st) .none kV doc pm an cdv ct):=⟨⟨oc,od,kV,doc,pm,an,cdv,ct,osl,rfl,l,c⟩,k⟩
end
theorem Zd3 {n:Nat} (h:n<=1000):n < sizeLine:=Nat.lt_of_le_of_lt h (by decide)
section
variable {X:Cx}
theorem pv (i:Nat) {x:Str} {pos:Pos} (hN:X.N[i]?=some x:=by rfl) (hv:Vis X.env.scope x:=by first | exact Or.inl rfl | exact Or.inr (Or.inl rfl) | exact Or.inr (Or.inr rfl)) (hd:(x == ("__debug__":Str))=false:=by decide)
  (hcd:(x == ("__classdict__":Str))=false:=by decide):PE X (.Name x pos) (Znb i):=ZfY hN hv hd hcd
end
theorem Zh9 {A B:Prop} (h:B):if false=true then A else B:=by
 rw[if_neg Bool.false_ne_true]
 exact h
theorem Zia {A B:Prop} (h:A):if true=true then A else B:=by
 rw[if_pos rfl]
 exact h
noncomputable def Znj (H H':Hp):Prop:= ∀ b o,H b=some o->H' b=some o
theorem Znj.free {H H':Hp} (e:Znj H H') {l:Addr} (h:H' l=Option.none):H l=Option.none:=by
 cases q:H l with
 |none=>rfl
 |some o=>
  rw[e l o q] at h
  cases h
end L2
end
section
namespace L2
open PySem PySem.Spec PyProof.Rows
end L2
namespace L2
open PySem PySem.Spec PyProof.Rows
section
variable (P:Program) (w:World)
end
section
variable {P:Program} {w:World} {H H':Hp} {h h':Heap} {a:Addr} {o:HO}
end
section
variable {P:Program} {w:World} {H:Hp} {h h':Heap} {x e:Addr} {o':HO}
end
section
variable {fs fs' ex ex':List Addr} {H H1 H2:Hp} {h h1 h2 h':Heap} {a x e:Addr} {o:HO}
end
end L2
namespace L2
open PySem PySem.Spec PyProof.Rows
section
variable {X:Cx} {pins:List (Addr × Obj)} {σ:List (Option V)} {H H':Hp} {s:Shared} {h':Heap}
end
end L2
namespace L2
open PySem PySem.Spec PyProof.Rows
section
variable {X:Cx}
variable {a b:Expr} {ta tb:TE} {pos:Pos}
variable {tA tB':TT} {rest:List Expr}
end
end L2
namespace L2
open PySem PySem.Spec PyProof.Rows
section
variable {X:Cx} {pins:List (Addr × Obj)} {σ:St} {H:Hp} {s:Shared} {a:Addr} {xs ys:List V}
end
section
variable {X:Cx} {pins:List (Addr × Obj)} {σ:St} {H:Hp} {s:Shared} {E:Value->Shared->Prop}
end
section
variable {X:Cx} {st:Stmt} {rest:List Stmt} {t u:TS} {e:Expr} {te:TE} {pos:Pos}
end
section
variable {X:Cx} {pos:Pos}
end
section
variable {X:Cx} {pos:Pos}
end
end L2
namespace L2
open PySem PySem.Spec PyProof.Rows
section
variable {X:Cx} {tg:Expr}
end
end L2
namespace L2
open PySem PySem.Spec PyProof.Rows
section
variable {X:Cx} {a b c:Expr} {ta tb tc:TE} {pos:Pos}
end
section
variable {X:Cx} {a b c:Expr} {ta tb tc:TE} {pos:Pos}
end
end L2
namespace L2
open PySem PySem.Spec PyProof.Rows
section
variable {prog:Program} {w:World} {A:Around} {E:Value->Shared->Prop} {s:Shared} {K:PySem.W.Frag} {x dx C f:Addr} {mA:Str->Option Value} {name:Str} {v:Value}
end
section
variable {P:Program} {w:World} {H H':Hp} {h h':Heap} {a C dx:Addr} {fs fs':List (Str × V)}
end
section
variable {X:Cx} {pins:List (Addr × Obj)} {σ:St} {H:Hp} {s:Shared} {a C dx:Addr} {fs:List (Str × V)} {f:Str} {v:V} {A:Around} {E:Value->Shared->Prop}
end
section
variable {X:Cx} {o e value:Expr} {f:Str} {pos pos' tpos:Pos} {ta tv:TE}
end
section
variable {X:Cx} {pins:List (Addr × Obj)} {σ:St} {H:Hp} {s:Shared} {A:Around} {E:Value->Shared->Prop} {Q:Value->Shared->Prop} {c:Value} {b:Bool}
end
end L2
namespace L2
open PySem PySem.Spec PyProof.Rows
section
variable {X:Cx} {e:Expr} {es:List Expr} {te:TE} {t:TA} {pos:Pos}
end
section
variable {X:Cx} {pins:List (Addr × Obj)} {σ:St} {H:Hp} {s s':Shared}
end
section
variable {X:Cx} {CX:CXT} {k:Nat} {f C:Addr} {fd:FuncData} {ps:List Str} {sp:Sp} {dvs:List V} {ds:List Value} {E:XK} {x m:Str} {p pos apos:Pos} {e o:Expr} {es:List Expr} {ta:TE} {t:TA}
end
section
variable {X:Cx} {CX:CXT} {k:Nat} {f C:Addr} {fd:FuncData} {ps ks:List Str} {sp:Sp} {E:XK} {x m:Str} {p pos apos kpos:Pos} {e o:Expr} {es:List Expr} {kws:List Keyword} {te ta:TE} {t tk:TA} {nm:Option Str}
variable {g:List Value->List Value->List Value} {gV:List V->List V->List V}
end
end L2
namespace L2
open PySem PySem.Spec PyProof.Rows
section
variable {X:Cx} {x:Str} {p pos:Pos} {e:Expr} {es:List Expr} {t:TA} {id T:String} {r:List V->Hp->VK->Prop}
end
end L2
namespace L2
open PySem PySem.Spec PyProof.Rows
section
variable {κ:Type} [DecidableEq κ]
noncomputable def Zcr (kvs:List (κ × V)) (k:κ):Option V:=(kvs.find? fun kv=>decide (kv.1=k)).map (·.2)
noncomputable def ZbH (kvs:List (κ × V)) (k:κ) (v:V):List (κ × V):=
 if (kvs.any fun kv=>decide (kv.1=k))=true then kvs.map (fun kv=>if kv.1=k then (kv.1,v) else kv) else kvs ++ [(k,v)]
theorem ZaX {p:κ × V} {r:List (κ × V)} {k:κ} (e:p.1=k):Zcr (p :: r) k=some p.2:=by simp[Zcr,List.find?_cons,e]
theorem ZaY {p:κ × V} {r:List (κ × V)} {k:κ} (e: ¬ p.1=k):Zcr (p :: r) k=Zcr r k:=by simp[Zcr,List.find?_cons,e]
theorem Zbu (k:κ): ∀ kvs:List (κ × V),(kvs.any fun kv=>decide (kv.1=k))=(Zcr kvs k).isSome
 | []=>rfl
 |p :: r=>by
  rw[List.any_cons]
  by_cases e:p.1=k
  ·simp only[ZaX e,decide_eq_true e,Bool.true_or,Option.isSome_some]
  ·rw[ZaY e,decide_eq_false e,Bool.false_or];exact Zbu k r
theorem Za2 (kvs:List (κ × V)) (k:κ) (v:V):(ZbH kvs k v).length<=kvs.length + 1:=by
 unfold ZbH
 split
 ·rw[List.length_map];omega
 ·rw[List.length_append,List.length_cons,List.length_nil];omega
theorem Zh8.isSome_eq {o:Option V} {u:Option Value} (r:Zh8 o u):o.isSome=u.isSome:=by
 cases o with
 |none=>cases u with
  |none=>rfl
  |some _=>exact (show False from r).elim
 |some _=>cases u with
  |none=>exact (show False from r).elim
  |some _=>rfl
theorem KV.val {kvs:List (κ × V)} {vs:List (κ × Value)} (r:KV kvs vs) (k:κ):Zh8 (Zcr kvs k) (valueAt vs k):=by
 unfold KV at r
 induction r with
 |nil=>exact True.intro
 | @cons p q ps qs h t ih=>
  obtain ⟨h1,h2⟩:=h
  by_cases e:p.1=k
  ·have e':q.1=k:=h1.symm.trans e
   have b:valueAt (q :: qs) k=some q.2:=by simp[valueAt,List.find?_cons,e']
   rw[ZaX e,b];exact h2
  ·have e': ¬ q.1=k:=fun z=>e (h1.trans z)
   have b:valueAt (q :: qs) k=valueAt qs k:=by simp[valueAt,List.find?_cons,e']
   rw[ZaY e,b];exact ih
theorem KV.any {kvs:List (κ × V)} {vs:List (κ × Value)} (r:KV kvs vs) (k:κ):(kvs.any fun kv=>decide (kv.1=k))=vs.any fun kv=>decide (kv.1=k):=by
 unfold KV at r
 induction r with
 |nil=>rfl
 |cons h t ih=>rw[List.any_cons,List.any_cons,ih,h.1]
theorem KV.repl {kvs:List (κ × V)} {vs:List (κ × Value)} (r:KV kvs vs) (k:κ) {y:V} {u:Value} (ry:Zz y u):
  KV (kvs.map fun kv=>if kv.1=k then (kv.1,y) else kv) (vs.map fun kv=>if kv.1=k then (kv.1,u) else kv):=by
 unfold KV at r ⊢
 induction r with
 |nil=>exact .nil
 | @cons p q ps qs h t ih=>
  rw[List.map_cons,List.map_cons]
  refine .cons ?_ ih
  obtain ⟨h1,h2⟩:=h
  by_cases e:p.1=k
  ·rw[if_pos e,if_pos (h1.symm.trans e)];exact ⟨h1,ry⟩
  ·rw[if_neg e,if_neg (fun z=>e (h1.trans z))];exact ⟨h1,h2⟩
theorem KV.put {kvs:List (κ × V)} {vs:List (κ × Value)} (r:KV kvs vs) (k:κ) {y:V} {u:Value} (ry:Zz y u):KV (ZbH kvs k y) (stored vs k u):=by
 unfold ZbH stored
 rw[r.any k]
 by_cases e:(vs.any fun kv=>decide (kv.1=k))=true
 ·rw[if_pos e,if_pos e];exact r.repl k ry
 ·rw[if_neg e,if_neg e];exact Paired.snoc r ⟨rfl,ry⟩
theorem KV.length {kvs:List (κ × V)} {vs:List (κ × Value)} (r:KV kvs vs):kvs.length=vs.length:=Paired.length r
end
theorem ZgY {P:Program} {w:World} {k:Key} {u:Value} (r:Zz (kV k) u):(ZA P w).is k u=true:=by
 cases k with
 |inl i=>obtain ⟨t,e⟩:=(show ∃ t,u=Value.int i t from r);subst e;exact Zcu P w i t
 |inr x=>obtain ⟨t,e⟩:=(show ∃ t,u=Value.str x t from r);subst e;exact Zcv P w x t
theorem ZbQ {P:Program} {w:World}: ∀ {ks:List Key} {us:List Value},ZF (ks.map kV) us->ItemsAre (ZA P w) ks us
 | [],_,r=>by rw[List.map_nil] at r;cases r;exact .nil
 |k :: ks,_,r=>by
  rw[List.map_cons] at r
  cases r with
  |cons h t=>exact .cons (ZgY h) (ZbQ t)
noncomputable abbrev KT (H:Hp):List (List Key × V)->List (List Key × Addr × Value)->Prop:=Paired fun p q=>p.1=q.1/\H q.2.1=some (.tup (p.1.map kV))/\Zz p.2 q.2.2
theorem KT.val {H:Hp} {kvs:List (List Key × V)} {xs:List (List Key × Addr × Value)} (r:KT H kvs xs) (k:List Key):Zh8 (Zcr kvs k) ((atKey xs k).map (·.2)):=by
 induction r with
 |nil=>exact True.intro
 | @cons p q ps qs h t ih=>
  obtain ⟨h1,_,h2⟩:=h
  by_cases e:p.1=k
  ·have e':q.1=k:=h1.symm.trans e
   have b:atKey (q :: qs) k=some q.2:=by simp[atKey,List.find?_cons,e']
   rw[ZaX e,b];exact h2
  ·have e': ¬ q.1=k:=fun z=>e (h1.trans z)
   have b:atKey (q :: qs) k=atKey qs k:=by simp[atKey,List.find?_cons,e']
   rw[ZaY e,b];exact ih
theorem KT.repl {H:Hp} {kvs:List (List Key × V)} {xs:List (List Key × Addr × Value)} (r:KT H kvs xs) (k:List Key) {y:V} {u:Value} (ry:Zz y u):
  KT H (kvs.map fun kv=>if kv.1=k then (kv.1,y) else kv) (xs.map (putAt k u)):=by
 induction r with
 |nil=>exact .nil
 | @cons p q ps qs h t ih=>
  rw[List.map_cons,List.map_cons]
  refine .cons ?_ ih
  obtain ⟨h1,h2,h3⟩:=h
  unfold putAt
  by_cases e:p.1=k
  ·rw[if_pos e,if_pos (h1.symm.trans e)];exact ⟨h1,h2,ry⟩
  ·rw[if_neg e,if_neg (fun z=>e (h1.trans z))];exact ⟨h1,h2,h3⟩
theorem KT.put {H:Hp} {kvs:List (List Key × V)} {xs:List (List Key × Addr × Value)} (r:KT H kvs xs) (k:List Key) {b:Addr} {y:V} {u:Value} (hb:H b=some (.tup (k.map kV))) (ry:Zz y u):
  KT H (ZbH kvs k y) (storedH xs k b u):=by
 have e:(kvs.any fun kv=>decide (kv.1=k))=(atKey xs k).isSome:=by
  rw[Zbu,(r.val k).isSome_eq,Option.isSome_map]
 unfold ZbH storedH
 rw[e]
 by_cases q:(atKey xs k).isSome=true
 ·rw[if_pos q,if_pos q];exact r.repl k ry
 ·rw[if_neg q,if_neg q];exact Paired.snoc r ⟨rfl,hb,ry⟩
theorem KT.keeps {H H':Hp} {kvs:List (List Key × V)} {xs:List (List Key × Addr × Value)} (r:KT H kvs xs) (ht: ∀ b ys,H b=some (.tup ys)->H' b=some (.tup ys)):KT H' kvs xs:=
 Paired.mapP r fun _ _ z=>⟨z.1,ht _ _ z.2.1,z.2.2⟩
section
variable {P:Program} {w:World} {H:Hp} {h:Heap} {a:Addr}
theorem ZiN {u:HO} (ok:HOk P w H h) (e:Rd H a u):Z1 P w H h a u:=e.ok ok
theorem ZiO {kvs:List (Key × V)} (ok:HOk P w H h) (e:Rd H a (.dK kvs)):kvs.length<=sizeLine/\(a == sysModules)=false/\ ∃ vs,KV kvs vs/\h.DictOf (ZA P w) a vs:=
 show Z1 P w H h a (.dK kvs) from ZiN ok e
theorem Zlx {kvs:List (Key × V)} (ok:HOk P w H h) (e:H a=some (.dK kvs)):kvs.length<=sizeLine/\(a == sysModules)=false/\ ∃ vs,KV kvs vs/\h.DictOf (ZA P w) a vs:=ZiO ok (.inl e)
theorem Zd4 {ks:List Key} (ok:HOk P w H h) (e:H a=some (.tup (ks.map kV))):(tupleKind (ZA P w)).is h ks a:=by
 obtain ⟨_,its,r,o,h1,h2,n,h3⟩:=(show Z1 P w H h a (.tup (ks.map kV)) from ok a _ e)
 exact ⟨o,its.toArray,n,h1,h2,h3,by simpa using ZbQ r⟩
theorem ZiP {kvs:List (List Key × V)} (ok:HOk P w H h) (e:Rd H a (.dT kvs)):kvs.length<=sizeLine/\(a == sysModules)=false/\
  ∃ xs,KT H kvs xs/\h.DictOfH (tupleKind (ZA P w)) a xs:=by
 obtain ⟨z,y,xs,r,o,es,ep,h1,h2,h3,h4,h5⟩:=(show Z1 P w H h a (.dT kvs) from ZiN ok e)
 refine ⟨z,y,xs,r,o,es,ep,h1,h2,h3,h4,fun x hx=> ?_,h5⟩
 have all: ∀ {l:List (List Key × V)} {m:List (List Key × Addr × Value)},KT H l m-> ∀ x∈m,(tupleKind (ZA P w)).is h x.1 x.2.1:=by
  intro l m q
  induction q with
  |nil=>intro x hx;exact nomatch hx
  | @cons p q ps qs hq t ih=>
   intro x hx
   rcases List.mem_cons.mp hx with e | hx
   ·subst e
    exact Zd4 ok (by rw[<- hq.1];exact hq.2.1)
   ·exact ih x hx
 exact all r x hx
theorem Zd5 {kvs:List (List Key × V)} (ok:HOk P w H h) (e:H a=some (.dT kvs)):kvs.length<=sizeLine/\(a == sysModules)=false/\
  ∃ xs,KT H kvs xs/\h.DictOfH (tupleKind (ZA P w)) a xs:=ZiP ok (.inl e)
end
noncomputable def Zly (H:Hp) (a:Addr) (y:V) (r:Option V):Prop:=
 (∃ kvs k,Rd H a (.dK kvs)/\y=kV k/\r=Zcr kvs k)\/ ∃ kvs k b,Rd H a (.dT kvs)/\y= .ref b/\H b=some (.tup (k.map kV))/\r=Zcr kvs k
noncomputable def Zf3 (H:Hp) (a:Addr) (y v:V) (H':Hp):Prop:=
 (∃ kvs k,H a=some (.dK kvs)/\y=kV k/\kvs.length < sizeLine/\H'=upd H a (.dK (ZbH kvs k v)))\/
 ∃ kvs k b,H a=some (.dT kvs)/\y= .ref b/\H b=some (.tup (k.map kV))/\kvs.length < sizeLine/\H'=upd H a (.dT (ZbH kvs k v))
theorem Zf3.k {H:Hp} {a:Addr} {kvs:List (Key × V)} {k:Key} {v:V} (e:H a=some (.dK kvs)) (hl:kvs.length < sizeLine):Zf3 H a (kV k) v (upd H a (.dK (ZbH kvs k v))):= .inl ⟨kvs,k,e,rfl,hl,rfl⟩
theorem Zf3.t {H:Hp} {a b:Addr} {kvs:List (List Key × V)} {k:List Key} {v:V} (e:H a=some (.dT kvs)) (eb:H b=some (.tup (k.map kV))) (hl:kvs.length < sizeLine):
  Zf3 H a (.ref b) v (upd H a (.dT (ZbH kvs k v))):= .inr ⟨kvs,k,b,e,rfl,eb,hl,rfl⟩
section
variable {X:Cx} {pins:List (Addr × Obj)} {σ:St} {H:Hp} {s:Shared} {a:Addr} {y v:V} {u r:Value} {o:Option V} {A:Around} {E:Value->Shared->Prop}
theorem Inv.big (I:Inv X pins σ H s):sysModules < s.heap.objs.size:=by
 have h:mainGlobals < s.heap.objs.size:=(I.mod.glob.keeps I.bk).lt
 exact Nat.lt_trans (by decide) h
theorem Zox {Q:Value->Shared->Prop} (hu:A.units + 1 < cLine) (I:Inv X pins σ H s) (g:Zly H a y o) (ry:Zz y u) (h: ∀ s',Inv X pins σ H s'->Q (.bool o.isSome) s'):
  wpAny (model X.prog X.w) A (compareOp .In u (.ref a)) Q E s:=by
 rcases g with ⟨kvs,k,e,ey,l⟩ | ⟨kvs,k,b,e,ey,eb,l⟩
 ·subst ey
  obtain ⟨z,hd,vs,rel,dd⟩:=ZiO I.hok e
  refine wpAny_in_of (ZgY ry) hd dd.mapOf ?_
  rw[<- (rel.val k).isSome_eq,<- l]
  exact h _ (I.tok _)
 ·subst ey
  cases (show u=Value.ref b from ry)
  obtain ⟨z,hd,xs,rel,dd⟩:=ZiP I.hok e
  refine wpAny_in_heap (tupleKind_room_in1 hu) (Zd4 I.hok eb) hd dd ?_
  have q:=(rel.val k).isSome_eq
  rw[Option.isSome_map] at q
  rw[<- q,<- l]
  exact h _ (I.tok _)
theorem Zd6 {h':Heap} {t':Nat} {ob:HO} (I:Inv X pins σ H s) (mu:Mut (H a)) (hs:Heap.SameBut a s.heap h') (he: ∃ q,h'.get? a=some q) (new:Z1 X.prog X.w (upd H a ob) h' a ob):
  Inv X pins σ (upd H a ob) { s with heap:=h',toks:=t' }:=
 I.write (x:=a) (e:=a) mu (.inl rfl) (fun b q hb z=>(hs.2 b hb).trans z) he new
theorem ZiQ {P:Program} {w:World} {H':Hp} {h':Heap} {kvs:List (Key × V)} {vs:List (Key × Value)} (z:kvs.length<=sizeLine) (hd:(a == sysModules)=false) (rel:KV kvs vs) (dd:h'.DictOf (ZA P w) a vs):
  Z1 P w H' h' a (.dK kvs):=⟨z,hd,vs,rel,dd⟩
theorem Zd7 {H':Hp} {Q:Unit->Shared->Prop} (hu:A.units + 1 < cLine) (I:Inv X pins σ H s) (g:Zf3 H a y v H') (ry:Zz y u) (rv:Zz v r) (h: ∀ s',Inv X pins σ H' s'->Q () s'):
  wpAny (model X.prog X.w) A (setItem (.ref a) u r) Q E s:=by
 rcases g with ⟨kvs,k,e,ey,l,eH⟩ | ⟨kvs,k,b,e,ey,eb,l,eH⟩
 ·subst ey eH
  obtain ⟨z,hd,vs,rel,dd⟩:=Zlx I.hok e
  have hz:vs.length<=sizeLine:=by rw[<- rel.length];exact z
  have hl:(ZbH kvs k v).length<=sizeLine:=by have:=Za2 kvs k v;omega
  refine wpAny_setItem_pairs (hsz:=hz) (ZgY ry) dd fun h' dd' hs=>h _ ?_
  have he: ∃ q,h'.get? a=some q:=let ⟨q,_,_,hq,_⟩:=dd';⟨q,hq⟩
  exact Zd6 I (by rw[e];exact True.intro) hs he (ZiQ hl hd (rel.put k rv) dd')
 ·subst ey eH
  cases (show u=Value.ref b from ry)
  obtain ⟨z,hd,xs,rel,dd⟩:=Zd5 I.hok e
  have hz:xs.length<=sizeLine:=by rw[<- Paired.length rel];exact z
  have hl:(ZbH kvs k v).length<=sizeLine:=by have:=Za2 kvs k v;omega
  refine wpAny_setItem_heap (hsz:=hz) (tupleKind_room_in1 hu) (Zd4 I.hok eb) dd fun h' dd' hs=>h _ ?_
  obtain ⟨q,es,ep,hq,h2,h3,h4,_,h5⟩:=dd'
  refine Zd6 I (by rw[e];exact True.intro) hs ⟨q,hq⟩ ⟨hl,hd,_,(rel.put k eb rv).keeps fun c ys ec=> ?_,q,es,ep,hq,h2,h3,h4,h5⟩
  rw[Zs (Zip ec e (fun z=>nomatch z))]
  exact ec
end
section
variable {X:Cx} {pins:List (Addr × Obj)} {σ:St} {H:Hp} {s:Shared} {a:Addr} {kvs:List (Key × V)} {k:Key} {u:Value} {A:Around} {E:Value->Shared->Prop}
end
noncomputable def Zlz (td ty tv:TE):TS:=fun D σ H=>tv σ H fun v H1=>td σ H1 fun x H2=>ty σ H2 fun y H3=> ∃ a H4,x= .ref a/\Zf3 H3 a y v H4/\D.nx σ H4
section
variable {X:Cx} {o i e value:Expr} {pos pos' tpos:Pos} {td ty tv:TE}
theorem ZgZ (hu:X.A.units + 1 < cLine) (ho:PE X o td) (hi:PE X i ty) (hv:PE X value tv) (hs:swapsWith value (some (.Subscript o i pos')) pos.line X.env=pure false):
  PS X (.Assign [.Subscript o i pos'] value pos) (Zlz td ty tv):=by
 intro pins s σ H D I h
 refine wpAny_Assign_Subscript (thn (hv pins s σ H _ I h) fun r s1 ⟨v,H1,I1,rv,q1⟩=>thn (ho pins s1 σ H1 _ I1 q1) fun u s2 ⟨x,H2,I2,rx,q2⟩=>thn (hi pins s2 σ H2 _ I2 q2) fun iv s3 ⟨y,H3,I3,ry,a,H4,ex,g,q3⟩=> ?_) hs
 subst ex
 obtain rfl:u=Value.ref a:=rx
 exact Zd7 hu I3 g ry rv fun s4 I4=>⟨σ,H4,I4,q3⟩
end
theorem Zfk {P:Program} {w:World} {H:Hp} (h:Heap) (hb:sysModules < h.objs.size):Z1 P w H (h.push { cls:= .type "dict",data:= .dict #[] }) h.objs.size (.dT []):=
 ⟨Nat.zero_le _,beq_eq_false_iff_ne.mpr (Ne.symm (Nat.ne_of_lt hb)),[],.nil,_,#[],0,Heap.get?_push_size _ rfl,⟨rfl,rfl,rfl⟩,rfl,rfl,List.nodup_nil⟩
noncomputable def tDNewT:TE:=fun _ H Q=> ∀ p,H p=none->Q (.ref p) (upd H p (.dT []))
section
variable {X:Cx} {pos:Pos}
theorem Zfl:PE X (.Dict [] [] pos) tDNewT:=fun pins s σ H Q I h=>
 wpAny_Dict_empty ⟨.ref s.heap.objs.size,_,I.laid (a:=s.heap.objs.size) (o:= .dT []) (t':=s.toks) (fun _ _ q=>Heap.get?_push_of_some _ q) (Nat.le_refl _) (Zfk s.heap I.big),rfl,h _ (I.hok.fresh (Nat.le_refl _))⟩
end
structure M1 (X:Cx) (o:Expr) (m:Str) (apos:Pos) (e:Expr) (cpos:Pos):Prop where
 base:attributeBase o m X.env (eval o X.env)=eval o X.env
 few:((backTo cpos (starEach [e] X.env)).all (fun x=> !x.1) && (backToKw cpos (keywordEach [] X.env)).all (fun x=>x.1.isSome)
  && decide (([e]:List Expr).length + ([]:List Keyword).length + (if ([]:List Keyword).isEmpty then 0 else 1) < 30))=true
 line:(apos.endLine == cpos.line)=true
 trees:backTo cpos (starEach [e] X.env)=[(false,eval e X.env)]
structure M2 (X:Cx) (o:Expr) (m:Str) (apos:Pos) (e f:Expr) (cpos:Pos):Prop where
 base:attributeBase o m X.env (eval o X.env)=eval o X.env
 few:((backTo cpos (starEach [e,f] X.env)).all (fun x=> !x.1) && (backToKw cpos (keywordEach [] X.env)).all (fun x=>x.1.isSome)
  && decide (([e,f]:List Expr).length + ([]:List Keyword).length + (if ([]:List Keyword).isEmpty then 0 else 1) < 30))=true
 line:(apos.endLine == cpos.line)=true
 trees:backTo cpos (starEach [e,f] X.env)=[(false,eval e X.env),(false,eval f X.env)]
noncomputable def IsD (H:Hp) (a:Addr):Prop:=(∃ kvs,Rd H a (.dK kvs))\/ ∃ kvs,Rd H a (.dT kvs)
section
variable {X:Cx} {pins:List (Addr × Obj)} {σ:St} {H:Hp} {s:Shared} {a:Addr} {y d:V} {u r:Value} {o:Option V} {A:Around} {E:Value->Shared->Prop}
end
section
variable {X:Cx} {o e f:Expr} {apos cpos:Pos} {td ty tx:TE}
end
section
variable {X:Cx} {pins:List (Addr × Obj)} {σ:St} {H:Hp} {s:Shared} {a:Addr} {kvs:List (Key × V)} {A:Around} {E:Value->Shared->Prop}
end
section
variable {X:Cx} {pins:List (Addr × Obj)} {σ:St} {H:Hp} {s:Shared} {a:Addr} {y:V} {u:Value} {A:Around} {E:Value->Shared->Prop}
end
end L2
namespace Att
open PySem PySem.W PySem.Calls PyProof.Rows
section
variable {prog:Program} {w:World} {A:Around} {E:Value->Shared->Prop} {s:Shared} {K:Frag}
end
end Att
namespace L2
open PySem PySem.Spec PyProof.Rows
end L2
namespace L2
open PySem PySem.Spec PyProof.Rows
end L2
namespace L2
open PySem PySem.Spec PyProof.Rows
section
variable {P:Program} {w:World} {K:PySem.W.Frag} {mg:Str->Option Value} {base:Heap}
end
section
variable {X:Cx}
end
section
variable {κ:Type} [DecidableEq κ]
end
end L2
end
section
namespace DQ
open PySem PySem.Spec PyProof.Rows
structure Fly (B:Heap) (l:List Env) (e:Addr) (cls:Value) (dct:Option Addr) (fl:Value) (h:Heap):Prop where
 stay:B.StaysIn h
 new:B.get? e=none
 frames:h.FunFrames B l
 obj: ∃ oe vs T oT ts,h.get? e=some oe/\oe.cls=cls/\oe.dict=dct/\oe.data= .fields vs/\vs[2]?=some .none/\vs[1]?=some (.ref T)/\B.get? T=none/\T≠e/\h.get? T=some oT/\oT.data= .fields ts/\ts[3]?=some fl
theorem Fly.tail {B:Heap} {env:Env} {l:List Env} {e:Addr} {cls:Value} {dct:Option Addr} {fl:Value} {h:Heap} (f:Fly B (env :: l) e cls dct fl h):Fly B l e cls dct fl h:=⟨f.stay,f.new,f.frames.2.2,f.obj⟩
section
variable {M:Model} {A:Around} {E:Value->Shared->Prop} {s:Shared} {B:Heap} {env:Env} {outer l:List Env} {L e:Addr} {cls:Value} {dct:Option Addr} {fl:Value}
theorem apart {h:Heap} {oe:Obj} {vs:Array Value} (hl:h.FunFrames B l) (he:h.get? e=some oe) (hd:oe.data= .fields vs):e ∉ l.filterMap (·.frame):=fun z=>by
 obtain ⟨_,o,h1,h2⟩:=hl.mem z
 rw[he] at h1
 cases h1
 exact h2 vs hd
theorem ZbR {oe:Obj} {vs:Array Value} {head:Value} {hn:Bool} {Q:Unit->Shared->Prop} (hfr:A.frames=some (env :: outer)) (hl:s.heap.FunFrames B (env :: outer)) (hf:env.frame=some L)
  (he:s.heap.get? e=some oe) (hs:B.StaysIn s.heap) (hb:B.get? e=none) (hd:oe.data= .fields vs) (hz:2 < vs.size) (h2:vs[2]?=some .none)
  (h: ∀ h',Fly B (env :: outer) e oe.cls oe.dict (rawInt L) h'->s.heap.UpToSlots h'->Q () { s with heap:=h' }):
  wpAny M A (frameOf env >>= fun a=>entryPlaceOf L hn >>= fun pl=>EntryCells.newEntry head a .none (rawInt L) .none pl >>= fun b=>setField (.ref e) 1 b) Q E s:=by
 have ne:=apart hl he hd
 refine wpAny_bind (wpAny_frameOf_fun hfr hl hf fun h1 k1=>wpAny_bind (wpAny_entryPlaceOf fun pl hpl=>wpAny_bind ?_))
 unfold EntryCells.newEntry newFields
 refine wpAny_newObj_type ?_ (hpl.sizeOk5 _ _ _ _ _)
 generalize hT:([head,Value.ref L,Value.none,rawInt L,Value.none] ++ (if pl.isEmpty then List.replicate 6 Value.none else pl)).toArray=ts
 have h3:ts[3]?=some (rawInt L):=by
  rw[<- hT]
  rcases hpl with rfl | ⟨_,_,_,_,_,_,_,rfl⟩<;>simp
 have e1:h1.get? e=some oe:=(k1.2.1 e ne).trans he
 have s1:B.StaysIn h1:=fun b o hbo=>(k1.2.1 b fun z=>by rw[(hl.mem z).1] at hbo;cases hbo).trans (hs b o hbo)
 generalize hoT:({ cls:= .type "traceback",dict:=none,data:= .fields ts }:Obj)=oT
 have dT:oT.data= .fields ts:=by rw[<- hoT]
 have fT:oT.isFreed=false:=Obj.isFreed_of_fields dT
 have e2:(h1.push oT).get? e=some oe:=Heap.get?_push_of_some _ e1
 have nT:h1.objs.size≠e:=Nat.ne_of_gt (Heap.lt_size e1)
 refine wpAny_setField e2 hd (Nat.lt_trans (by decide) hz) (h _ ?_ ?_)
 ·have d3:=Obj.data_mapFields hd (·.setIfInBounds 1 (Value.ref h1.objs.size))
  have e3:=Heap.get?_update_self (Obj.mapFields (·.setIfInBounds 1 (Value.ref h1.objs.size))) e2 (Obj.isFreed_of_fields d3)
  have keep: ∀ b o,b≠e->h1.get? b=some o->((h1.push oT).update e (Obj.mapFields (·.setIfInBounds 1 (Value.ref h1.objs.size)))).get? b=some o:=fun b o hbe x=>by
   rw[Heap.get?_update_other _ _ (Ne.symm hbe)]
   exact Heap.get?_push_of_some _ x
  have gT:(h1.push oT).get? h1.objs.size=some oT:=Heap.get?_push_size _ fT
  refine ⟨fun b o x=>keep b o (fun z=>by rw[z,hb] at x;cases x) (s1 b o x),hb,hl.of_keeps fun b o x y=> ?_,_,_,h1.objs.size,oT,ts,e3,Obj.cls_mapFields _ _,?_,d3,?_,?_,s1.fresh,nT,?_,dT,h3⟩
  ·obtain ⟨sl,z⟩:=k1.2.2 b o x
   exact ⟨_,keep b _ (fun w=>y vs (by rw[w,he] at x;cases x;exact hd)) z,rfl⟩
  ·obtain ⟨c,d,dd,sl⟩:=oe
   cases hd
   rfl
  ·rw[Array.getElem?_setIfInBounds_ne (by decide)]
   exact h2
  ·rw[Array.getElem?_setIfInBounds_self_of_lt (Nat.lt_trans (by decide) hz)]
  ·rw[Heap.get?_update_other _ _ (Ne.symm nT)]
   exact gT
 ·intro b o x y
  obtain ⟨sl,z⟩:=k1.2.2 b o x
  refine ⟨sl,?_⟩
  rw[Heap.get?_update_other _ _ (fun w=>y vs (by rw[<- w,he] at x;cases x;exact hd))]
  exact Heap.get?_push_of_some _ z
theorem ZcY {Q:Unit->Shared->Prop} (f:Fly B l e cls dct fl s.heap) (h: ∀ h',Fly B l e cls dct .none h'->s.heap.UpToSlots h'->Q () { s with heap:=h' }):wpAny M A (setFlight (.ref e) none) Q E s:=by
 obtain ⟨st,nw,fr,oe,vs,T,oT,ts,g1,g2,g3,g4,g5,g6,g7,g8,g9,g10,g11⟩:=f
 have hz:3 < ts.size:=(Array.getElem?_eq_some_iff.mp g11).1
 unfold setFlight
 refine wpAny_bind (wpAny_field g1 g4 g6 ?_)
 rw[if_pos (by simp)]
 have oth: ∀ b o,b≠T->s.heap.get? b=some o->(s.heap.update T (Obj.mapFields (·.setIfInBounds 3 Value.none))).get? b=some o:=fun b o hb x=>by
  rw[Heap.get?_update_other _ _ (Ne.symm hb)]
  exact x
 have nr: ∀ b o,s.heap.get? b=some o->(∀ vs,o.data≠ .fields vs)->b≠T:=fun b o x y z=>by
  rw[z,g9] at x
  cases x
  exact y ts g10
 refine wpAny_setField g9 g10 hz (h _ ⟨fun b o x=>oth b o (fun z=>by rw[z,g7] at x;cases x) (st b o x),nw,fr.of_keeps fun b o x y=>⟨o,oth b o (nr b o x y) x,rfl⟩,?_⟩ fun b o x y=>⟨o.slots,oth b o (nr b o x y) x⟩)
 exact ⟨oe,vs,T,_,_,oth e oe (Ne.symm g8) g1,g2,g3,g4,g5,g6,g7,g8,Heap.get?_update_self _ g9 (Obj.isFreed_of_fields (Obj.data_mapFields g10 _)),Obj.data_mapFields g10 _,by rw[Array.getElem?_setIfInBounds_self_of_lt hz];rfl⟩
theorem Zfm {Q:Unit->Shared->Prop} (hfr:A.frames=some (env :: outer)) (hf:env.frame=some L) (f:Fly B (env :: outer) e cls dct .none s.heap)
  (h: ∀ h',Fly B (env :: outer) e cls dct (rawInt L) h'->s.heap.UpToSlots h'->Q () { s with heap:=h' }):wpAny M A (noteFrame (.ref e) env) Q E s:=by
 obtain ⟨st,nw,fr,oe,vs,T,oT,ts,g1,g2,g3,g4,g5,g6,g7,g8,g9,g10,g11⟩:=f
 unfold noteFrame
 simp only[hf]
 refine wpAny_bind (wpAny_field g1 g4 g6 ?_)
 rw[if_pos (by simp)]
 refine wpAny_bind (wpAny_field g9 g10 g11 ?_)
 rw[if_neg (by simp[rawInt])]
 have oth: ∀ b o,b≠T->s.heap.get? b=some o->(s.heap.update T (Obj.mapFields (·.setIfInBounds 3 Value.none))).get? b=some o:=fun b o hb x=>by
  rw[Heap.get?_update_other _ _ (Ne.symm hb)]
  exact x
 have nr: ∀ b o,s.heap.get? b=some o->(∀ vs,o.data≠ .fields vs)->b≠T:=fun b o x y z=>by
  rw[z,g9] at x
  cases x
  exact y ts g10
 refine wpAny_bind (wpAny_setField g9 g10 (Array.getElem?_eq_some_iff.mp g11).1 ?_)
 refine ZbR hfr (fr.of_keeps fun b o x y=>⟨o,oth b o (nr b o x y) x,rfl⟩) hf (oth e oe (Ne.symm g8) g1) (fun b o x=>oth b o (fun z=>by rw[z,g7] at x;cases x) (st b o x)) nw g4 (Array.getElem?_eq_some_iff.mp g5).1 g5 fun h' k1 k2=>h h' (g2 ▸ g3 ▸ k1) ?_
 intro b o x y
 exact k2 b o (oth b o (nr b o x y) x) y
theorem Zd8 {Q:Unit->Shared->Prop} (hfr:A.frames=some (env :: outer)) (hf:env.frame=some L) (f:Fly B (env :: outer) e cls dct .none s.heap)
  (h: ∀ h',Fly B outer e cls dct .none h'->s.heap.UpToSlots h'->Q () { s with heap:=h' }):wpAny M A (leaving env (.ref e)) Q E s:=by
 unfold leaving
 refine wpAny_bind (Zfm hfr hf f fun h1 k1 u1=> ?_)
 exact ZcY (s:={ s with heap:=h1 }) k1 fun h2 k2 u2=>h h2 k2.tail (u1.trans u2)
theorem Zd9 {oe:Obj} {vs:Array Value} {Q:Unit->Shared->Prop} (hfr:A.frames=some (env :: outer)) (hf:env.frame=some L) (hl:s.heap.FunFrames B (env :: outer)) (he:s.heap.get? e=some oe) (hs:B.StaysIn s.heap) (hb:B.get? e=none) (hd:oe.data= .fields vs) (h1:vs[1]?=some .none) (h2:vs[2]?=some .none)
  (h: ∀ h',Fly B outer e oe.cls oe.dict .none h'->s.heap.UpToSlots h'->Q () { s with heap:=h' }):wpAny M A (leaving env (.ref e)) Q E s:=by
 unfold leaving noteFrame
 simp only[hf]
 refine wpAny_bind (wpAny_bind (wpAny_field he hd h1 ?_))
 rw[if_neg (by decide)]
 refine ZbR hfr hl hf he hs hb hd (Array.getElem?_eq_some_iff.mp h2).1 h2 fun h' k1 u1=> ?_
 exact ZcY (s:={ s with heap:=h' }) k1 fun h2 k2 u2=>h h2 k2.tail (u1.trans u2)
end
end DQ
end
section
namespace DQ
open PySem PySem.Spec PyProof.Rows
open PySem.W (Looks findIn mroIn specialIn takesIn clsIn looks_findIn looks_mroIn looks_find findObj KitX)
structure ExcC (K:PySem.W.Frag) (C:Addr):Prop where
 ga:findIn K (.ref C) "__getattribute__"=some (some (.builtin "BaseException.__getattribute__"))
 gt:findIn K (.ref C) "__getattr__"=some none
 cl:findIn K (.ref C) "__class__"=some (some (.builtin "object.__class__"))
 gs:specialIn K (.builtin "object.__class__") "__get__"=some (some (.builtin "getset_descriptor.__get__"))
 tk:takesIn K (.builtin "object.__class__")=some true
 bx:mroIn K C (.type "BaseException")=some true
 ob:mroIn K C (.type "object")=some true
 is:(clsIn K C).isSome=true
section
variable {prog:Program} {w:World} {A:Around} {E:Value->Shared->Prop} {s:Shared} {K:PySem.W.Frag} {e C:Addr} {oe:Obj} {od:Option Obj}
end
end DQ
end
section
namespace DL
open PySem PySem.Spec PyProof.Rows L2
inductive D where
 |non
 |bl (b:Bool)
 |int (i:Int)
 |str (x:Str)
 |tup (xs:List D)
 |rol (xs:List D)
 |con (xs:List D)
 |ref (n:Nat)
 |err (c:Str) (xs:List D)
 |dk (n:Nat)
 |dt (n:Nat)
 |fn (c:Str)
inductive SO where
 |lst (xs:List D)
noncomputable abbrev Sto:=List SO
noncomputable abbrev Ro:=List (Option D)
noncomputable def SqF (K:PySem.W.Frag) (H:Hp) (a:Addr) (xs:List V):Prop:=
 (∃ o,H a=some (.frz o (.lst xs)))\/ ∃ (o:Obj) (its:Array Value) (n:Nat),K.lookup a=some o/\o.cls= .type "list"/\o.dict=none/\o.data= .seq its n/\its.size<=sizeLine/\ZF xs its.toList
theorem SqF.sq {K:PySem.W.Frag} {H:Hp} {a:Addr} {xs:List V} (h:SqF K H a xs):SqL K H a xs:=by
 rcases h with ⟨o,h⟩ | h
 ·exact .inl (.inr ⟨o,h⟩)
 ·exact .inr h
noncomputable def SqK (K:PySem.W.Frag) (a:Addr) (xs:List V):Prop:= ∃ (o:Obj) (its:Array Value) (n:Nat),K.lookup a=some o/\o.cls= .type "tuple"/\o.data= .seq its n/\its.size<=sizeLine/\ZF xs its.toList/\o.dict=none
theorem SqK.sq {K:PySem.W.Frag} {H:Hp} {a:Addr} {xs:List V} (h:SqK K a xs):SqT K H a xs:=
 let ⟨o,its,n,h1,h2,h3,h4,h5,_⟩:=h
 .inr ⟨o,its,n,h1,h2,h3,h4,h5⟩
noncomputable def EOk (H:Hp) (p C:Addr) (xs:List V):Prop:= ∃ oe u vs,H p=some (.frz oe u)/\oe.cls= .ref C/\oe.data= .fields vs/\vs[2]?=some .none/\((xs=[]/\oe.dict=none)\/ ∃ dx fs,oe.dict=some dx/\H dx=some (.xd fs)/\fs.map (·.2)=xs)
noncomputable def Kn (H:Hp) (p:Addr):Option Nat:=match H p with | some (.lst _)=>some 0 | some (.dK _)=>some 1 | some (.dT _)=>some 2 | some (.frz _ (.dK _))=>some 1 | some (.frz _ (.dT _))=>some 2 | _=>none
structure RefK (H:Hp) (α:List Addr) (j n:Nat) (p:Addr):Prop where
 at':α[n]?=some p
 kn:Kn H p=some j
theorem Kn.lst {H:Hp} {p:Addr} {xs:List V} (h:H p=some (.lst xs)):Kn H p=some 0:=by unfold Kn;rw[h]
theorem Kn.ne {H:Hp} {p q:Addr} {j:Nat} {o:HO} (h:Kn H p=some j) (hq:H q=none):Kn (upd H q o) p=some j:=by
 have:p≠q:=by
  intro z
  unfold Kn at h
  rw[z,hq] at h
  cases h
 unfold Kn
 rw[Zs this]
 exact h
mutual
inductive Rep (K:PySem.W.Frag) (H:Hp) (α:List Addr):V->D->Prop where
 |non:Rep K H α .non .non
 |bl (b:Bool):Rep K H α (.bl b) (.bl b)
 |int (i:Int):Rep K H α (.int i) (.int i)
 |str (x:Str):Rep K H α (.str x) (.str x)
 |tup {p:Addr} {xs:List V} {ds:List D}:H p=some (.tup xs)->Reps K H α xs ds->Rep K H α (.ref p) (.tup ds)
 |rol {p:Addr} {xs:List V} {ds:List D}:SqF K H p xs->Reps K H α xs ds->Rep K H α (.ref p) (.rol ds)
 |con {p:Addr} {xs:List V} {ds:List D}:SqK K p xs->Reps K H α xs ds->Rep K H α (.ref p) (.con ds)
 |ref {p:Addr} {n:Nat}:RefK H α 0 n p->Rep K H α (.ref p) (.ref n)
 |dk {p:Addr} {n:Nat}:RefK H α 1 n p->Rep K H α (.ref p) (.dk n)
 |dt {p:Addr} {n:Nat}:RefK H α 2 n p->Rep K H α (.ref p) (.dt n)
 |fn {p:Addr} {c:Str}:PySem.W.nsIn K mainGlobals c=some (some (.ref p))->Rep K H α (.ref p) (.fn c)
 |err {p C:Addr} {c:Str} {xs:List V} {ds:List D}:PySem.W.nsIn K mainGlobals c=some (some (.ref C))->EOk H p C xs->Reps K H α xs ds->Rep K H α (.ref p) (.err c ds)
inductive Reps (K:PySem.W.Frag) (H:Hp) (α:List Addr):List V->List D->Prop where
 |nil:Reps K H α [] []
 |cons {v:V} {d:D} {vs:List V} {ds:List D}:Rep K H α v d->Reps K H α vs ds->Reps K H α (v :: vs) (d :: ds)
end
structure Ext (K:PySem.W.Frag) (H H':Hp) (α α':List Addr):Prop where
 tup: ∀ p xs,H p=some (.tup xs)->H' p=some (.tup xs)
 rol: ∀ p xs,SqF K H p xs->SqF K H' p xs
 err: ∀ p C xs,EOk H p C xs->EOk H' p C xs
 kn: ∀ p j,Kn H p=some j->Kn H' p=some j
 fz: ∀ p o u,H p=some (.frz o u)->H' p=some (.frz o u)
 al: ∃ β,α'=α ++ β
section
variable {K:PySem.W.Frag} {H H1 H2 H':Hp} {α α1 α2 α':List Addr}
theorem Ext.refl:Ext K H H α α:=⟨fun _ _ h=>h,fun _ _ h=>h,fun _ _ _ h=>h,fun _ _ h=>h,fun _ _ _ h=>h,[],(List.append_nil _).symm⟩
theorem Ext.trans (a:Ext K H H1 α α1) (b:Ext K H1 H2 α1 α2):Ext K H H2 α α2:=by
 obtain ⟨b1,e1⟩:=a.al
 obtain ⟨b2,e2⟩:=b.al
 exact ⟨fun p xs h=>b.tup p xs (a.tup p xs h),fun p xs h=>b.rol p xs (a.rol p xs h),fun p C xs h=>b.err p C xs (a.err p C xs h),fun p j h=>b.kn p j (a.kn p j h),fun p o u h=>b.fz p o u (a.fz p o u h),b1 ++ b2,by rw[e2,e1,List.append_assoc]⟩
theorem Ext.get0 (e:Ext K H H' α α') {n:Nat} {p:Addr} (h:α[n]?=some p):α'[n]?=some p:=by
 obtain ⟨β,e1⟩:=e.al
 have hl:n < α.length:=(List.getElem?_eq_some_iff.mp h).1
 rw[e1,List.getElem?_append_left hl]
 exact h
theorem Ext.get (e:Ext K H H' α α') {j n:Nat} {p:Addr} (h:RefK H α j n p):RefK H' α' j n p:=⟨e.get0 h.at',e.kn _ _ h.kn⟩
mutual
theorem Rep.mono (e:Ext K H H' α α'): ∀ {v:V} {d:D},Rep K H α v d->Rep K H' α' v d
 |_,_,.non=> .non
 |_,_,.bl b=> .bl b
 |_,_,.int i=> .int i
 |_,_,.str x=> .str x
 |_,_,.tup h r=> .tup (e.tup _ _ h) (Reps.mono e r)
 |_,_,.rol h r=> .rol (e.rol _ _ h) (Reps.mono e r)
 |_,_,.con h r=> .con h (Reps.mono e r)
 |_,_,.ref h=> .ref (e.get h)
 |_,_,.dk h=> .dk (e.get h)
 |_,_,.dt h=> .dt (e.get h)
 |_,_,.fn h=> .fn h
 |_,_,.err n h r=> .err n (e.err _ _ _ h) (Reps.mono e r)
theorem Reps.mono (e:Ext K H H' α α'): ∀ {vs:List V} {ds:List D},Reps K H α vs ds->Reps K H' α' vs ds
 |_,_,.nil=> .nil
 |_,_,.cons r t=> .cons (Rep.mono e r) (Reps.mono e t)
end
theorem Reps.length: ∀ {vs:List V} {ds:List D},Reps K H α vs ds->vs.length=ds.length
 |_,_,.nil=>rfl
 |_,_,.cons _ t=>by rw[List.length_cons,List.length_cons,Reps.length t]
theorem Reps.get: ∀ {vs:List V} {ds:List D} {i:Nat} {d:D},Reps K H α vs ds->ds[i]?=some d-> ∃ v,vs[i]?=some v/\Rep K H α v d
 |_,_,_,_,.nil,e=>by simp at e
 |_,_,0,_,.cons r _,e=>by simp at e;subst e;exact ⟨_,rfl,r⟩
 |_,_,i + 1,d,.cons _ t,e=>by
  obtain ⟨u,h1,h2⟩:=Reps.get (i:=i) (d:=d) t (by simpa using e)
  exact ⟨u,by simpa using h1,h2⟩
theorem Reps.set {v:V} {d:D} (r:Rep K H α v d): ∀ {vs:List V} {ds:List D} (i:Nat),Reps K H α vs ds->Reps K H α (vs.set i v) (ds.set i d)
 |_,_,_,.nil=> .nil
 |_,_,0,.cons _ t=> .cons r t
 |_,_,i + 1,.cons q t=> .cons q (Reps.set r i t)
theorem Reps.append: ∀ {vs ws:List V} {ds es:List D},Reps K H α vs ds->Reps K H α ws es->Reps K H α (vs ++ ws) (ds ++ es)
 |_,_,_,_,.nil,s=>s
 |_,_,_,_,.cons r t,s=> .cons r (Reps.append t s)
theorem Reps.ints: ∀ (ns:List Int),Reps K H α (ns.map V.int) (ns.map D.int)
 | []=> .nil
 |n :: r=> .cons (.int n) (Reps.ints r)
theorem Zea {p q:Addr} {xs:List V} {o:HO} (h:H q=some (.tup xs)) (hp: ∀ u,H p=some u->(∀ ys,u≠ .tup ys)/\ ∀ ob w,u≠ .frz ob w):upd H p o q=some (.tup xs):=by
 rw[Zs (fun e=>(hp _ (e ▸ h)).1 _ rfl)]
 exact h
theorem Zeb {p q:Addr} {xs:List V} {o:HO} (h:SqF K H q xs) (hp: ∀ u,H p=some u-> ∀ ob w,u≠ .frz ob w):SqF K (upd H p o) q xs:=by
 rcases h with ⟨ob,h⟩ | h
 ·refine .inl ⟨ob,?_⟩
  rw[Zs (fun e=>hp _ (e ▸ h) _ _ rfl)]
  exact h
 ·exact .inr h
theorem Zf4 {p q:Addr} {ob:Obj} {u o:HO} (h:H q=some (.frz ob u)) (hp: ∀ u,H p=some u-> ∀ ob w,u≠ .frz ob w):upd H p o q=some (.frz ob u):=by
 rw[Zs (fun e=>hp _ (e ▸ h) _ _ rfl)]
 exact h
theorem Zec {p q C:Addr} {xs:List V} {o:HO} (h:EOk H q C xs) (hp: ∀ u,H p=some u->(∀ ob w,u≠ .frz ob w)/\ ∀ fs,u≠ .xd fs):EOk (upd H p o) q C xs:=by
 obtain ⟨oe,u,vs,h1,h2,h3,h4,h5⟩:=h
 refine ⟨oe,u,vs,?_,h2,h3,h4,?_⟩
 ·rw[Zs (fun e=>(hp _ (e ▸ h1)).1 _ _ rfl)]
  exact h1
 ·rcases h5 with h5 | ⟨dx,fs,k1,k2,k3⟩
  ·exact .inl h5
  ·refine .inr ⟨dx,fs,k1,?_,k3⟩
   rw[Zs (fun e=>(hp _ (e ▸ k2)).2 _ rfl)]
   exact k2
theorem Ext.new {p:Addr} {o:HO} (h:H p=none) {β:List Addr}:Ext K H (upd H p o) α (α ++ β):=
 ⟨fun q xs z=>Zea z (fun u e=>(by rw[h] at e;cases e)),fun q xs z=>Zeb z (fun u e=>(by rw[h] at e;cases e)),fun q C xs z=>Zec z (fun u e=>(by rw[h] at e;cases e)),fun q j z=>Kn.ne z h,fun q o u z=>Zf4 z (fun u e=>(by rw[h] at e;cases e)),β,rfl⟩
theorem Ext.new0 {p:Addr} {o:HO} (h:H p=none):Ext K H (upd H p o) α α:=by
 have e:=Ext.new (K:=K) (H:=H) (α:=α) (o:=o) h (β:=[])
 rw[List.append_nil] at e
 exact e
theorem Ext.wrK {p:Addr} {o:HO} {j:Nat} (h:Kn H p=some j) (nf: ∀ ob w,H p≠some (.frz ob w)) (h':Kn (upd H p o) p=some j):Ext K H (upd H p o) α α:=by
 have ne (u:HO) (e:H p=some u):(∀ ys,u≠ .tup ys)/\(∀ ob w,u≠ .frz ob w)/\ ∀ fs,u≠ .xd fs:=by
  unfold Kn at h
  rw[e] at h
  refine ⟨fun ys z=> ?_,fun ob w z=>nf ob w (by rw[e,z]),fun fs z=> ?_⟩<;>subst z<;>cases h
 refine ⟨fun q xs z=>Zea z fun u e=>⟨(ne u e).1,(ne u e).2.1⟩,fun q xs z=>Zeb z fun u e=>(ne u e).2.1,fun q C xs z=>Zec z fun u e=>⟨(ne u e).2.1,(ne u e).2.2⟩,fun q i z=> ?_,fun q ob u z=>Zf4 z fun u e=>(ne u e).2.1,[],(List.append_nil _).symm⟩
 by_cases c:q=p
 ·subst c
  rw[h] at z
  cases z
  exact h'
 ·unfold Kn
  rw[Zs c]
  exact z
theorem Ext.wr {p:Addr} {xs ys:List V} (h:H p=some (.lst xs)):Ext K H (upd H p (.lst ys)) α α:=Ext.wrK (Kn.lst h) (fun ob w z=>by rw[h] at z;cases z) (Kn.lst Zl)
noncomputable def ZdD:Key->D
 | .inl i=> .int i
 | .inr x=> .str x
noncomputable def ZaO (ks:List Key):D:= .tup (ks.map ZdD)
noncomputable def ZT (K:PySem.W.Frag) (H:Hp) (α:List Addr) {κ:Type} (key:κ->D) (kvs:List (κ × V)) (ds:List D):Prop:=
 ∃ es:List D,ds=List.zipWith (fun kv e=>D.tup [key kv.1,e]) kvs es/\Reps K H α (kvs.map (·.2)) es
noncomputable def SOk (K:PySem.W.Frag) (H:Hp) (α:List Addr) (p:Addr):SO->Prop
 | .lst ds=>(∃ xs,H p=some (.lst xs)/\Reps K H α xs ds)\/(∃ kvs,H p=some (.dK kvs)/\ZT K H α ZdD kvs ds)\/(∃ kvs,H p=some (.dT kvs)/\ZT K H α ZaO kvs ds)\/(∃ o kvs r,H p=some (.frz o (.dK kvs))/\ds= .non :: r/\ZT K H α ZdD kvs r)\/(∃ o kvs r,H p=some (.frz o (.dT kvs))/\ds= .non :: r/\ZT K H α ZaO kvs r)
theorem SOk.there {p:Addr} {o:SO} (h:SOk K H α p o): ∃ u,H p=some u:=by
 cases o with
 |lst ds=>rcases h with ⟨_,e,_⟩ | ⟨_,e,_⟩ | ⟨_,e,_⟩ | ⟨_,_,_,e,_⟩ | ⟨_,_,_,e,_⟩<;>exact ⟨_,e⟩
theorem SOk.mono {p:Addr} {o:SO} (h:SOk K H α p o) (ex:Ext K H H' α α') (e:H' p=H p):SOk K H' α' p o:=by
 cases o with
 |lst ds=>
  rcases h with ⟨xs,h1,h2⟩ | ⟨kvs,h1,es,h2,h3⟩ | ⟨kvs,h1,es,h2,h3⟩ | ⟨o,kvs,r,h1,h0,es,h2,h3⟩ | ⟨o,kvs,r,h1,h0,es,h2,h3⟩
  ·exact .inl ⟨xs,e.trans h1,Reps.mono ex h2⟩
  ·exact .inr (.inl ⟨kvs,e.trans h1,es,h2,Reps.mono ex h3⟩)
  ·exact .inr (.inr (.inl ⟨kvs,e.trans h1,es,h2,Reps.mono ex h3⟩))
  ·exact .inr (.inr (.inr (.inl ⟨o,kvs,r,e.trans h1,h0,es,h2,Reps.mono ex h3⟩)))
  ·exact .inr (.inr (.inr (.inr ⟨o,kvs,r,e.trans h1,h0,es,h2,Reps.mono ex h3⟩)))
structure HR (K:PySem.W.Frag) (H:Hp) (α:List Addr) (M:Sto):Prop where
 len:α.length=M.length
 nd:α.Nodup
 ob: ∀ (n:Nat) (p:Addr) (o:SO),α[n]?=some p->M[n]?=some o->SOk K H α p o
theorem HR.nil:HR K H [] []:=⟨rfl,List.nodup_nil,fun n p o h=>by simp at h⟩
theorem Kn.at {H:Hp} {p:Addr} {j:Nat} {u:HO} (k:Kn H p=some j) (e:H p=some u):(match some u with | some (.lst _)=>some 0 | some (.dK _)=>some 1 | some (.dT _)=>some 2 | some (.frz _ (.dK _))=>some 1 | some (.frz _ (.dT _))=>some 2 | _=>none)=some j:=by
 unfold Kn at k
 rw[e] at k
 exact k
theorem HR.at (h:HR K H α M) {n:Nat} {p:Addr} {ds:List D} (e:RefK H α 0 n p) (m:M[n]?=some (.lst ds)): ∃ xs,H p=some (.lst xs)/\Reps K H α xs ds:=by
 rcases h.ob n p _ e.at' m with h1 | ⟨_,h1,_⟩ | ⟨_,h1,_⟩ | ⟨_,_,_,h1,_⟩ | ⟨_,_,_,h1,_⟩
 ·exact h1
 all_goals exact absurd (Kn.at e.kn h1) (fun z=>nomatch z)
noncomputable def nfz (ds:List D):Bool:=match ds with | .non :: _=>false | _=>true
theorem HR.atK (h:HR K H α M) {n:Nat} {p:Addr} {ds:List D} (e:RefK H α 1 n p) (m:M[n]?=some (.lst ds)):(∃ kvs,H p=some (.dK kvs)/\ZT K H α ZdD kvs ds)\/ ∃ o kvs r,H p=some (.frz o (.dK kvs))/\ds= .non :: r/\ZT K H α ZdD kvs r:=by
 rcases h.ob n p _ e.at' m with ⟨_,h1,_⟩ | h1 | ⟨_,h1,_⟩ | h1 | ⟨_,_,_,h1,_⟩
 ·exact absurd (Kn.at e.kn h1) (fun z=>nomatch z)
 ·exact .inl h1
 ·exact absurd (Kn.at e.kn h1) (fun z=>nomatch z)
 ·exact .inr h1
 ·exact absurd (Kn.at e.kn h1) (fun z=>nomatch z)
theorem HR.atT (h:HR K H α M) {n:Nat} {p:Addr} {ds:List D} (e:RefK H α 2 n p) (m:M[n]?=some (.lst ds)):(∃ kvs,H p=some (.dT kvs)/\ZT K H α ZaO kvs ds)\/ ∃ o kvs r,H p=some (.frz o (.dT kvs))/\ds= .non :: r/\ZT K H α ZaO kvs r:=by
 rcases h.ob n p _ e.at' m with ⟨_,h1,_⟩ | ⟨_,h1,_⟩ | h1 | ⟨_,_,_,h1,_⟩ | h1
 ·exact absurd (Kn.at e.kn h1) (fun z=>nomatch z)
 ·exact absurd (Kn.at e.kn h1) (fun z=>nomatch z)
 ·exact .inl h1
 ·exact absurd (Kn.at e.kn h1) (fun z=>nomatch z)
 ·exact .inr h1
theorem HR.atKn (h:HR K H α M) {n:Nat} {p:Addr} {ds:List D} (e:RefK H α 1 n p) (m:M[n]?=some (.lst ds)) (hn:nfz ds=true): ∃ kvs,H p=some (.dK kvs)/\ZT K H α ZdD kvs ds:=by
 rcases h.atK e m with h1 | ⟨_,_,_,_,rfl,_⟩
 ·exact h1
 ·cases hn
theorem HR.atTn (h:HR K H α M) {n:Nat} {p:Addr} {ds:List D} (e:RefK H α 2 n p) (m:M[n]?=some (.lst ds)) (hn:nfz ds=true): ∃ kvs,H p=some (.dT kvs)/\ZT K H α ZaO kvs ds:=by
 rcases h.atT e m with h1 | ⟨_,_,_,_,rfl,_⟩
 ·exact h1
 ·cases hn
theorem RefK.lst {n:Nat} {p:Addr} (e:RefK H α 0 n p): ∃ xs,H p=some (.lst xs):=by
 have:=e.kn
 unfold Kn at this
 split at this
 ·rename_i xs h;exact ⟨xs,h⟩
 all_goals cases this
theorem HR.some_at {M:Sto} (h:HR K H α M) {n:Nat} {p:Addr} (e:RefK H α 0 n p): ∃ xs,H p=some (.lst xs):=e.lst
theorem HR.there {M:Sto} (h:HR K H α M) {n:Nat} {p:Addr} (e:α[n]?=some p): ∃ u,H p=some u:=by
 have hl:n < α.length:=(List.getElem?_eq_some_iff.mp e).1
 have hm:n < M.length:=by rw[<- h.len];exact hl
 exact (h.ob n p M[n] e (List.getElem?_eq_getElem hm)).there
theorem HR.tup {M:Sto} {p:Addr} {o:HO} (h:HR K H α M) (hp:H p=none):HR K (upd H p o) α M:=
 ⟨h.len,h.nd,fun n q so e m=>by
  obtain ⟨u,hu⟩:=h.there e
  exact (h.ob n q so e m).mono (Ext.new0 hp) (Zs (ZC hu hp))⟩
theorem HR.newO {M:Sto} {p:Addr} {o:HO} {so:SO} (h:HR K H α M) (hp:H p=none) (r:SOk K (upd H p o) (α ++ [p]) p so):HR K (upd H p o) (α ++ [p]) (M ++ [so]):=by
 have ex:Ext K H (upd H p o) α (α ++ [p]):=Ext.new hp
 refine ⟨by rw[List.length_append,List.length_append,h.len];rfl,?_,fun n q so' e m=> ?_⟩
 ·refine List.nodup_append.mpr ⟨h.nd,by simp,fun a ha b hb=> ?_⟩
  have hb':b=p:=by simpa using hb
  obtain ⟨n,hn,e⟩:=List.getElem_of_mem ha
  obtain ⟨u,z⟩:=h.there (n:=n) (p:=a) (by rw[List.getElem?_eq_getElem hn,e])
  rw[hb']
  exact ZC z hp
 ·by_cases hn:n < α.length
  ·rw[List.getElem?_append_left hn] at e
   rw[List.getElem?_append_left (by rw[<- h.len];exact hn)] at m
   obtain ⟨u,hu⟩:=h.there e
   exact (h.ob n q so' e m).mono ex (Zs (ZC hu hp))
  ·have en:n=α.length:=by
    have:n < (α ++ [p]).length:=(List.getElem?_eq_some_iff.mp e).1
    rw[List.length_append,List.length_singleton] at this
    omega
   subst en
   rw[List.getElem?_append_right (Nat.le_refl _),Nat.sub_self] at e
   rw[h.len,List.getElem?_append_right (Nat.le_refl _),Nat.sub_self] at m
   cases e
   cases m
   exact r
theorem HR.new {M:Sto} {p:Addr} {xs:List V} {ds:List D} (h:HR K H α M) (hp:H p=none) (r:Reps K H α xs ds):HR K (upd H p (.lst xs)) (α ++ [p]) (M ++ [.lst ds]):=
 h.newO hp (.inl ⟨xs,Zl,Reps.mono (Ext.new hp) r⟩)
theorem Zfn {n m:Nat} {p:Addr} (h:α.Nodup) (a:α[n]?=some p) (b:α[m]?=some p):n=m:=by
 obtain ⟨h1,e1⟩:=List.getElem?_eq_some_iff.mp a
 obtain ⟨h2,e2⟩:=List.getElem?_eq_some_iff.mp b
 exact (List.getElem_inj h).mp (e1.trans e2.symm)
theorem HR.wrO {M:Sto} {n:Nat} {p:Addr} {o:HO} {so:SO} (h:HR K H α M) (e:α[n]?=some p) (ex:Ext K H (upd H p o) α α) (r:SOk K (upd H p o) α p so):HR K (upd H p o) α (M.set n so):=by
 have hn:n < M.length:=by rw[<- h.len];exact (List.getElem?_eq_some_iff.mp e).1
 refine ⟨by rw[List.length_set];exact h.len,h.nd,fun k q so' e' m=> ?_⟩
 by_cases hk:k=n
 ·subst hk
  rw[e] at e'
  cases e'
  rw[List.getElem?_set_self hn] at m
  cases m
  exact r
 ·rw[List.getElem?_set_ne (Ne.symm hk)] at m
  have hq:q≠p:=fun z=>hk (Zfn h.nd (z ▸ e') e)
  exact (h.ob k q so' e' m).mono ex (Zs hq)
theorem HR.wr {M:Sto} {n:Nat} {p:Addr} {xs ys:List V} {ds:List D} (h:HR K H α M) (e:RefK H α 0 n p) (hp:H p=some (.lst ys)) (r:Reps K H α xs ds):HR K (upd H p (.lst xs)) α (M.set n (.lst ds)):=
 h.wrO e.at' (Ext.wr hp) (.inl ⟨xs,Zl,Reps.mono (Ext.wr hp) r⟩)
end
inductive Out (β:Type) where
 |ok (a:β) (M:Sto)
 |exc (c:Str) (M:Sto)
 |bad
noncomputable def Out.bind {β γ:Type} (o:Out β) (f:β->Sto->Out γ):Out γ:=match o with
 | .ok a M=>f a M
 | .exc c M=> .exc c M
 | .bad=> .bad
inductive Fl where
 |nx (ρ:Ro) (M:Sto)
 |ret (d:D) (M:Sto)
 |brk (ρ:Ro) (M:Sto)
 |cnt (ρ:Ro) (M:Sto)
 |exc (c:Str) (M:Sto)
 |bad
noncomputable def OG {β γ:Type} (K:PySem.W.Frag) (R:Hp->List Addr->γ->β->Prop) (H:Hp) (α:List Addr) (ξ:XK) (Q:γ->Hp->Prop):Out β->Prop
 | .ok d M'=> ∀ v H' α',Ext K H H' α α'->HR K H' α' M'->R H' α' v d->Q v H'
 | .exc c M'=> ∀ C H' α',PySem.W.nsIn K mainGlobals c=some (some (.ref C))->Ext K H H' α α'->HR K H' α' M'->ξ (.ref C) none H'
 | .bad=>False
theorem OG.ext {β γ:Type} {K:PySem.W.Frag} {R:Hp->List Addr->γ->β->Prop} {H H1:Hp} {α α1:List Addr} {ξ:XK} {Q:γ->Hp->Prop} {o:Out β} (h:OG K R H α ξ Q o) (e:Ext K H H1 α α1):OG K R H1 α1 ξ Q o:=by
 cases o with
 |ok d M'=>exact fun v H' α' e'=>h v H' α' (e.trans e')
 |exc c M'=>exact fun C H' α' n e'=>h C H' α' n (e.trans e')
 |bad=>exact h
noncomputable abbrev OP (K:PySem.W.Frag):=OG K (Rep K)
noncomputable abbrev OT (K:PySem.W.Frag):=OG (β:=Bool) (γ:=Bool) K (fun _ _ v d=>v=d)
noncomputable abbrev OA (K:PySem.W.Frag):=OG K (Reps K)
noncomputable def SR (K:PySem.W.Frag) (H:Hp) (α:List Addr) (σ:L2.St) (ρ:Ro):Prop:=σ.length=ρ.length/\ ∀ (i:Nat) (d:D),ρ[i]?=some (some d)-> ∃ v,σ[i]?=some (some v)/\Rep K H α v d
theorem SR.mono {K:PySem.W.Frag} {H H':Hp} {α α':List Addr} {σ:L2.St} {ρ:Ro} (h:SR K H α σ ρ) (e:Ext K H H' α α'):SR K H' α' σ ρ:=
 ⟨h.1,fun i d q=>let ⟨v,a,b⟩:=h.2 i d q;⟨v,a,Rep.mono e b⟩⟩
theorem SR.set {K:PySem.W.Frag} {H:Hp} {α:List Addr} {σ:L2.St} {ρ:Ro} {v:V} {d:D} (h:SR K H α σ ρ) (i:Nat) (r:Rep K H α v d):SR K H α (σ.set i (some v)) (ρ.set i (some d)):=by
 refine ⟨by rw[List.length_set,List.length_set];exact h.1,fun j e q=> ?_⟩
 by_cases hj:j=i
 ·subst hj
  have hl:j < ρ.length:=by
   have:=(List.getElem?_eq_some_iff.mp q).1
   rw[List.length_set] at this
   exact this
  rw[List.getElem?_set_self hl] at q
  cases q
  exact ⟨v,by rw[List.getElem?_set_self (by rw[h.1];exact hl)],r⟩
 ·rw[List.getElem?_set_ne (Ne.symm hj)] at q
  rw[List.getElem?_set_ne (Ne.symm hj)]
  exact h.2 j e q
noncomputable abbrev Ev:=Ro->Sto->Out D
noncomputable abbrev Tv:=Ro->Sto->Out Bool
noncomputable abbrev Av:=Ro->Sto->Out (List D)
noncomputable abbrev Sv:=Ro->Sto->Fl
noncomputable def DE (X:Cx) (ξ:XK) (e:Expr) (f:Ev):Prop:= ∃ t:TE,PE X e t/\ ∀ σ ρ H α M Q,SR X.K H α σ ρ->HR X.K H α M->OP X.K H α ξ Q (f ρ M)->t σ H Q
noncomputable def DT (X:Cx) (ξ:XK) (e:Expr) (f:Tv):Prop:= ∃ t:TT,PT X e t/\ ∀ σ ρ H α M Q,SR X.K H α σ ρ->HR X.K H α M->OT X.K H α ξ Q (f ρ M)->t σ H Q
noncomputable def DW (X:Cx) (ξ:XK) (e:Expr) (f:Tv):Prop:= ∃ t:TT,PW X e t/\ ∀ σ ρ H α M Q,SR X.K H α σ ρ->HR X.K H α M->OT X.K H α ξ Q (f ρ M)->t σ H Q
noncomputable def DA (X:Cx) (ξ:XK) (es:List Expr) (f:Av):Prop:= ∃ t:TA,PA X es t/\ ∀ σ ρ H α M Q,SR X.K H α σ ρ->HR X.K H α M->OA X.K H α ξ Q (f ρ M)->t σ H Q
theorem OG.seq {β γ β' γ':Type} {K:PySem.W.Frag} {R:Hp->List Addr->γ->β->Prop} {R':Hp->List Addr->γ'->β'->Prop} {H:Hp} {α:List Addr} {ξ:XK} {Q:γ'->Hp->Prop} {Q1:γ->Hp->Prop} {o:Out β} {f:β->Sto->Out β'}
  (h:OG K R' H α ξ Q (o.bind f)) (k: ∀ d M' v H' α',Ext K H H' α α'->HR K H' α' M'->R H' α' v d->OG K R' H' α' ξ Q (f d M')->Q1 v H'):OG K R H α ξ Q1 o:=by
 cases o with
 |ok d M'=>exact fun v H' α' e hr r=>k d M' v H' α' e hr r (OG.ext (o:=f d M') h e)
 |exc c M'=>exact h
 |bad=>exact h
section
variable {X:Cx} {ξ:XK} {a b e:Expr} {fa fb:Ev} {pos:Pos}
noncomputable def Zh (i:Nat):Ev:=fun ρ M=>match ρ[i]? with | some (some d)=> .ok d M | _=> .bad
noncomputable def eC (d:D):Ev:=fun _ M=> .ok d M
theorem Zb (i:Nat) {x:Str} (hN:X.N[i]?=some x:=by rfl) (hv:Vis X.env.scope x:=by first | exact Or.inl rfl | exact Or.inr (Or.inl rfl) | exact Or.inr (Or.inr rfl)) (hd:(x == ("__debug__":Str))=false:=by decide)
  (hcd:(x == ("__classdict__":Str))=false:=by decide):DE X ξ (.Name x pos) (Zh i):=by
 refine ⟨_,ZfY hN hv hd hcd,fun σ ρ H α M Q s h q=> ?_⟩
 unfold Zh at q
 cases e:ρ[i]? with
 |none=>rw[e] at q;exact q.elim
 |some o=>
  cases o with
  |none=>rw[e] at q;exact q.elim
  |some d=>
   rw[e] at q
   obtain ⟨v,h1,h2⟩:=s.2 i d e
   exact ⟨v,h1,q v H α Ext.refl h h2⟩
theorem Zd {i:Int} {j pos}:DE X ξ (.Constant (.int i) j pos) (eC (.int i)):=⟨_,Ziq,fun _ _ H α M _ _ h q=>q _ H α Ext.refl h (.int i)⟩
theorem Zg0 {i:Bool} {j pos}:DE X ξ (.Constant (.bool i) j pos) (eC (.bl i)):=⟨_,Zlh,fun _ _ H α M _ _ h q=>q _ H α Ext.refl h (.bl i)⟩
theorem ZiR {x:Str} {j pos}:DE X ξ (.Constant (.str x) j pos) (eC (.str x)):=⟨_,Zir,fun _ _ H α M _ _ h q=>q _ H α Ext.refl h (.str x)⟩
noncomputable abbrev Bo:=D->D->Sto->Out D
noncomputable def e2 (f:Bo) (fa fb:Ev):Ev:=fun ρ M=>(fa ρ M).bind fun x M1=>(fb ρ M1).bind fun y M2=>f x y M2
noncomputable def BO (X:Cx) (ξ:XK) (r:R2) (f:Bo):Prop:= ∀ H α M v w x y Q,HR X.K H α M->Rep X.K H α v x->Rep X.K H α w y->OP X.K H α ξ Q (f x y M)->r v w H Q
theorem two {r:R2} {f:Bo} (hb:BO X ξ r f) {ta tb:TE} (qa: ∀ σ ρ H α M Q,SR X.K H α σ ρ->HR X.K H α M->OP X.K H α ξ Q (fa ρ M)->ta σ H Q)
  (qb: ∀ σ ρ H α M Q,SR X.K H α σ ρ->HR X.K H α M->OP X.K H α ξ Q (fb ρ M)->tb σ H Q): ∀ σ ρ H α M Q,SR X.K H α σ ρ->HR X.K H α M->OP X.K H α ξ Q (e2 f fa fb ρ M)->tOp r ta tb σ H Q:=by
 intro σ ρ H α M Q s h q
 refine qa σ ρ H α M _ s h (OG.seq q fun x M1 v H1 α1 e1 h1 r1 q1=> ?_)
 refine qb σ ρ H1 α1 M1 _ (s.mono e1) h1 (OG.seq q1 fun y M2 w H2 α2 e2 h2 r2 q2=> ?_)
 exact hb H2 α2 M2 v w x y Q h2 (Rep.mono e2 r1) r2 q2
theorem Zdm {op:Operator} {r:R2} {f:Bo} (ho:OpR X (binaryOp op) r) (hf:BO X ξ r f) (ha:DE X ξ a fa) (hb:DE X ξ b fb):DE X ξ (.BinOp a op b pos) (e2 f fa fb):=by
 obtain ⟨ta,ha,qa⟩:=ha
 obtain ⟨tb,hb,qb⟩:=hb
 exact ⟨_,Zlp ho ha hb,two hf qa qb⟩
theorem Zf5 {op:CmpOp} {r:R2} {f:Bo} (ho:OpR X (compareOp op) r) (hf:BO X ξ r f) (ha:DE X ξ a fa) (hb:DE X ξ b fb) (hm:behindInMarks op b=false:=by first | exact Zf0 _ | with_unfolding_all rfl):DE X ξ (.Compare a [op] [b] pos) (e2 f fa fb):=by
 obtain ⟨ta,ha,qa⟩:=ha
 obtain ⟨tb,hb,qb⟩:=hb
 exact ⟨_,ZgN ho ha hb hm,two hf qa qb⟩
noncomputable def tv (f:Ev):Tv:=fun ρ M=>(f ρ M).bind fun x M1=>match x with | .bl k=> .ok k M1 | _=> .bad
theorem Zd5 {t:TE} {f:Ev} (qa: ∀ σ ρ H α M Q,SR X.K H α σ ρ->HR X.K H α M->OP X.K H α ξ Q (f ρ M)->t σ H Q): ∀ σ ρ H α M Q,SR X.K H α σ ρ->HR X.K H α M->OT X.K H α ξ Q (tv f ρ M)->ZgO t σ H Q:=by
 intro σ ρ H α M Q s h q
 refine qa σ ρ H α M _ s h (OG.seq q fun x M1 v H1 α1 e1 h1 r1 q1=> ?_)
 cases r1 with
 |bl k=>exact ⟨k,rfl,q1 k H1 α1 Ext.refl h1 rfl⟩
 |_=>exact q1.elim
theorem Zas {op:CmpOp} {r:R2} {f:Bo} (ho:OpR X (compareOp op) r) (hf:BO X ξ r f) (ha:DE X ξ a fa) (hb:DE X ξ b fb) (hm:behindInMarks op b=false:=by first | exact Zf0 _ | with_unfolding_all rfl):DT X ξ (.Compare a [op] [b] pos) (tv (e2 f fa fb)):=by
 obtain ⟨ta,ha,qa⟩:=ha
 obtain ⟨tb,hb,qb⟩:=hb
 exact ⟨_,ZgP ho ha hb hm,Zd5 (two hf qa qb)⟩
theorem Zf6 (h:DE X ξ e fa) (he: ∀ whole,isTrue e X.env whole=(do let v <- whole;standAt e.pos;holding [v] (truthy v)):=by intro _;rfl):DT X ξ e (tv fa):=by
 obtain ⟨ta,ha,qa⟩:=h
 exact ⟨_,Zis ha he,Zd5 qa⟩
variable {ga gb:Tv} {rest:List Expr}
noncomputable def Zed (f g:Tv):Tv:=fun ρ M=>(f ρ M).bind fun k M1=>if k=true then g ρ M1 else .ok false M1
noncomputable def Zk5 (f g:Tv):Tv:=fun ρ M=>(f ρ M).bind fun k M1=>if k=true then .ok true M1 else g ρ M1
noncomputable def Zdn (f:Tv):Tv:=fun ρ M=>(f ρ M).bind fun k M1=> .ok (!k) M1
theorem Zg1 (ha:DT X ξ a ga):DW X ξ (.BoolOp .And [a] pos) ga:=let ⟨_,h,q⟩:=ha;⟨_,pw_and1 h,q⟩
theorem ZiS (ha:DT X ξ a ga):DW X ξ (.BoolOp .Or [a] pos) ga:=let ⟨_,h,q⟩:=ha;⟨_,pw_or1 h,q⟩
theorem Zf7 (ha:DT X ξ a ga) (hb:DW X ξ (.BoolOp .And (b :: rest) pos) gb):DW X ξ (.BoolOp .And (a :: b :: rest) pos) (Zed ga gb):=by
 obtain ⟨ta,ha,qa⟩:=ha
 obtain ⟨tb,hb,qb⟩:=hb
 refine ⟨_,pw_and ha hb,fun σ ρ H α M Q s h q=> ?_⟩
 refine qa σ ρ H α M _ s h (OG.seq q fun k M1 v H1 α1 e1 h1 r1 q1=> ?_)
 cases r1
 cases k with
 |true=>exact Zia (qb σ ρ H1 α1 M1 Q (s.mono e1) h1 q1)
 |false=>exact Zh9 (q1 false H1 α1 Ext.refl h1 rfl)
theorem ZlA (ha:DT X ξ a ga) (hb:DW X ξ (.BoolOp .Or (b :: rest) pos) gb):DW X ξ (.BoolOp .Or (a :: b :: rest) pos) (Zk5 ga gb):=by
 obtain ⟨ta,ha,qa⟩:=ha
 obtain ⟨tb,hb,qb⟩:=hb
 refine ⟨_,pw_or ha hb,fun σ ρ H α M Q s h q=> ?_⟩
 refine qa σ ρ H α M _ s h (OG.seq q fun k M1 v H1 α1 e1 h1 r1 q1=> ?_)
 cases r1
 cases k with
 |true=>exact Zia (q1 true H1 α1 Ext.refl h1 rfl)
 |false=>exact Zh9 (qb σ ρ H1 α1 M1 Q (s.mono e1) h1 q1)
theorem Znk (h:DW X ξ e ga):DT X ξ e ga:=let ⟨_,h,q⟩:=h;⟨_,h.pt,q⟩
theorem Zf8 (ha:DT X ξ a ga):DT X ξ (.UnaryOp .Not a pos) (Zdn ga):=by
 obtain ⟨ta,ha,qa⟩:=ha
 refine ⟨_,Zit ha,fun σ ρ H α M Q s h q=> ?_⟩
 refine qa σ ρ H α M _ s h (OG.seq q fun k M1 v H1 α1 e1 h1 r1 q1=> ?_)
 cases r1
 exact q1 (!k) H1 α1 Ext.refl h1 rfl
noncomputable def Zcz (f g:Ev):Ev:=fun ρ M=>(f ρ M).bind fun x M1=>match x with | .bl k=>if k=true then g ρ M1 else .ok (.bl false) M1 | _=> .bad
noncomputable def Znl (f g:Ev):Ev:=fun ρ M=>(f ρ M).bind fun x M1=>match x with | .bl k=>if k=true then .ok (.bl true) M1 else g ρ M1 | _=> .bad
noncomputable def ZiT (f:Ev):Ev:=fun ρ M=>(f ρ M).bind fun x M1=>match x with | .bl k=> .ok (.bl (!k)) M1 | _=> .bad
noncomputable def eIf (c:Tv) (f g:Ev):Ev:=fun ρ M=>(c ρ M).bind fun k M1=>if k=true then f ρ M1 else g ρ M1
variable {es:List Expr} {fs:Av}
noncomputable def aNil:Av:=fun _ M=> .ok [] M
noncomputable def Zc (f:Ev) (g:Av):Av:=fun ρ M=>(f ρ M).bind fun x M1=>(g ρ M1).bind fun xs M2=> .ok (x :: xs) M2
theorem Ze:DA X ξ [] aNil:=⟨_,Zf2,fun _ _ H α M _ _ h q=>q _ H α Ext.refl h .nil⟩
theorem Za (ha:DE X ξ e fa) (hr:DA X ξ es fs) (hs:starEach (e :: es) X.env=(false,eval e X.env) :: starEach es X.env:=by rfl):DA X ξ (e :: es) (Zc fa fs):=by
 obtain ⟨ta,ha,qa⟩:=ha
 obtain ⟨tb,hb,qb⟩:=hr
 refine ⟨_,Zcw ha hb hs,fun σ ρ H α M Q s h q=> ?_⟩
 refine qa σ ρ H α M _ s h (OG.seq q fun x M1 v H1 α1 e1 h1 r1 q1=> ?_)
 refine qb σ ρ H1 α1 M1 _ (s.mono e1) h1 (OG.seq q1 fun y M2 w H2 α2 e2 h2 r2 q2=> ?_)
 exact q2 _ H2 α2 Ext.refl h2 (.cons (Rep.mono e2 r1) r2)
noncomputable def Za3 (f:Av):Ev:=fun ρ M=>(f ρ M).bind fun xs M1=>if xs.length<=1000 then .ok (.tup xs) M1 else .bad
noncomputable def Ze5 (f:Av):Ev:=fun ρ M=>(f ρ M).bind fun xs M1=>if xs.length<=1000 then .ok (.ref M1.length) (M1 ++ [.lst xs]) else .bad
theorem Zg2 {n:Nat} (h:n<=1000):n<=sizeLine:=Nat.le_of_lt (Zd3 h)
theorem ZJ {x1} (ha:DA X ξ es fs):DE X ξ (.Tuple es x1 pos) (Za3 fs):=by
 obtain ⟨ta,ha,qa⟩:=ha
 refine ⟨_,ZiG ha,fun σ ρ H α M Q s h q=> ?_⟩
 refine qa σ ρ H α M _ s h (OG.seq q fun xs M1 vs H1 α1 e1 h1 r1 q1=> ?_)
 by_cases hl:xs.length<=1000
 ·rw[if_pos hl] at q1
  refine ⟨by rw[r1.length];exact Zg2 hl,fun p hp=>q1 _ _ α1 (Ext.new0 hp) (h1.tup hp) (.tup Zl (Reps.mono (Ext.new0 hp) r1))⟩
 ·rw[if_neg hl] at q1
  exact q1.elim
theorem HR.last {K:PySem.W.Frag} {H:Hp} {α:List Addr} {M:Sto} (h:HR K H α M) (p:Addr):(α ++ [p])[M.length]?=some p:=by
 rw[<- h.len,List.getElem?_append_right (Nat.le_refl _),Nat.sub_self]
 rfl
theorem Zbn (ha:DA X ξ es fs):DE X ξ (.List es pos) (Ze5 fs):=by
 obtain ⟨ta,ha,qa⟩:=ha
 refine ⟨_,ZiH ha,fun σ ρ H α M Q s h q=> ?_⟩
 refine qa σ ρ H α M _ s h (OG.seq q fun xs M1 vs H1 α1 e1 h1 r1 q1=> ?_)
 by_cases hl:xs.length<=1000
 ·rw[if_pos hl] at q1
  refine ⟨by rw[r1.length];exact Zg2 hl,fun p hp=>q1 _ _ (α1 ++ [p]) (Ext.new hp) (h1.new hp r1) (.ref ⟨h1.last p,Kn.lst Zl⟩)⟩
 ·rw[if_neg hl] at q1
  exact q1.elim
end
end DL
end
section
namespace DL
open PySem PySem.Spec PyProof.Rows L2
open PySem.SeqAt (EqAt RcAt RcNeAt)
noncomputable def Zy (i j:Int):Prop:=Builtin.Int.intBits i<=64\/Builtin.Int.intBits j<=64\/(Builtin.Int.intBits i<=60000000/\Builtin.Int.intBits j<=60000000)
noncomputable instance (i j:Int):Decidable (Zy i j):=by unfold Zy;infer_instance
theorem Zy.ok {i j:Int} (h:Zy i j):IntMulOk i j:=by
 rcases h with h | h | ⟨h1,h2⟩
 ·exact .of_left h
 ·exact .of_right h
 ·exact .of_le h1 h2 (by decide)
theorem Zdo {i j:Int} (m n:Nat) (h1:i.natAbs < 2 ^ m) (h2:j.natAbs < 2 ^ n) (hm:m<=60000000:=by decide) (hn:n<=60000000:=by decide):Zy i j:=
 .inr (.inr ⟨Nat.le_trans (intBits_le_iff.mpr h1) hm,Nat.le_trans (intBits_le_iff.mpr h2) hn⟩)
noncomputable def Z8 (j:Int):Prop:=j≠0/\j.natAbs.log2 < 9000
noncomputable instance (j:Int):Decidable (Z8 j):=by unfold Z8;infer_instance
section
variable {X:Cx}
theorem Zg3:OpR X (binaryOp .Mult) (rI Zy fun i j=> .int (i * j)):=opI fun _ _ _ _ _ _ _ hc q=>mul_int q hc.ok
theorem Zfo:OpR X (binaryOp .FloorDiv) (rI (fun _ j=>Z8 j) fun i j=> .int (i.fdiv j)):=opI fun _ _ _ _ _ _ _ hc q=>floordiv_int hc.1 q (.inl (PyProof.noPylong_of_log2 hc.2))
end
noncomputable def dAdd:Bo:=fun x y M=>match x,y with
 | .int i,.int j=> .ok (.int (i + j)) M
 | .str i,.str j=>if i.length + j.length<=100000 then .ok (.str (i ++ j)) M else .bad
 | .ref n,.ref m=>match M[n]?,M[m]? with
  |some (.lst xs),some (.lst ys)=>if xs.length + ys.length<=10000000 then .ok (.ref M.length) (M ++ [.lst (xs ++ ys)]) else .bad
  |_,_=> .bad
 | .tup xs,.tup ys=>if xs.length + ys.length<=100000/\xs≠[] then .ok (.tup (xs ++ ys)) M else .bad
 |_,_=> .bad
noncomputable def dSub:Bo:=fun x y M=>match x,y with | .int i,.int j=> .ok (.int (i - j)) M | _,_=> .bad
noncomputable def dMul:Bo:=fun x y M=>match x,y with | .int i,.int j=>if Zy i j then .ok (.int (i * j)) M else .bad | _,_=> .bad
noncomputable def dDiv:Bo:=fun x y M=>match x,y with | .int i,.int j=>if Z8 j then .ok (.int (i.fdiv j)) M else .bad | _,_=> .bad
noncomputable def dMod:Bo:=fun x y M=>match x,y with | .int i,.int j=>if j≠0 then .ok (.int (i.fmod j)) M else .bad | _,_=> .bad
noncomputable def dPow:Bo:=fun x y M=>match x,y with | .int i,.int j=>if 0<=j/\j<=1000000/\i.natAbs < 2 ^ 64 then .ok (.int (i ^ j.toNat)) M else .bad | _,_=> .bad
noncomputable def dLt:Bo:=fun x y M=>match x,y with | .int i,.int j=> .ok (.bl (decide (i < j))) M | _,_=> .bad
noncomputable def dLe:Bo:=fun x y M=>match x,y with | .int i,.int j=> .ok (.bl (decide (i<=j))) M | _,_=> .bad
noncomputable def dGt:Bo:=fun x y M=>match x,y with | .int i,.int j=> .ok (.bl (decide (j < i))) M | _,_=> .bad
noncomputable def dGe:Bo:=fun x y M=>match x,y with | .int i,.int j=> .ok (.bl (decide (j<=i))) M | _,_=> .bad
theorem ZiU {n:Nat} (h:n<=100000):n<=sizeLine:=Nat.le_trans h (by decide)
section
variable {X:Cx} {ξ:XK}
theorem ZaF {r:R2} {f:Bo} {C:Int->Int->Prop} [∀ i j,Decidable (C i j)] {g:Int->Int->D} {gV:Int->Int->V} (hg: ∀ H α i j,Rep X.K H α (gV i j) (g i j))
  (hf: ∀ x y M,f x y M=match x,y with | .int i,.int j=>if C i j then .ok (g i j) M else .bad | _,_=> .bad) (hr: ∀ i j H Q,C i j->Q (gV i j) H->r (.int i) (.int j) H Q):BO X ξ r f:=by
 intro H α M v w x y Q h rv rw' q
 rw[hf] at q
 cases rv<;>first | exact q.elim | skip
 cases rw'<;>first | exact q.elim | skip
 rename_i i j
 by_cases c:C i j
 ·simp only[if_pos c] at q
  exact hr i j H Q c (q _ H α Ext.refl h (hg H α i j))
 ·simp only[if_neg c] at q
  exact q.elim
theorem ZiV:BO X ξ (rI0 fun i j=> .int (i - j)) dSub:=ZaF (C:=fun _ _=>True) (fun _ _ i j=> .int (i - j)) (fun x y M=>by cases x<;>cases y<;>simp[dSub]) fun i j H Q _ q=>⟨i,j,rfl,rfl,q⟩
theorem ZiW:BO X ξ (rI Zy fun i j=> .int (i * j)) dMul:=ZaF (C:=Zy) (fun _ _ i j=> .int (i * j)) (fun x y M=>by cases x<;>cases y<;>rfl) fun i j H Q c q=>⟨i,j,rfl,rfl,c,q⟩
theorem ZiX:BO X ξ (rI (fun _ j=>Z8 j) fun i j=> .int (i.fdiv j)) dDiv:=ZaF (C:=fun _ j=>Z8 j) (fun _ _ i j=> .int (i.fdiv j)) (fun x y M=>by cases x<;>cases y<;>rfl) fun i j H Q c q=>⟨i,j,rfl,rfl,c,q⟩
theorem ZiY:BO X ξ (rI (fun _ j=>j≠0) fun i j=> .int (i.fmod j)) dMod:=ZaF (C:=fun _ j=>j≠0) (fun _ _ i j=> .int (i.fmod j)) (fun x y M=>by cases x<;>cases y<;>rfl) fun i j H Q c q=>⟨i,j,rfl,rfl,c,q⟩
theorem ZiZ:BO X ξ (rI Zng fun i j=> .int (i ^ j.toNat)) dPow:=ZaF (C:=fun i j=>0<=j/\j<=1000000/\i.natAbs < 2 ^ 64) (fun _ _ i j=> .int (i ^ j.toNat)) (fun x y M=>by cases x<;>cases y<;>rfl) fun i j H Q c q=>⟨i,j,rfl,rfl,c,q⟩
theorem Zi0:BO X ξ (rI0 fun i j=> .bl (decide (i < j))) dLt:=ZaF (C:=fun _ _=>True) (fun _ _ i j=> .bl _) (fun x y M=>by cases x<;>cases y<;>simp[dLt]) fun i j H Q _ q=>⟨i,j,rfl,rfl,q⟩
theorem Zee:BO X ξ (rI0 fun i j=> .bl (decide (i<=j))) dLe:=ZaF (C:=fun _ _=>True) (fun _ _ i j=> .bl _) (fun x y M=>by cases x<;>cases y<;>simp[dLe]) fun i j H Q _ q=>⟨i,j,rfl,rfl,q⟩
theorem Zg4:BO X ξ (rI0 fun i j=> .bl (decide (j < i))) dGt:=ZaF (C:=fun _ _=>True) (fun _ _ i j=> .bl _) (fun x y M=>by cases x<;>cases y<;>simp[dGt]) fun i j H Q _ q=>⟨i,j,rfl,rfl,q⟩
theorem ZlB:BO X ξ (rI0 fun i j=> .bl (decide (j<=i))) dGe:=ZaF (C:=fun _ _=>True) (fun _ _ i j=> .bl _) (fun x y M=>by cases x<;>cases y<;>simp[dGe]) fun i j H Q _ q=>⟨i,j,rfl,rfl,q⟩
theorem Zg5:OpR X (binaryOp .Add) (fun x y H Q=>(rI0 (fun i j=> .int (i + j)) x y H Q\/(∃ i j,x= .str i/\y= .str j/\i.length + j.length<=sizeLine/\Q (.str (i ++ j)) H))\/(rCat x y H Q\/ZgT X.K x y H Q)):=
 OpR.or (OpR.or ZiB Zdi) (OpR.or ZiM ZgU)
theorem Zi1:BO X ξ (fun x y H Q=>(rI0 (fun i j=> .int (i + j)) x y H Q\/(∃ i j,x= .str i/\y= .str j/\i.length + j.length<=sizeLine/\Q (.str (i ++ j)) H))\/(rCat x y H Q\/ZgT X.K x y H Q)) dAdd:=by
 intro H α M v w x y Q h rv rw' q
 unfold dAdd at q
 split at q
 ·rename_i i j
  cases rv
  cases rw'
  exact .inl (.inl ⟨i,j,rfl,rfl,q _ H α Ext.refl h (.int (i + j))⟩)
 ·rename_i i j
  cases rv
  cases rw'
  split at q
  ·rename_i c
   exact .inl (.inr ⟨i,j,rfl,rfl,ZiU c,q _ H α Ext.refl h (.str _)⟩)
  ·exact q.elim
 ·rename_i n m
  cases rv with
  | @ref p _ hp=>
   cases rw' with
   | @ref p2 _ hp2=>
    split at q
    ·rename_i ds ds2 e1 e2
     split at q
     ·rename_i c
      obtain ⟨xs,g1,r1⟩:=h.at hp e1
      obtain ⟨ys,g2,r2⟩:=h.at hp2 e2
      refine .inr (.inl ⟨p,p2,xs,ys,rfl,rfl,g1,g2,by rw[r1.length,r2.length];exact Nat.le_trans c (by decide),fun l hl=> ?_⟩)
      exact q _ _ (α ++ [l]) (Ext.new hl) (h.new hl (r1.append r2)) (.ref ⟨h.last l,Kn.lst Zl⟩)
     ·exact q.elim
    ·exact q.elim
 ·rename_i ds ds2
  cases rv with
  | @tup p xs _ hp rp=>
   cases rw' with
   | @tup p2 xs2 _ hp2 rp2=>
    split at q
    ·rename_i c
     have nx:xs≠[]:=fun z=>c.2 (by have:=rp.length;rw[z] at this;exact List.eq_nil_of_length_eq_zero this.symm)
     refine .inr (.inr ⟨p,p2,xs,xs2,rfl,rfl,(SqT.of hp),(SqT.of hp2),nx,by rw[rp.length,rp2.length];exact ZiU c.1,fun z=> ?_,fun _ l hl=> ?_⟩)
     ·subst z
      cases rp2
      rw[List.append_nil] at q
      exact q _ H α Ext.refl h (.tup hp rp)
     ·exact q _ _ α (Ext.new0 hl) (h.tup hl) (.tup Zl (Reps.mono (Ext.new0 hl) (rp.append rp2)))
    ·exact q.elim
 ·exact q.elim
variable {a b e:Expr} {fa fb:Ev} {pos:Pos}
theorem Z2 (ha:DE X ξ a fa) (hb:DE X ξ b fb):DE X ξ (.BinOp a .Add b pos) (e2 dAdd fa fb):=Zdm Zg5 Zi1 ha hb
theorem ZR (ha:DE X ξ a fa) (hb:DE X ξ b fb):DE X ξ (.BinOp a .Sub b pos) (e2 dSub fa fb):=Zdm ZiC ZiV ha hb
theorem Zw (ha:DE X ξ a fa) (hb:DE X ξ b fb):DE X ξ (.BinOp a .Mult b pos) (e2 dMul fa fb):=Zdm Zg3 ZiW ha hb
theorem Za4 (ha:DE X ξ a fa) (hb:DE X ξ b fb):DE X ξ (.BinOp a .FloorDiv b pos) (e2 dDiv fa fb):=Zdm Zfo ZiX ha hb
theorem Za5 (ha:DE X ξ a fa) (hb:DE X ξ b fb):DE X ξ (.BinOp a .Mod b pos) (e2 dMod fa fb):=Zdm ZgL ZiY ha hb
theorem Zef (ha:DE X ξ a fa) (hb:DE X ξ b fb):DE X ξ (.BinOp a .Pow b pos) (e2 dPow fa fb):=Zdm ZiD ZiZ ha hb
noncomputable def Zib (f:Ev):Ev:=fun ρ M=>(f ρ M).bind fun x M1=>match x with | .int i=> .ok (.int (-i)) M1 | _=> .bad
theorem Zeg (ha:DE X ξ a fa):DE X ξ (.UnaryOp .USub a pos) (Zib fa):=by
 obtain ⟨ta,ha,qa⟩:=ha
 refine ⟨_,Zlq ZiE ha,fun σ ρ H α M Q s h q=> ?_⟩
 refine qa σ ρ H α M _ s h (OG.seq q fun x M1 v H1 α1 e1 h1 r1 q1=> ?_)
 cases r1 with
 |int i=>exact ⟨i,rfl,q1 _ H1 α1 Ext.refl h1 (.int (-i))⟩
 |_=>exact q1.elim
noncomputable def atD (xs:List D) (i:Int) (M:Sto):Out D:=match atI xs i with | some d=> .ok d M | none=> .bad
noncomputable def dIx:Bo:=fun x y M=>match x,y with
 | .tup xs,.int i=>atD xs i M
 | .rol xs,.int i=>atD xs i M
 | .ref n,.int i=>match M[n]? with | some (.lst xs)=>atD xs i M | _=> .bad
 |_,_=> .bad
theorem Reps.atI {K:PySem.W.Frag} {H:Hp} {α:List Addr} {vs:List V} {ds:List D} {i:Int} {d:D} (r:Reps K H α vs ds) (h:L2.atI ds i=some d): ∃ v,L2.atI vs i=some v/\Rep K H α v d:=by
 unfold L2.atI at h ⊢
 rw[r.length]
 cases e:ixN ds.length i with
 |none=>rw[e] at h;cases h
 |some j=>
  rw[e] at h
  exact r.get h
theorem ZlC:BO X ξ (fun x y H Q=>Znh X.K x y H Q\/Zni X.K x y H Q) dIx:=by
 intro H α M v w x y Q h rv rw' q
 have at': ∀ {ds:List D} {i:Int},OP X.K H α ξ Q (atD ds i M)-> ∃ d,L2.atI ds i=some d/\OP X.K H α ξ Q (.ok d M):=fun {ds i} q=>by
  unfold atD at q
  cases e:L2.atI ds i with
  |none=>rw[e] at q;exact q.elim
  |some d=>rw[e] at q;exact ⟨d,rfl,q⟩
 unfold dIx at q
 split at q
 ·rename_i ds i
  cases rw'
  cases rv with
  | @tup p xs _ hp rp=>
   obtain ⟨d,e,q⟩:=at' q
   obtain ⟨v,h1,h2⟩:=rp.atI e
   exact .inr ⟨p,xs,i,v,rfl,rfl,(SqT.of hp),h1,q v H α Ext.refl h h2⟩
 ·rename_i ds i
  cases rw'
  cases rv with
  | @rol p xs _ hp rp=>
   obtain ⟨d,e,q⟩:=at' q
   obtain ⟨v,h1,h2⟩:=rp.atI e
   exact .inl ⟨p,xs,i,v,rfl,rfl,hp.sq,h1,q v H α Ext.refl h h2⟩
 ·rename_i n i
  cases rw'
  cases rv with
  | @ref p _ hp=>
   split at q
   ·rename_i ds e1
    obtain ⟨d,e,q⟩:=at' q
    obtain ⟨xs,g1,r1⟩:=h.at hp e1
    obtain ⟨v,h1,h2⟩:=r1.atI e
    exact .inl ⟨p,xs,i,v,rfl,rfl,SqL.of g1,h1,q v H α Ext.refl h h2⟩
   ·exact q.elim
 ·exact q.elim
theorem Zr (ha:DE X ξ a fa) (hb:DE X ξ b fb) (hs:Zd0 b:=by exact fun _ _=>rfl):DE X ξ (.Subscript a b pos) (e2 dIx fa fb):=by
 obtain ⟨ta,ha,qa⟩:=ha
 obtain ⟨tb,hb,qb⟩:=hb
 exact ⟨_,Zlv (IxR.or ZgW ZiJ) ha hb hs,two ZlC qa qb⟩
end
inductive Kd where
 |non | bl (b:Bool) | int (i:Int) | str (x:Str) | tup (xs:List D) | lst (xs:List D)
noncomputable def kd (M:Sto):D->Option Kd
 | .non=>some .non
 | .bl b=>some (.bl b)
 | .int i=>some (.int i)
 | .str x=>some (.str x)
 | .tup xs=>some (.tup xs)
 | .rol xs=>some (.lst xs)
 | .con xs=>some (.tup xs)
 | .ref n=>match M[n]? with | some (.lst xs)=>some (.lst xs) | _=>none
 | .err _ _=>none
 | .dk _=>none
 | .dt _=>none
 | .fn _=>none
noncomputable def eqL (f:D->D->Option Bool):List D->List D->Option Bool
 | [],[]=>some true
 |x :: xs,y :: ys=>match f x y with | some a=>(match eqL f xs ys with | some b=>some (a && b) | none=>none) | none=>none
 |_,_=>some false
noncomputable def eqK (f:D->D->Option Bool):Kd->Kd->Option Bool
 | .non,.non=>some true
 | .bl a,.bl b=>some (a == b)
 | .bl a,.int b=>some ((if a then 1 else 0) == b)
 | .int a,.bl b=>some (a == (if b then 1 else 0))
 | .int a,.int b=>some (a == b)
 | .str a,.str b=>some (a == b)
 | .tup xs,.tup ys=>eqL f xs ys
 | .lst xs,.lst ys=>if xs.length=ys.length then eqL f xs ys else some false
 |_,_=>some false
noncomputable def eqF:Nat->Sto->D->D->Option Bool
 |0,_,_,_=>none
 |n + 1,M,x,y=>match kd M x,kd M y with | some a,some b=>eqK (eqF n M) a b | _,_=>none
inductive Vw (X:Cx) (H:Hp) (α:List Addr) (s:Shared):Kd->Value->Prop where
 |non:Vw X H α s .non .none
 |bl (b:Bool):Vw X H α s (.bl b) (.bool b)
 |int (i:Int) (t:Tok):Vw X H α s (.int i) (.int i t)
 |str (x:Str) (t:Tok):Vw X H α s (.str x) (.str x t)
 |tup {p:Addr} {xs:List V} {ds:List D} {its:List Value}:s.heap.IsTuple p its.toArray->ZF xs its->Reps X.K H α xs ds->Vw X H α s (.tup ds) (.ref p)
 |lst {p:Addr} {xs:List V} {ds:List D} {its:List Value}:s.heap.IsList p its.toArray->ZF xs its->Reps X.K H α xs ds->Vw X H α s (.lst ds) (.ref p)
section
variable {X:Cx} {ξ:XK} {pins:List (Addr × Obj)} {σ:L2.St} {H:Hp} {s:Shared} {α:List Addr} {M:Sto}
theorem vw (I:Inv X pins σ H s) (h:HR X.K H α M) {v:V} {x:D} {u:Value} {k:Kd} (r:Rep X.K H α v x) (ru:Zz v u) (e:kd M x=some k):Vw X H α s k u:=by
 cases r with
 |non=>cases e;cases ru;exact .non
 |bl b=>cases e;cases ru;exact .bl b
 |int i=>cases e;obtain ⟨t,rfl⟩:=ru;exact .int i t
 |str x=>cases e;obtain ⟨t,rfl⟩:=ru;exact .str x t
 |err _ _ _=>cases e
 |dk _=>cases e
 |dt _=>cases e
 |fn _=>cases e
 | @tup p xs ds hp rp=>
  cases e;cases ru
  obtain ⟨its,h1,h2,_⟩:=I.tuple (SqT.of hp)
  exact .tup h2 h1 rp
 | @con p xs ds hp rp=>
  cases e;cases ru
  obtain ⟨its,h1,h2,_⟩:=I.tuple hp.sq
  exact .tup h2 h1 rp
 | @rol p xs ds hp rp=>
  cases e;cases ru
  obtain ⟨its,h1,h2,_⟩:=I.list hp.sq
  exact .lst h2.isList h1 rp
 | @ref p n hp=>
  cases ru
  cases e1:M[n]? with
  |none=>simp only[kd,e1] at e;cases e
  |some o=>
   cases o with
   |lst ds=>
    simp only[kd,e1] at e
    cases e
    obtain ⟨xs,g1,r1⟩:=h.at hp e1
    obtain ⟨its,h1,h2,_⟩:=I.list (SqL.of g1)
    exact .lst h2.isList h1 r1
noncomputable def Eq3 (A:Around) (s:Shared) (u z:Value) (b:Bool):Prop:=EqAt A s u z b/\RcAt A s u z b/\RcNeAt A s u z (!b)
theorem Zeh {f:D->D->Option Bool}: ∀ {xs ys:List D} {b:Bool},eqL f xs ys=some b->
  (∀ (j:Nat) x y,xs[j]?=some x->ys[j]?=some y-> ∃ c,f x y=some c)/\
  b=((List.range (min xs.length ys.length)).all (fun j=>match xs[j]?,ys[j]? with | some x,some y=>(f x y).getD false | _,_=>false) && xs.length == ys.length)
 | [],[],b,e=>by
  simp only[eqL,Option.some.injEq] at e
  subst e
  exact ⟨fun j x y h=>(by simp at h),(by simp)⟩
 |x :: xs,[],b,e=>by
  simp only[eqL,Option.some.injEq] at e
  subst e
  exact ⟨fun j x y h1 h2=>(by simp at h2),(by simp)⟩
 | [],y :: ys,b,e=>by
  simp only[eqL,Option.some.injEq] at e
  subst e
  exact ⟨fun j x y h1 h2=>(by simp at h1),(by simp)⟩
 |x :: xs,y :: ys,b,e=>by
  cases e1:f x y with
  |none=>simp only[eqL,e1] at e;cases e
  |some a=>
   cases e2:eqL f xs ys with
   |none=>simp only[eqL,e1,e2] at e;cases e
   |some c=>
    simp only[eqL,e1,e2,Option.some.injEq] at e
    subst e
    obtain ⟨h1,h2⟩:=Zeh e2
    refine ⟨fun j x' y' g1 g2=> ?_,?_⟩
    ·cases j with
     |zero=>
      simp at g1 g2
      subst g1 g2
      exact ⟨a,e1⟩
     |succ j=>
      simp at g1 g2
      exact h1 j x' y' g1 g2
    ·have em:min (x :: xs).length (y :: ys).length=min xs.length ys.length + 1:=by simp only[List.length_cons];omega
     rw[em,List.range_succ_eq_map,List.all_cons,List.all_map,h2]
     simp[e1,Bool.and_assoc,Function.comp_def]
theorem Zfp (I:Inv X pins σ H s) (h:HR X.K H α M): ∀ (n:Nat) {v:V} {x y:D} {b:Bool},Rep X.K H α v x->Rep X.K H α v y->eqF n M x y=some b->b=true:=by
 intro n
 induction n with
 |zero=>intro v x y b _ _ e;simp only[eqF] at e;cases e
 |succ n ih=>
  have lists: ∀ (vs:List V) (xs ys:List D) (b:Bool),Reps X.K H α vs xs->Reps X.K H α vs ys->eqL (eqF n M) xs ys=some b->b=true:=by
   intro vs
   induction vs with
   |nil=>
    intro xs ys b r1 r2 e
    cases r1;cases r2
    simp only[eqL,Option.some.injEq] at e
    exact e.symm
   |cons v vs iv=>
    intro xs ys b r1 r2 e
    cases r1 with
    |cons p1 t1=>
     cases r2 with
     |cons p2 t2=>
      rename_i d1 ds1 d2 ds2
      cases e1:eqF n M d1 d2 with
      |none=>simp only[eqL,e1] at e;cases e
      |some a=>
       cases e2:eqL (eqF n M) ds1 ds2 with
       |none=>simp only[eqL,e1,e2] at e;cases e
       |some c=>
        simp only[eqL,e1,e2,Option.some.injEq] at e
        rw[<- e,ih p1 p2 e1,iv _ _ _ t1 t2 e2]
        rfl
  intro v x y b r1 r2 e
  have nl: ∀ {p:Addr} {xs ys:List V},SqT X.K H p xs->SqL X.K H p ys->False:=fun {p xs ys} a c=>by
   obtain ⟨i1,_,⟨o1,g1,c1,_⟩,_⟩:=I.tuple a
   obtain ⟨i2,_,⟨o2,_,g2,c2,_⟩,_⟩:=I.list c
   rw[g1] at g2
   cases g2
   rw[c1] at c2
   exact absurd c2 (by decide)
  have ll: ∀ {p:Addr} {n:Nat} {ds:List D},RefK H α 0 n p->M[n]?=some (.lst ds)-> ∃ vs,SqL X.K H p vs/\Reps X.K H α vs ds:=fun {p n ds} a c=>by
   obtain ⟨xs,g1,r1⟩:=h.at a c
   exact ⟨xs,SqL.of g1,r1⟩
  cases r1 with
  |non=>cases r2;simp only[eqF,kd,eqK,Option.some.injEq] at e;exact e.symm
  |bl c=>cases r2;simp only[eqF,kd,eqK,Option.some.injEq,beq_self_eq_true] at e;exact e.symm
  |int c=>cases r2;simp only[eqF,kd,eqK,Option.some.injEq,beq_self_eq_true] at e;exact e.symm
  |str c=>cases r2;simp only[eqF,kd,eqK,Option.some.injEq,beq_self_eq_true] at e;exact e.symm
  |err _ _ _=>simp[eqF,kd] at e
  |dk _=>simp[eqF,kd] at e
  |dt _=>simp[eqF,kd] at e
  |fn _=>simp[eqF,kd] at e
  | @tup p xs ds hp rp=>
   cases r2 with
   | @tup _ xs2 ds2 hp2 rp2=>
    cases I.tuple_inj (SqT.of hp) (SqT.of hp2)
    simp only[eqF,kd,eqK] at e
    exact lists _ _ _ _ rp rp2 e
   | @con _ xs2 ds2 hp2 rp2=>
    cases I.tuple_inj (SqT.of hp) hp2.sq
    simp only[eqF,kd,eqK] at e
    exact lists _ _ _ _ rp rp2 e
   | @rol _ xs2 ds2 hp2 rp2=>exact (nl (SqT.of hp) hp2.sq).elim
   |err _ _ _=>simp[eqF,kd] at e
   |dk _=>simp[eqF,kd] at e
   |dt _=>simp[eqF,kd] at e
   |fn _=>simp[eqF,kd] at e
   | @ref _ n2 hp2=>
    obtain ⟨ys,g⟩:=h.some_at hp2
    exact (nl (SqT.of hp) (SqL.of g)).elim
  | @con p xs ds hp rp=>
   cases r2 with
   | @tup _ xs2 ds2 hp2 rp2=>
    cases I.tuple_inj hp.sq (SqT.of hp2)
    simp only[eqF,kd,eqK] at e
    exact lists _ _ _ _ rp rp2 e
   | @con _ xs2 ds2 hp2 rp2=>
    cases I.tuple_inj hp.sq hp2.sq
    simp only[eqF,kd,eqK] at e
    exact lists _ _ _ _ rp rp2 e
   | @rol _ xs2 ds2 hp2 rp2=>exact (nl hp.sq hp2.sq).elim
   |err _ _ _=>simp[eqF,kd] at e
   |dk _=>simp[eqF,kd] at e
   |dt _=>simp[eqF,kd] at e
   |fn _=>simp[eqF,kd] at e
   | @ref _ n2 hp2=>
    obtain ⟨ys,g⟩:=h.some_at hp2
    exact (nl hp.sq (SqL.of g)).elim
  | @rol p xs ds hp rp=>
   cases r2 with
   | @tup _ xs2 ds2 hp2 rp2=>exact (nl (SqT.of hp2) hp.sq).elim
   | @con _ xs2 ds2 hp2 rp2=>exact (nl hp2.sq hp.sq).elim
   |err _ _ _=>simp[eqF,kd] at e
   |dk _=>simp[eqF,kd] at e
   |dt _=>simp[eqF,kd] at e
   |fn _=>simp[eqF,kd] at e
   | @rol _ xs2 ds2 hp2 rp2=>
    cases I.list_inj hp.sq hp2.sq
    simp only[eqF,kd,eqK,if_pos (rp.length.symm.trans rp2.length)] at e
    exact lists _ _ _ _ rp rp2 e
   | @ref _ n2 hp2=>
    cases e1:M[n2]? with
    |none=>simp only[eqF,kd,e1] at e;cases e
    |some o=>
     cases o with
     |lst ds2=>
      obtain ⟨ys,g,r⟩:=ll hp2 e1
      cases I.list_inj hp.sq g
      simp only[eqF,kd,e1,eqK,if_pos (rp.length.symm.trans r.length)] at e
      exact lists _ _ _ _ rp r e
  | @ref p n1 hp=>
   cases e0:M[n1]? with
   |none=>simp only[eqF,kd,e0] at e;cases e
   |some o0=>
    cases o0 with
    |lst ds=>
     obtain ⟨xs,g0,rp⟩:=ll hp e0
     cases r2 with
     | @tup _ xs2 ds2 hp2 rp2=>exact (nl (SqT.of hp2) g0).elim
     | @con _ xs2 ds2 hp2 rp2=>exact (nl hp2.sq g0).elim
     |err _ _ _=>simp[eqF,kd,e0] at e
     |dk _=>simp[eqF,kd,e0] at e
     |dt _=>simp[eqF,kd,e0] at e
     |fn _=>simp[eqF,kd,e0] at e
     | @rol _ xs2 ds2 hp2 rp2=>
      cases I.list_inj g0 hp2.sq
      simp only[eqF,kd,e0,eqK,if_pos (rp.length.symm.trans rp2.length)] at e
      exact lists _ _ _ _ rp rp2 e
     | @ref _ n2 hp2=>
      cases e1:M[n2]? with
      |none=>simp only[eqF,kd,e0,e1] at e;cases e
      |some o=>
       cases o with
       |lst ds2=>
        obtain ⟨ys,g,r⟩:=ll hp2 e1
        cases I.list_inj g0 g
        simp only[eqF,kd,e0,e1,eqK,if_pos (rp.length.symm.trans r.length)] at e
        exact lists _ _ _ _ rp r e
end
end DL
end
section
namespace DL
open PySem PySem.Spec PyProof.Rows L2
open PySem.SeqAt (EqAt RcAt RcNeAt)
section
variable {X:Cx} {ξ:XK} {pins:List (Addr × Obj)} {σ:L2.St} {H:Hp} {s:Shared} {α:List Addr} {M:Sto}
theorem ZcZ {A:Around} {n:Nat} {xs1 xs2:List V} {ds1 ds2:List D} {i1 i2:List Value} {b:Bool} (v1:ZF xs1 i1) (v2:ZF xs2 i2) (r1:Reps X.K H α xs1 ds1) (r2:Reps X.K H α xs2 ds2)
  (ih: ∀ (x y:D) (v w:V) (u z:Value) (b:Bool),eqF n M x y=some b->Rep X.K H α v x->Rep X.K H α w y->Zz v u->Zz w z->EqAt A s u z b) (e:eqL (eqF n M) ds1 ds2=some b):
  ∃ f:Nat->Bool,(∀ (j:Nat) (h1:j < i1.toArray.size) (h2:j < i2.toArray.size),EqAt A s i1.toArray[j] i2.toArray[j] (f j))/\b=((List.range (min i1.toArray.size i2.toArray.size)).all f && i1.toArray.size == i2.toArray.size):=by
 obtain ⟨g1,g2⟩:=Zeh e
 have l1:i1.toArray.size=ds1.length:=by rw[List.size_toArray,<- v1.length,r1.length]
 have l2:i2.toArray.size=ds2.length:=by rw[List.size_toArray,<- v2.length,r2.length]
 refine ⟨_,fun j h1 h2=> ?_,by rw[l1,l2];exact g2⟩
 have k1:j < ds1.length:=by rw[<- l1];exact h1
 have k2:j < ds2.length:=by rw[<- l2];exact h2
 obtain ⟨c,hc⟩:=g1 j _ _ (List.getElem?_eq_getElem k1) (List.getElem?_eq_getElem k2)
 obtain ⟨v,a1,a2⟩:=r1.get (List.getElem?_eq_getElem k1)
 obtain ⟨w,b1,b2⟩:=r2.get (List.getElem?_eq_getElem k2)
 obtain ⟨u,a3,a4⟩:=v1.get a1
 obtain ⟨z,b3,b4⟩:=v2.get b1
 have q:=ih _ _ v w u z c hc a2 b2 a4 b4
 simp only[List.getElem?_eq_getElem k1,List.getElem?_eq_getElem k2,hc,Option.getD_some]
 have e1:i1.toArray[j]=u:=by
  have:=List.getElem?_eq_some_iff.mp a3
  obtain ⟨_,z⟩:=this
  simpa using z
 have e2:i2.toArray[j]=z:=by
  have:=List.getElem?_eq_some_iff.mp b3
  obtain ⟨_,z⟩:=this
  simpa using z
 rw[e1,e2]
 exact q
theorem Zei (I:Inv X pins σ H s) (h:HR X.K H α M) {n:Nat} {x y:D} {v w:V} {p q:Addr} {b:Bool} {A:Around} (e:eqF n M x y=some b) (rx:Rep X.K H α v x) (ry:Rep X.K H α w y) (rv:Zz v (.ref p)) (rw':Zz w (.ref q))
  (k:RcAt A s (.ref p) (.ref q) b) (k':RcNeAt A s (.ref p) (.ref q) (!b)):Eq3 A s (.ref p) (.ref q) b:=by
 refine ⟨?_,k,k'⟩
 by_cases c:p=q
 ·subst c
  cases Zz.inj rv rw'
  rw[Zfp I h n rx ry e]
  exact EqAt.same _
 ·exact EqAt.of_refs c k
theorem eq3 (I:Inv X pins σ H s) (h:HR X.K H α M): ∀ (n:Nat) (x y:D) (v w:V) (u z:Value) (b:Bool) (A:Around),A.units + n < cLine->eqF n M x y=some b->Rep X.K H α v x->Rep X.K H α w y->Zz v u->Zz w z->Eq3 A s u z b:=by
 intro n
 induction n with
 |zero=>intro x y v w u z b A _ e;simp only[eqF] at e;cases e
 |succ n ih=>
  intro x y v w u z b A hn e rx ry rv rw'
  have hu:A.units < cLine:=by omega
  have e0:=e
  unfold eqF at e
  cases ka:kd M x with
  |none=>rw[ka] at e;cases e
  |some ka'=>
   cases kb:kd M y with
   |none=>rw[ka,kb] at e;cases e
   |some kb'=>
    rw[ka,kb] at e
    have va:=vw I h rx rv ka
    have vb:=vw I h ry rw' kb
    have deep: ∀ (x y:D) (v w:V) (u z:Value) (b:Bool),eqF n M x y=some b->Rep X.K H α v x->Rep X.K H α w y->Zz v u->Zz w z->EqAt A.in1 s u z b:=fun x y v w u z b e a1 a2 a3 a4=>
     (ih x y v w u z b A.in1 (by rw[Around.in1_units];omega) e a1 a2 a3 a4).1
    cases va with
    |non=>
     cases vb<;>simp only[eqK,Option.some.injEq] at e<;>subst e
     ·exact ⟨EqAt.same _,.none_none,.none_none⟩
     ·exact ⟨.none_bool _,.none_bool _,.none_bool _⟩
     ·exact ⟨.none_int _ _,.none_int _ _,.none_int _ _⟩
     ·exact ⟨.none_str _ _,.none_str _ _,.none_str _ _⟩
     ·rename_i g _ _;exact ⟨.none_tuple g hu,.none_tuple g hu,.none_tuple g hu⟩
     ·rename_i g _ _;exact ⟨.none_list g hu,.none_list g hu,.none_list g hu⟩
    |bl c=>
     cases vb<;>simp only[eqK,Option.some.injEq] at e<;>subst e
     ·exact ⟨.bool_none _,.bool_none _,.bool_none _⟩
     ·exact ⟨.bool_bool _ _,.bool_bool _ _,.bool_bool _ _⟩
     ·exact ⟨.bool_int _ _ _,.bool_int _ _ _,.bool_int _ _ _⟩
     ·exact ⟨.bool_str _ _ _,.bool_str _ _ _,.bool_str _ _ _⟩
     ·rename_i g _ _;exact ⟨.bool_tuple _ g hu,.bool_tuple _ g hu,.bool_tuple _ g hu⟩
     ·rename_i g _ _;exact ⟨.bool_list _ g hu,.bool_list _ g hu,.bool_list _ g hu⟩
    |int c t=>
     cases vb<;>simp only[eqK,Option.some.injEq] at e<;>subst e
     ·exact ⟨.int_none _ _,.int_none _ _,.int_none _ _⟩
     ·exact ⟨.int_bool _ _ _,.int_bool _ _ _,.int_bool _ _ _⟩
     ·exact ⟨.int_int _ _ _ _,.int_int _ _ _ _,.int_int _ _ _ _⟩
     ·exact ⟨.int_str _ _ _ _,.int_str _ _ _ _,.int_str _ _ _ _⟩
     ·rename_i g _ _;exact ⟨.int_tuple _ _ g hu,.int_tuple _ _ g hu,.int_tuple _ _ g hu⟩
     ·rename_i g _ _;exact ⟨.int_list _ _ g hu,.int_list _ _ g hu,.int_list _ _ g hu⟩
    |str c t=>
     cases vb<;>simp only[eqK,Option.some.injEq] at e<;>subst e
     ·exact ⟨.str_none _ _,.str_none _ _,.str_none _ _⟩
     ·exact ⟨.str_bool _ _ _,.str_bool _ _ _,.str_bool _ _ _⟩
     ·exact ⟨.str_int _ _ _ _,.str_int _ _ _ _,.str_int _ _ _ _⟩
     ·exact ⟨.str_str _ _ _ _,.str_str _ _ _ _,.str_str _ _ _ _⟩
     ·rename_i g _ _;exact ⟨.str_tuple _ _ g hu,.str_tuple _ _ g hu,.str_tuple _ _ g hu⟩
     ·rename_i g _ _;exact ⟨.str_list _ _ g hu,.str_list _ _ g hu,.str_list _ _ g hu⟩
    | @tup p xs ds its g1 w1 q1=>
     cases vb with
     | @tup p2 xs2 ds2 its2 g2 w2 q2=>
      simp only[eqK] at e
      obtain ⟨f,hf,hb⟩:=ZcZ w1 w2 q1 q2 deep e
      subst hb
      exact Zei I h e0 rx ry rv rw' (.tuples g1 g2 hu hf) (.tuples g1 g2 hu hf)
     | @lst p2 xs2 ds2 its2 g2 w2 q2=>
      simp only[eqK,Option.some.injEq] at e
      subst e
      exact Zei I h e0 rx ry rv rw' (.tuple_list g1 g2 hu) (.tuple_list g1 g2 hu)
     |non=>simp only[eqK,Option.some.injEq] at e;subst e;exact ⟨.tuple_none g1 hu,.tuple_none g1 hu,.tuple_none g1 hu⟩
     |bl c=>simp only[eqK,Option.some.injEq] at e;subst e;exact ⟨.tuple_bool _ g1 hu,.tuple_bool _ g1 hu,.tuple_bool _ g1 hu⟩
     |int c t=>simp only[eqK,Option.some.injEq] at e;subst e;exact ⟨.tuple_int _ _ g1 hu,.tuple_int _ _ g1 hu,.tuple_int _ _ g1 hu⟩
     |str c t=>simp only[eqK,Option.some.injEq] at e;subst e;exact ⟨.tuple_str _ _ g1 hu,.tuple_str _ _ g1 hu,.tuple_str _ _ g1 hu⟩
    | @lst p xs ds its g1 w1 q1=>
     cases vb with
     | @lst p2 xs2 ds2 its2 g2 w2 q2=>
      simp only[eqK] at e
      have l1:its.toArray.size=ds.length:=by rw[List.size_toArray,<- w1.length,q1.length]
      have l2:its2.toArray.size=ds2.length:=by rw[List.size_toArray,<- w2.length,q2.length]
      by_cases c:ds.length=ds2.length
      ·rw[if_pos c] at e
       have hs:its.toArray.size=its2.toArray.size:=by rw[l1,l2,c]
       obtain ⟨f,hf,hb⟩:=ZcZ w1 w2 q1 q2 deep e
       rw[hs,Nat.min_self,beq_self_eq_true,Bool.and_true,<- hs] at hb
       subst hb
       exact Zei I h e0 rx ry rv rw' (.lists g1 g2 hs hu hf) (.lists g1 g2 hs hu hf)
      ·rw[if_neg c] at e
       have e':false=b:=Option.some.inj e
       subst e'
       have hs:(its.toArray.size != its2.toArray.size)=true:=by rw[l1,l2];simpa using c
       exact Zei I h e0 rx ry rv rw' (.lists_lengths g1 g2 hs hu) (.lists_lengths g1 g2 hs hu)
     | @tup p2 xs2 ds2 its2 g2 w2 q2=>
      simp only[eqK,Option.some.injEq] at e
      subst e
      exact Zei I h e0 rx ry rv rw' (.list_tuple g1 g2 hu) (.list_tuple g1 g2 hu)
     |non=>simp only[eqK,Option.some.injEq] at e;subst e;exact ⟨.list_none g1 hu,.list_none g1 hu,.list_none g1 hu⟩
     |bl c=>simp only[eqK,Option.some.injEq] at e;subst e;exact ⟨.list_bool _ g1 hu,.list_bool _ g1 hu,.list_bool _ g1 hu⟩
     |int c t=>simp only[eqK,Option.some.injEq] at e;subst e;exact ⟨.list_int _ _ g1 hu,.list_int _ _ g1 hu,.list_int _ _ g1 hu⟩
     |str c t=>simp only[eqK,Option.some.injEq] at e;subst e;exact ⟨.list_str _ _ g1 hu,.list_str _ _ g1 hu,.list_str _ _ g1 hu⟩
end
section
variable {X:Cx} {ξ:XK}
noncomputable def Zk6 (X:Cx) (neg:Bool):R2:=fun v w H Q=> ∃ α M x y b,HR X.K H α M/\Rep X.K H α v x/\Rep X.K H α w y/\eqF 12 M x y=some b/\Q (.bl (neg ^^ b)) H
theorem Zf9 (hu:X.A.units + 64 < cLine):OpR X (compareOp .Eq) (Zk6 X false):=by
 intro pins s σ H v w u z Q I rv rw' ⟨α,M,x,y,b,h,rx,ry,e,q⟩
 refine (eq3 I h 12 x y v w u z b X.A (by omega) e rx ry rv rw').2.1 _ _ _ _ ⟨.bl b,H,I,rfl,?_⟩
 simpa using q
theorem Zej (hu:X.A.units + 64 < cLine):OpR X (compareOp .NotEq) (Zk6 X true):=by
 intro pins s σ H v w u z Q I rv rw' ⟨α,M,x,y,b,h,rx,ry,e,q⟩
 refine (eq3 I h 12 x y v w u z b X.A (by omega) e rx ry rv rw').2.2 _ _ _ _ ⟨.bl (!b),H,I,rfl,?_⟩
 simpa using q
noncomputable def dEq:Bo:=fun x y M=>match eqF 12 M x y with | some b=> .ok (.bl b) M | none=> .bad
noncomputable def dNe:Bo:=fun x y M=>match eqF 12 M x y with | some b=> .ok (.bl (!b)) M | none=> .bad
theorem Zi2:BO X ξ (Zk6 X false) dEq:=by
 intro H α M v w x y Q h rv rw' q
 unfold dEq at q
 cases e:eqF 12 M x y with
 |none=>rw[e] at q;exact q.elim
 |some b=>rw[e] at q;exact ⟨α,M,x,y,b,h,rv,rw',e,by simpa using q _ H α Ext.refl h (.bl b)⟩
theorem Zg6:BO X ξ (Zk6 X true) dNe:=by
 intro H α M v w x y Q h rv rw' q
 unfold dNe at q
 cases e:eqF 12 M x y with
 |none=>rw[e] at q;exact q.elim
 |some b=>rw[e] at q;exact ⟨α,M,x,y,b,h,rv,rw',e,by simpa using q _ H α Ext.refl h (.bl (!b))⟩
noncomputable def isP:D->D->Option Bool
 | .non,.non=>some true
 | .bl a,.bl b=>some (a == b)
 |_,.non=>some false
 |_,.bl _=>some false
 |_,_=>none
noncomputable def dIs:Bo:=fun x y M=>match isP x y with | some b=> .ok (.bl b) M | none=> .bad
noncomputable def Zga:Bo:=fun x y M=>match isP x y with | some b=> .ok (.bl (!b)) M | none=> .bad
noncomputable def Zi3:D->Bool
 | .non=>true
 | .bl _=>true
 | .int _=>true
 | .str _=>true
 |_=>false
noncomputable def Zoy:D->D->Bool
 | .non,.non=>true
 | .bl a,.bl b=>a == b
 | .bl a,.int b=>(if a then 1 else 0) == b
 | .int a,.bl b=>a == (if b then 1 else 0)
 | .int a,.int b=>a == b
 | .str a,.str b=>a == b
 |_,_=>false
noncomputable def Zfq (M:Sto):D->Option (List D)
 | .tup xs=>some xs
 | .rol xs=>some xs
 | .con xs=>some xs
 | .ref n=>match M[n]? with | some (.lst xs)=>some xs | _=>none
 |_=>none
theorem Zg7 {K:PySem.W.Frag} {H:Hp} {α:List Addr} {M:Sto} (h:HR K H α M) {v:V} {x:D} {ds:List D} (r:Rep K H α v x) (e:Zfq M x=some ds): ∃ p xs,v= .ref p/\(SqL K H p xs\/SqT K H p xs)/\Reps K H α xs ds:=by
 cases r with
 | @tup p xs ds hp rp=>cases e;exact ⟨p,xs,rfl,.inr (SqT.of hp),rp⟩
 | @con p xs ds hp rp=>cases e;exact ⟨p,xs,rfl,.inr hp.sq,rp⟩
 | @rol p xs ds hp rp=>cases e;exact ⟨p,xs,rfl,.inl hp.sq,rp⟩
 | @ref p n hp=>
  cases e1:M[n]? with
  |none=>simp only[Zfq,e1] at e;cases e
  |some o=>
   cases o with
   |lst es=>
    simp only[Zfq,e1] at e
    cases e
    obtain ⟨xs,g1,r1⟩:=h.at hp e1
    exact ⟨p,xs,rfl,.inl (SqL.of g1),r1⟩
 |_=>cases e
noncomputable def inD (x y:D) (M:Sto):Option Bool:=match Zfq M y with | some ds=>if Zi3 x=true/\ds.all Zi3=true then some (ds.any fun y=>Zoy y x) else none | none=>none
variable {e:Expr} {es:List Expr} {fs:Av} {fa:Ev} {p pos:Pos} {x:Str} {id T:String} {r:List V->Hp->VK->Prop} {f:List D->Sto->Out D}
noncomputable def Zm (f:List D->Sto->Out D) (fs:Av):Ev:=fun ρ M=>(fs ρ M).bind f
noncomputable def CO (X:Cx) (ξ:XK) (r:List V->Hp->VK->Prop) (f:List D->Sto->Out D):Prop:= ∀ H α M vs ds Q,HR X.K H α M->Reps X.K H α vs ds->OP X.K H α ξ Q (f ds M)->r vs H Q
theorem Zp (hc:ZaV X (.builtin id) r) (hf:CO X ξ r f) (hm:X.mg x=none) (hv:bootBuiltins x=some (.builtin id)) (ha:DA X ξ (e :: es) fs) (hg:Gl X x:=by rfl) (hn:x≠"__name__":=by decide) (hdb:(x == ("__debug__":Str))=false:=by decide)
  (he:starEach (e :: es) X.env=(false,eval e X.env) :: starEach es X.env:=by rfl) (hpl:(backTo pos (starEach es X.env)).any (·.1)=false:=by rfl):DE X ξ (.Call (.Name x p) (e :: es) [] pos) (Zm f fs):=by
 obtain ⟨ta,ha,qa⟩:=ha
 refine ⟨_,ZcX hc hg hm hv ha hn hdb he hpl,fun σ ρ H α M Q s h q=> ?_⟩
 exact qa σ ρ H α M _ s h (OG.seq q fun ds M1 vs H1 α1 e1 h1 r1 q1=>hf H1 α1 M1 vs ds Q h1 r1 q1)
theorem Zek (hc:ZaV X (.type T) r) (hf:CO X ξ r f) (hm:X.mg x=none) (hv:bootBuiltins x=some (.type T)) (ha:DA X ξ (e :: es) fs) (hg:Gl X x:=by rfl) (hn:x≠"__name__":=by decide) (hdb:(x == ("__debug__":Str))=false:=by decide)
  (he:starEach (e :: es) X.env=(false,eval e X.env) :: starEach es X.env:=by rfl) (hpl:(backTo pos (starEach es X.env)).any (·.1)=false:=by rfl):DE X ξ (.Call (.Name x p) (e :: es) [] pos) (Zm f fs):=by
 obtain ⟨ta,ha,qa⟩:=ha
 refine ⟨_,ZdX hc hg hm hv ha hn hdb he hpl,fun σ ρ H α M Q s h q=> ?_⟩
 exact qa σ ρ H α M _ s h (OG.seq q fun ds M1 vs H1 α1 e1 h1 r1 q1=>hf H1 α1 M1 vs ds Q h1 r1 q1)
noncomputable def bLen:List D->Sto->Out D:=fun ds M=>match ds with
 | [x]=>match Zfq M x with | some xs=> .ok (.int xs.length) M | none=> .bad
 |_=> .bad
theorem Zgb:CO X ξ (fun xs H Q=> ∃ p ys,xs=[.ref p]/\(SqL X.K H p ys\/SqT X.K H p ys)/\Q (.int ys.length) H) bLen:=by
 intro H α M vs ds Q h rs q
 unfold bLen at q
 cases rs with
 |nil=>exact q.elim
 | @cons v x vs ds r t=>
  cases t with
  |cons _ _=>exact q.elim
  |nil=>
  cases e:Zfq M x with
  |none=>simp only[e] at q;exact q.elim
  |some ys=>
   simp only[e] at q
   obtain ⟨p,xs,rfl,h2,h3⟩:=Zg7 h r e
   exact ⟨p,xs,rfl,h2,by rw[h3.length];exact q _ H α Ext.refl h (.int _)⟩
noncomputable def bAbs:List D->Sto->Out D:=fun ds M=>match ds with | [.int i]=> .ok (.int (if i < 0 then -i else i)) M | _=> .bad
theorem Zgc:CO X ξ (fun xs H Q=> ∃ i,xs=[.int i]/\Q (.int (if i < 0 then -i else i)) H) bAbs:=by
 intro H α M vs ds Q h rs q
 unfold bAbs at q
 split at q
 ·cases rs with
  |cons r t=>
   cases t
   cases r
   exact ⟨_,rfl,q _ H α Ext.refl h (.int _)⟩
 ·exact q.elim
noncomputable def bMax:List D->Sto->Out D:=fun ds M=>match ds with | [.int i,.int j]=> .ok (.int (if j > i then j else i)) M | _=> .bad
noncomputable def bMin:List D->Sto->Out D:=fun ds M=>match ds with | [.int i,.int j]=> .ok (.int (if j < i then j else i)) M | _=> .bad
theorem Zgd {g:Int->Int->Int} {f:List D->Sto->Out D} (hf: ∀ ds M,f ds M=match ds with | [.int i,.int j]=> .ok (.int (g i j)) M | _=> .bad):CO X ξ (fun xs H Q=> ∃ i j,xs=[.int i,.int j]/\Q (.int (g i j)) H) f:=by
 intro H α M vs ds Q h rs q
 rw[hf] at q
 split at q
 ·rename_i i j
  cases rs with
  |cons r t=>
   cases t with
   |cons r' t'=>
    cases t'
    cases r
    cases r'
    exact ⟨i,j,rfl,q _ H α Ext.refl h (.int _)⟩
 ·exact q.elim
theorem ZbS:CO X ξ (fun xs H Q=> ∃ i j,xs=[.int i,.int j]/\Q (.int (if j > i then j else i)) H) bMax:=Zgd (g:=fun i j=>if j > i then j else i) fun ds M=>rfl
theorem ZbT:CO X ξ (fun xs H Q=> ∃ i j,xs=[.int i,.int j]/\Q (.int (if j < i then j else i)) H) bMin:=Zgd (g:=fun i j=>if j < i then j else i) fun ds M=>rfl
noncomputable def bInt:List D->Sto->Out D:=fun ds M=>match ds with | [.int i]=> .ok (.int i) M | [.bl k]=> .ok (.int (if k then 1 else 0)) M | _=> .bad
theorem Zi4:CO X ξ (fun xs H Q=>(∃ i,xs=[.int i]/\Q (.int i) H)\/ ∃ k,xs=[.bl k]/\Q (.int (if k then 1 else 0)) H) bInt:=by
 intro H α M vs ds Q h rs q
 unfold bInt at q
 split at q
 ·cases rs with
  |cons r t=>
   cases t
   cases r
   exact .inl ⟨_,rfl,q _ H α Ext.refl h (.int _)⟩
 ·cases rs with
  |cons r t=>
   cases t
   cases r
   exact .inr ⟨_,rfl,q _ H α Ext.refl h (.int _)⟩
 ·exact q.elim
noncomputable def Zg8:List D->Sto->Out D:=fun ds M=>match ds with
 | [x]=>match Zfq M x with | some xs=> .ok (.ref M.length) (M ++ [.lst xs]) | none=> .bad
 |_=> .bad
noncomputable def Zad (M:Sto) (x:D):Option String:=match kd M x with
 |some .non=>some "NoneType"
 |some (.bl _)=>some "bool"
 |some (.int _)=>some "int"
 |some (.str _)=>some "str"
 |some (.tup _)=>some "tuple"
 |some (.lst _)=>some "list"
 |none=>none
noncomputable def Za6 (t T:String):Bool:=t == T || (t == "bool" && T == "int")
noncomputable def Zk7 (T:String) (f:Ev):Ev:=fun ρ M=>(f ρ M).bind fun x M1=>match Zad M1 x with | some t=> .ok (.bl (Za6 t T)) M1 | none=> .bad
noncomputable def Zoz (X:Cx) (T:String):List V->Hp->VK->Prop:=fun vs H Q=> ∃ v α M x t,vs=[v,.ty T]/\HR X.K H α M/\Rep X.K H α v x/\Zad M x=some t/\Q (.bl (Za6 t T)) H
structure Kit (K:PySem.W.Frag) (T:String):Prop where
 non:PySem.W.kitOne K (.type "NoneType") (.type T)=some (Za6 "NoneType" T)
 bl:PySem.W.kitOne K (.type "bool") (.type T)=some (Za6 "bool" T)
 int:PySem.W.kitOne K (.type "int") (.type T)=some (Za6 "int" T)
 str:PySem.W.kitOne K (.type "str") (.type T)=some (Za6 "str" T)
 tup:PySem.W.kitOne K (.type "tuple") (.type T)=some (Za6 "tuple" T)
 lst:PySem.W.kitOne K (.type "list") (.type T)=some (Za6 "list" T)
theorem Zfr {K:PySem.W.Frag}:Kit K "list":=⟨rfl,rfl,rfl,rfl,rfl,rfl⟩
theorem Zfs (kt:Kit X.K T):ZaV X (.builtin "isinstance") (Zoz X T):=by
 intro pins s σ H vs us Q I rs ⟨v,α,M,x,t,e1,h,rx,et,q⟩
 subst e1
 obtain ⟨u,w,rfl,ru,rw'⟩:=ZgQ rs
 cases rw'
 unfold Zad at et
 cases ek:kd M x with
 |none=>rw[ek] at et;cases et
 |some k=>
  rw[ek] at et
  have va:=vw I h rx ru ek
  have fin: ∀ tk,EP X pins σ Q (.bool (Za6 t T)) { s with toks:=tk }:=fun tk=>⟨.bl _,H,I.tok tk,rfl,q⟩
  cases va with
  |non=>cases et;exact PySem.W.kia_one PySem.W.kitx_none I.kIn True.intro kt.non (fun z=>nomatch z) fin
  |bl b=>cases et;exact PySem.W.kia_one PySem.W.kitx_bool I.kIn True.intro kt.bl (fun z=>nomatch z) fin
  |int i t=>cases et;exact PySem.W.kia_one PySem.W.kitx_int I.kIn True.intro kt.int (fun z=>nomatch z) fin
  |str i t=>cases et;exact PySem.W.kia_one PySem.W.kitx_str I.kIn True.intro kt.str (fun z=>nomatch z) fin
  |tup g _ _=>cases et;obtain ⟨o,h1,h2,_⟩:=g;exact PySem.W.kia_one PySem.W.kitx_tuple I.kIn ⟨o,h1,h2⟩ kt.tup (fun z=>nomatch z) fin
  |lst g _ _=>cases et;obtain ⟨o,h1,h2,_⟩:=g;exact PySem.W.kia_one PySem.W.kitx_list I.kIn ⟨o,h1,h2⟩ kt.lst (fun z=>nomatch z) fin
theorem Zi5 {y:Str} {p2:Pos} (kt:Kit X.K T) (hm:X.mg "isinstance"=none) (hmT:X.mg y=none) (hvT:bootBuiltins y=some (.type T)) (ha:DE X ξ e fa) (hg:Gl X "isinstance":=by rfl) (hgT:Gl X y:=by rfl) (hn:y≠"__name__":=by decide) (hdb:(y == ("__debug__":Str))=false:=by decide)
  (he:starEach [e,.Name y p2] X.env=(false,eval e X.env) :: starEach [.Name y p2] X.env:=by rfl) (he2:starEach [.Name y p2] X.env=(false,eval (.Name y p2) X.env) :: starEach [] X.env:=by rfl) (hpl:(backTo pos (starEach [.Name y p2] X.env)).any (·.1)=false:=by rfl):DE X ξ (.Call (.Name "isinstance" p) [e,.Name y p2] [] pos) (Zk7 T fa):=by
 obtain ⟨ta,ha,qa⟩:=ha
 refine ⟨_,ZcX (Zfs kt) hg hm (by with_unfolding_all rfl) (Zcw ha (Zcw (ZgE hgT hmT hvT (v:= .ty T) rfl hn hdb) Zf2 he2) he) (by decide) (by decide) he hpl,fun σ ρ H α M Q s h q=> ?_⟩
 refine qa σ ρ H α M _ s h (OG.seq q fun x M1 v H1 α1 e1 h1 r1 q1=> ?_)
 cases et:Zad M1 x with
 |none=>simp only[et] at q1;exact q1.elim
 |some t=>
  simp only[et] at q1
  exact ⟨v,α1,M1,x,t,rfl,h1,r1,et,q1 _ H1 α1 Ext.refl h1 (.bl _)⟩
end
end DL
end
section
namespace DL
open PySem PySem.Spec PyProof.Rows L2
noncomputable def CXE (P:Program) (w:World):CXT:=fun outer H s E e s'=> ∃ (ea C:Addr) (dct:Option Addr) (B:Heap) (H':Hp),e= .ref ea/\s'.os=s.os/\AllBare s'.gens/\Un (frs outer) [] H H' s.heap s'.heap/\HOk P w H' s'.heap/\
 DQ.Fly B outer ea (.ref C) dct .none s'.heap/\(∀ b u,H' b=some u-> ∃ o,B.get? b=some o)/\(∀ b o,s.heap.get? b=some o->b ∉ frs outer-> ∃ o',B.get? b=some o')/\E (.ref C) dct H'
structure Thr (X:Cx) (ξ:XK):Prop where
 own:PassesOwn (model X.prog X.w) X.A X.env X.xe
 ps:ZdV (CXE X.prog X.w) X ξ
 mak: ∀ (pins:List (Addr × Obj)) (σ:L2.St) (H:Hp) (s:Shared) (h':Heap) (e:Addr) (oe:Obj) (vs:Array Value) (C:Addr),Inv X pins σ H s->(∀ b o,s.heap.get? b=some o->h'.get? b=some o)->s.heap.get? e=none->h'.get? e=some oe->oe.cls= .ref C->oe.dict=none->
  oe.data= .fields vs->vs[1]?=some .none->vs[2]?=some .none->ξ (.ref C) none H->X.xe (.ref e) { s with heap:=h' }
theorem ZbU {h b1 b2:Heap}: ∀ {l:List Env},h.FunFrames b1 l->(∀ b∈frs l,b2.get? b=none)->h.FunFrames b2 l
 | [],_,_=>trivial
 |env :: r,⟨h1,⟨L,o,h2,h3,h4,h5⟩,h6⟩,k=>⟨h1,⟨L,o,h2,k L (by unfold frs;rw[List.filterMap_cons,h2];exact List.mem_cons_self),h4,h5⟩,ZbU h6 fun b hb=>k b (by
   unfold frs
   rw[List.filterMap_cons,h2]
   exact List.mem_cons_of_mem _ hb)⟩
section
variable {X:Cx} {pins:List (Addr × Obj)} {σ:L2.St} {H H':Hp} {s:Shared} {h1 h2 B:Heap}
theorem Zge (hx:X.ex=[]) (I:Inv X pins σ H s) (u:Un (frs X.stack) [] H H' s.heap h1) (hok:HOk X.prog X.w H' h1) (t1: ∀ b q,H' b=some q-> ∃ o,B.get? b=some o) (t2: ∀ b o,s.heap.get? b=some o->b ∉ frs X.stack-> ∃ o',B.get? b=some o')
  (st1:B.StaysIn h1) (st2:B.StaysIn h2) (up:h1.UpToSlots h2):Un X.fs [] X.H₀ H' X.s₀.heap h2/\HOk X.prog X.w H' h2/\ ∀ b o,X.s₀.heap.get? b=some o->b ∉ X.fs-> ∃ o',B.get? b=some o':=by
 have kB: ∀ b ob o,B.get? b=some ob->h1.get? b=some o->h2.get? b=some o:=fun b ob o e x=>by
  have z:=st1 b ob e
  rw[x] at z
  cases z
  exact st2 b _ e
 have nx: ∀ b,b ∉ X.ex:=fun b=>by rw[hx];simp
 have nL: ∀ b o,X.s₀.heap.get? b=some o->b ∉ X.fs->b ∉ frs X.stack:=fun b o e n z=>by
  rcases List.mem_cons.mp (I.stkSub b z) with q | q
  ·exact absurd (Heap.lt_size e) (by rw[q];exact Nat.not_lt_of_le I.ok.above)
  ·exact n q
 have th: ∀ b o,X.s₀.heap.get? b=some o->b ∉ X.fs-> ∃ o',B.get? b=some o':=fun b o e n=>by
  obtain ⟨o',e'⟩:=I.base.there b o e (nx b)
  exact t2 b o' e' (nL b o e n)
 have sl: ∀ b o,X.s₀.heap.get? b=some o->X.H₀ b=none->b∈X.fs-> ∃ sl,h2.get? b=some { o with slots:=sl }:=fun b o e n hb=>by
  obtain ⟨s1,e1⟩:=I.base.slot b o e n hb (nx b)
  obtain ⟨s2,e2⟩:=u.any e1 (I.base.free b o e n (nx b)) (by simp)
  obtain ⟨_,o',g1,g2⟩:=I.ok.funs.mem hb
  rw[e] at g1
  cases g1
  obtain ⟨s3,e3⟩:=up b _ e2 g2
  exact ⟨s3,e3⟩
 refine ⟨⟨fun b o e n hb _=> ?_,fun b o e n hb _=>sl b o e n hb,fun b o e n _=> ?_,fun b o e _=> ?_,fun b xs e=>u.tups b xs (I.base.tups b xs e),fun b o xs e=>u.frzs b o xs (I.base.frzs b o xs e),fun b ps e=> ?_⟩,fun a o e=> ?_,th⟩
 ·obtain ⟨ob,g⟩:=th b o e hb
  exact kB b ob o g (u.keep b o (I.base.keep b o e n hb (nx b)) (I.base.free b o e n (nx b)) (nL b o e hb) (by simp))
 ·obtain ⟨o',e'⟩:=I.base.there b o e (nx b)
  exact u.free b o' e' (I.base.free b o e n (nx b)) (by simp)
 ·by_cases hb:b∈X.fs
  ·obtain ⟨s1,e1⟩:=sl b o e (I.ok.frf b hb) hb
   exact ⟨_,e1⟩
  ·obtain ⟨ob,g⟩:=th b o e hb
   exact ⟨ob,st2 b ob g⟩
 ·obtain ⟨m1,e1⟩:=I.base.tbls b ps e
  obtain ⟨m2,e2⟩:=u.tbls b _ e1
  exact ⟨m1 ++ m2,by rw[e2,Array.append_assoc]⟩
 ·refine (hok a o e).stay (fun b q hb x=> ?_) (fun _ q=>q) fun _ _ q=>q
  have tr: ∃ q,H' b=some q:=by
   rcases hb with z | z
   ·exact ⟨o,z ▸ e⟩
   ·exact ⟨_,z⟩
  obtain ⟨q',z⟩:=tr
  obtain ⟨ob,g⟩:=t1 b q' z
  exact kB b ob q g x
end
theorem Zft {P:Program} {w:World} {H:Hp} {h:Heap} {a:Addr} {o:HO} (x:Z1 P w H h a o): ∃ ob,h.get? a=some ob:=by
 cases o with
 |lst xs=>obtain ⟨_,_,_,_,e⟩:=x;exact ⟨_,e⟩
 |tup xs=>obtain ⟨_,_,_,ob,e,_⟩:=x;exact ⟨_,e⟩
 |dK kvs=>obtain ⟨_,_,_,_,o,_,_,e,_⟩:=x;exact ⟨_,e⟩
 |dT kvs=>obtain ⟨_,_,_,_,o,_,_,e,_⟩:=x;exact ⟨_,e⟩
 |set S n=>obtain ⟨o,_,_,_,e,_⟩:=x;exact ⟨_,e⟩
 |ins C dx fs=>obtain ⟨_,_,_,e,_⟩:=x;exact ⟨_,e⟩
 |own y=>exact x
 |xd fs=>obtain ⟨_,⟨_,_,_,e,_⟩,_⟩:=x;exact ⟨_,e⟩
 |rng lo hi=>obtain ⟨_,_,_,e⟩:=x;exact ⟨_,e⟩
 |frz ob u=>obtain ⟨e,_⟩:=x;exact ⟨_,e⟩
 |tbl ps=>exact ⟨_,(show h.get? a=some _ from x)⟩
 |met f y=>exact ⟨_,(show h.get? a=some _ from x)⟩
 |ext φ=>obtain ⟨_,e,_⟩:=x;exact e
noncomputable def Ze6 (h:Heap) (l:List Addr):Heap:=Ze4 h fun b=>if b∈l then some (.own 0) else none
theorem Zc0 {h:Heap} {l:List Addr} {b:Addr} {o:Obj} (e:h.get? b=some o) (n:b ∉ l):(Ze6 h l).get? b=some o:=ZcQ e (if_neg n)
theorem ZcA {h:Heap} {l:List Addr} {b:Addr} {o:Obj} (e:(Ze6 h l).get? b=some o):h.get? b=some o/\b ∉ l:=by
 obtain ⟨a,n⟩:=ZdL e
 refine ⟨a,fun z=> ?_⟩
 simp only[if_pos z] at n
 cases n
theorem Zel {h:Heap} {l:List Addr} {b:Addr} (n:b∈l):(Ze6 h l).get? b=none:=by
 cases q:(Ze6 h l).get? b with
 |none=>rfl
 |some o=>exact absurd n (ZcA q).2
theorem Zi6 {P:Program} {w:World} {K:PySem.W.Frag} {mg:Str->Option Value} {base:Heap} {N:List Str} {qual:Str} {scope:Scope} {f:Addr} {cd:Value} {A:Around} {outer:List Env} {s:Shared} {H:Hp} {E:XK}:
  Thr (Zcq (CXE P w) P w K mg base N qual scope f cd A outer s H E) E:=by
 refine ⟨PassesOwn.leaving,fun pins σ H1 s1 e s2 I h=> ?_,fun pins σ H1 s1 h' e oe vs C I k hn he hc hdi hd v1 v2 q=> ?_⟩
 ·obtain ⟨ea,C,dct,B,H2,rfl,os,bare,un,hok,fl,t1,t2,q⟩:=h
  refine DQ.Zd8 (outer:=outer) I.ok.frames rfl fl fun h3 f3 up=> ?_
  obtain ⟨a1,a2,a3⟩:=Zge rfl I un hok t1 t2 fl.stay f3.stay up
  exact ⟨ea,C,dct,B,H2,rfl,os.trans I.os,bare,a1,a2,f3,t1,a3,q⟩
 ·have st:=I.stack
  have t2: ∀ b o,s1.heap.get? b=some o->b ∉ frs (Zcq (CXE P w) P w K mg base N qual scope f cd A outer s H E).stack-> ∃ o',(Ze6 s1.heap (frs (Zcq (CXE P w) P w K mg base N qual scope f cd A outer s H E).stack)).get? b=some o':=fun b o x n=>⟨o,Zc0 x n⟩
  have hs:(Ze6 s1.heap (frs (Zcq (CXE P w) P w K mg base N qual scope f cd A outer s H E).stack)).StaysIn h':=fun b o x=>k b o (ZcA x).1
  have hl:h'.FunFrames (Ze6 s1.heap (frs (Zcq (CXE P w) P w K mg base N qual scope f cd A outer s H E).stack)) (Zcq (CXE P w) P w K mg base N qual scope f cd A outer s H E).stack:=
   (ZbU st fun b hb=>Zel hb).of_keeps fun b o x _=>⟨o,k b o x,rfl⟩
  have hb:(Ze6 s1.heap (frs (Zcq (CXE P w) P w K mg base N qual scope f cd A outer s H E).stack)).get? e=none:=by
   cases z:(Ze6 s1.heap (frs (Zcq (CXE P w) P w K mg base N qual scope f cd A outer s H E).stack)).get? e with
   |none=>rfl
   |some o=>
    have:=(ZcA z).1
    rw[hn] at this
    cases this
  have t1: ∀ b u,H1 b=some u-> ∃ o,(Ze6 s1.heap (frs (Zcq (CXE P w) P w K mg base N qual scope f cd A outer s H E).stack)).get? b=some o:=fun b u x=>by
   obtain ⟨o,g⟩:=Zft (I.hok b u x)
   exact ⟨o,Zc0 g fun z=>by rw[I.stkFree b z] at x;cases x⟩
  refine DQ.Zd9 (s:={ s1 with heap:=h' }) (outer:=outer) I.ok.frames rfl hl he hs hb hd v1 v2 fun h3 f3 up=> ?_
  obtain ⟨a1,a2,a3⟩:=Zge rfl I (Un.kept k) (I.hok.kept k) t1 t2 hs f3.stay up
  rw[hc,hdi] at f3
  exact ⟨e,C,none,_,H1,rfl,I.os,I.bare,a1,a2,f3,t1,a3,q⟩
end DL
end
section
namespace DL
open PySem PySem.Spec PyProof.Rows L2
noncomputable def FP (K:PySem.W.Frag) (H:Hp) (α:List Addr) (ξ:XK) (Dn:Ends):Fl->Prop
 | .nx ρ' M'=> ∀ σ' H' α',Ext K H H' α α'->HR K H' α' M'->SR K H' α' σ' ρ'->Dn.nx σ' H'
 | .brk ρ' M'=> ∀ σ' H' α',Ext K H H' α α'->HR K H' α' M'->SR K H' α' σ' ρ'->Dn.bk σ' H'
 | .cnt ρ' M'=> ∀ σ' H' α',Ext K H H' α α'->HR K H' α' M'->SR K H' α' σ' ρ'->Dn.ct σ' H'
 | .ret d M'=> ∀ v H' α',Ext K H H' α α'->HR K H' α' M'->Rep K H' α' v d->Dn.rt v H'
 | .exc c M'=> ∀ C H' α',PySem.W.nsIn K mainGlobals c=some (some (.ref C))->Ext K H H' α α'->HR K H' α' M'->ξ (.ref C) none H'
 | .bad=>False
theorem FP.ext {K:PySem.W.Frag} {H H1:Hp} {α α1:List Addr} {ξ:XK} {Dn:Ends} {o:Fl} (h:FP K H α ξ Dn o) (e:Ext K H H1 α α1):FP K H1 α1 ξ Dn o:=by
 cases o with
 |nx ρ M=>exact fun σ' H' α' e'=>h σ' H' α' (e.trans e')
 |brk ρ M=>exact fun σ' H' α' e'=>h σ' H' α' (e.trans e')
 |cnt ρ M=>exact fun σ' H' α' e'=>h σ' H' α' (e.trans e')
 |ret d M=>exact fun v H' α' e'=>h v H' α' (e.trans e')
 |exc c M=>exact fun C H' α' n e'=>h C H' α' n (e.trans e')
 |bad=>exact h
noncomputable def DS (X:Cx) (ξ:XK) (st:Stmt) (g:Sv):Prop:= ∃ t:TS,PS X st t/\ ∀ σ ρ H α M Dn,SR X.K H α σ ρ->HR X.K H α M->FP X.K H α ξ Dn (g ρ M)->t Dn σ H
noncomputable def DSs (X:Cx) (ξ:XK) (st:List Stmt) (g:Sv):Prop:= ∃ t:TS,PSs X st t/\ ∀ σ ρ H α M Dn,SR X.K H α σ ρ->HR X.K H α M->FP X.K H α ξ Dn (g ρ M)->t Dn σ H
noncomputable def Zap {β:Type} (o:Out β) (k:β->Sto->Fl):Fl:=match o with
 | .ok a M=>k a M
 | .exc c M=> .exc c M
 | .bad=> .bad
theorem FP.seq {β γ:Type} {K:PySem.W.Frag} {R:Hp->List Addr->γ->β->Prop} {H:Hp} {α:List Addr} {ξ:XK} {Dn:Ends} {Q1:γ->Hp->Prop} {o:Out β} {f:β->Sto->Fl}
  (h:FP K H α ξ Dn (Zap o f)) (k: ∀ d M' v H' α',Ext K H H' α α'->HR K H' α' M'->R H' α' v d->FP K H' α' ξ Dn (f d M')->Q1 v H'):OG K R H α ξ Q1 o:=by
 cases o with
 |ok d M'=>exact fun v H' α' e hr r=>k d M' v H' α' e hr r (FP.ext (o:=f d M') h e)
 |exc c M'=>exact h
 |bad=>exact h
noncomputable def Z4 (g h:Sv):Sv:=fun ρ M=>match g ρ M with
 | .nx ρ1 M1=>h ρ1 M1
 |o=>o
noncomputable def sNil:Sv:=fun ρ M=> .nx ρ M
noncomputable def Zbj (f:Ev):Sv:=fun ρ M=>Zap (f ρ M) fun d M1=> .ret d M1
noncomputable def ZlD:Sv:=fun _ M=> .ret .non M
noncomputable def Zdp (f:Ev):Sv:=fun ρ M=>Zap (f ρ M) fun _ M1=> .nx ρ M1
noncomputable def sIf (c:Tv) (g h:Sv):Sv:=fun ρ M=>Zap (c ρ M) fun k M1=>if k=true then g ρ M1 else h ρ M1
noncomputable def ZoA:Sv:=fun ρ M=> .brk ρ M
noncomputable def ZoB:Sv:=fun ρ M=> .cnt ρ M
noncomputable abbrev Tg:=D->Ro->Option Ro
noncomputable abbrev Tgs:=List D->Ro->Option Ro
noncomputable def gNm (i:Nat):Tg:=fun d ρ=>some (ρ.set i (some d))
noncomputable def gNl:Tgs:=fun ds ρ=>match ds with | []=>some ρ | _=>none
noncomputable def gCs (g:Tg) (gs:Tgs):Tgs:=fun ds ρ=>match ds with | d :: r=>(match g d ρ with | some ρ1=>gs r ρ1 | none=>none) | []=>none
noncomputable def gTp (gs:Tgs):Tg:=fun d ρ=>match d with | .tup ds=>gs ds ρ | _=>none
noncomputable def ZaG (g:Tg) (f:Ev):Sv:=fun ρ M=>Zap (f ρ M) fun d M1=>match g d ρ with | some ρ1=> .nx ρ1 M1 | none=> .bad
noncomputable def Zdq (i j:Nat) (fs:Av):Sv:=fun ρ M=>Zap (fs ρ M) fun ds M1=>match ds with | [v,w]=> .nx ((ρ.set i (some v)).set j (some w)) M1 | _=> .bad
noncomputable def Zic (fo fi fe:Ev):Sv:=fun ρ M=>Zap (fe ρ M) fun d M1=>Zap (fo ρ M1) fun o M2=>Zap (fi ρ M2) fun i M3=>match o,i with
 | .ref n,.int k=>(match M3[n]? with
  |some (.lst xs)=>(match ixN xs.length k with | some j=> .nx ρ (M3.set n (.lst (xs.set j d))) | none=> .bad)
  |_=> .bad)
 |_,_=> .bad
section
variable {X:Cx} {ξ:XK} {st:Stmt} {sts:List Stmt} {g h:Sv} {e:Expr} {f:Ev} {pos:Pos} {c:Expr} {fc:Tv}
theorem Zaj:DSs X ξ [] sNil:=⟨_,ZgF,fun σ ρ H α M Dn s h q=>q σ H α Ext.refl h s⟩
theorem Zf (h1:DS X ξ st g) (h2:DSs X ξ sts h):DSs X ξ (st :: sts) (Z4 g h):=by
 obtain ⟨t1,p1,q1⟩:=h1
 obtain ⟨t2,p2,q2⟩:=h2
 refine ⟨_,Ze9 p1 p2,fun σ ρ H α M Dn s hh q=>q1 σ ρ H α M { Dn with nx:=t2 Dn } s hh ?_⟩
 unfold Z4 at q
 cases e:g ρ M with
 |nx ρ1 M1=>rw[e] at q;exact fun σ' H' α' ex hr sr=>q2 σ' ρ1 H' α' M1 Dn sr hr (FP.ext q ex)
 |brk ρ1 M1=>rw[e] at q;exact q
 |cnt ρ1 M1=>rw[e] at q;exact q
 |ret d M1=>rw[e] at q;exact q
 |exc c M1=>rw[e] at q;exact q
 |bad=>rw[e] at q;exact q
theorem Zk (h1:DS X ξ st g):DSs X ξ [st] g:=let ⟨_,p,q⟩:=h1;⟨_,ZgG p,q⟩
theorem ZS (he:DE X ξ e f):DS X ξ (.Return (some e) pos) (Zbj f):=by
 obtain ⟨t,p,q⟩:=he
 exact ⟨_,Ziu p,fun σ ρ H α M Dn s hh w=>q σ ρ H α M _ s hh (FP.seq w fun d M1 v H1 α1 e1 h1 r1 w1=>w1 v H1 α1 Ext.refl h1 r1)⟩
theorem ZcB (he:DE X ξ e f) (hs:swapsWith e none pos.line X.env=pure false:=by rfl):DS X ξ (.Expr e pos) (Zdp f):=by
 obtain ⟨t,p,q⟩:=he
 exact ⟨_,ZgH p hs,fun σ ρ H α M Dn s hh w=>q σ ρ H α M _ s hh (FP.seq w fun d M1 v H1 α1 e1 h1 r1 w1=>w1 σ H1 α1 Ext.refl h1 (s.mono e1))⟩
theorem Zbv {a b:List Stmt} (hc:DT X ξ c fc) (ha:DSs X ξ a g) (hb:DSs X ξ b h):DS X ξ (.If c a b pos) (sIf fc g h):=by
 obtain ⟨tc,pc,qc⟩:=hc
 obtain ⟨ta,pa,qa⟩:=ha
 obtain ⟨tb,pb,qb⟩:=hb
 refine ⟨_,Zlj pc pa pb,fun σ ρ H α M Dn s hh w=>qc σ ρ H α M _ s hh (FP.seq w fun k M1 v H1 α1 e1 h1 r1 w1=> ?_)⟩
 cases r1
 cases k with
 |true=>exact Zia (qa σ ρ H1 α1 M1 Dn (s.mono e1) h1 w1)
 |false=>exact Zh9 (qb σ ρ H1 α1 M1 Dn (s.mono e1) h1 w1)
noncomputable def DG (X:Cx) (tg:Expr) (g:Tg):Prop:= ∃ t:TG,PG X tg t/\ ∀ v d σ ρ H α ρ' Q,SR X.K H α σ ρ->Rep X.K H α v d->g d ρ=some ρ'->(∀ σ',SR X.K H α σ' ρ'->Q σ' H)->t v σ H Q
noncomputable def DGs (X:Cx) (tgs:List Expr) (g:Tgs):Prop:= ∃ t:TGs,PGs X tgs t/\ ∀ vs ds σ ρ H α ρ' Q,SR X.K H α σ ρ->Reps X.K H α vs ds->g ds ρ=some ρ'->(∀ σ',SR X.K H α σ' ρ'->Q σ' H)->t vs σ H Q
theorem ZG (i:Nat) {x:Str} (hN:X.N.Nodup) (hi:X.N[i]?=some x:=by rfl) (hx:Loc X.env.scope x:=by first | exact Or.inl rfl | exact Or.inr rfl) (hf:X.fn x=true\/X.env.scope.names.lookup x=some .local:=by first | exact .inl rfl | exact .inr rfl | assumption):DG X (.Name x pos) (gNm i):=by
 refine ⟨_,ZgI hN hi hx hf,fun v d σ ρ H α ρ' Q s r e k=> ?_⟩
 cases e
 exact k _ (s.set i r)
theorem Za7:DGs X [] gNl:=by
 refine ⟨_,ZgJ,fun vs ds σ ρ H α ρ' Q s r e k=> ?_⟩
 cases r with
 |nil=>cases e;exact ⟨rfl,k _ s⟩
 |cons _ _=>cases e
theorem ZP {es:List Expr} {g:Tg} {gs:Tgs} (h1:DG X e g) (h2:DGs X es gs) (hs:(assignEach (e :: es) X.env).map (·.2)=assign e X.env :: (assignEach es X.env).map (·.2):=by rfl):DGs X (e :: es) (gCs g gs):=by
 obtain ⟨t1,p1,q1⟩:=h1
 obtain ⟨t2,p2,q2⟩:=h2
 refine ⟨_,Zfa p1 p2 hs,fun vs ds σ ρ H α ρ' Q s r e k=> ?_⟩
 cases r with
 |nil=>cases e
 |cons r rr=>
  rename_i v d vs ds
  cases e1:g d ρ with
  |none=>simp only[gCs,e1] at e;cases e
  |some ρ1=>
   simp only[gCs,e1] at e
   exact ⟨v,vs,rfl,q1 v d σ ρ H α ρ1 _ s r e1 fun σ' s'=>q2 vs ds σ' ρ1 H α ρ' Q s' rr e k⟩
theorem ZbV {es:List Expr} {k:Nat} {gs:Tgs} {n:Nat} (hc:X.calm=true) (h:DGs X es gs) (hn:(assignEach es X.env).length=n:=by rfl) (hlen: ∀ ds ρ ρ',gs ds ρ=some ρ'->ds.length=n) (hst:(assignEach es X.env).findIdx? (·.1)=none:=by rfl):DG X (.Tuple es k pos) (gTp gs):=by
 obtain ⟨t,p,q⟩:=h
 refine ⟨_,Ziw hc p hn hst,fun v d σ ρ H α ρ' Q s r e k=> ?_⟩
 cases r with
 | @tup a xs ds hp rp=>
  have e':gs ds ρ=some ρ':=e
  exact ⟨a,xs,rfl,(SqT.of hp),by rw[rp.length];exact hlen ds ρ ρ' e',q xs ds σ ρ H α ρ' Q s rp e' k⟩
 |_=>cases e
theorem Za8 {ds:List D} {ρ ρ':Ro} (h:gNl ds ρ=some ρ'):ds.length=0:=by cases ds with | nil=>rfl | cons _ _=>cases h
theorem Z9 {g:Tg} {gs:Tgs} {n:Nat} (h: ∀ ds ρ ρ',gs ds ρ=some ρ'->ds.length=n) (ds:List D) (ρ ρ':Ro) (e:gCs g gs ds ρ=some ρ'):ds.length=n + 1:=by
 cases ds with
 |nil=>cases e
 |cons d r=>
  cases e1:g d ρ with
  |none=>simp only[gCs,e1] at e;cases e
  |some ρ1=>simp only[gCs,e1] at e;rw[List.length_cons,h r ρ1 ρ' e]
theorem ZH (i:Nat) {x:Str} {pos':Pos} (hN:X.N.Nodup) (he:DE X ξ e f) (hi:X.N[i]?=some x:=by rfl) (hx:Loc X.env.scope x:=by first | exact Or.inl rfl | exact Or.inr rfl) (hs:swapsWith e (some (.Name x pos')) pos.line X.env=pure false:=by rfl) (hf:X.fn x=true\/X.env.scope.names.lookup x=some .local:=by first | exact .inl rfl | exact .inr rfl | assumption):
  DS X ξ (.Assign [.Name x pos'] e pos) (ZaG (gNm i) f):=by
 obtain ⟨t,p,q⟩:=he
 exact ⟨_,Ziy hN hi hx p hs hf,fun σ ρ H α M Dn s hh w=>q σ ρ H α M _ s hh (FP.seq w fun d M1 v H1 α1 e1 h1 r1 w1=>w1 _ H1 α1 Ext.refl h1 ((s.mono e1).set i r1))⟩
theorem Zem {tg:Expr} {gt:Tg} (he:DE X ξ e f) (hg:DG X tg gt) (hs:swapsWithSole [tg] e pos.line X.env=pure false:=by rfl) (hw:swappedStores [tg] e X.env=pure none:=by rfl)
  (h1:(assignEach [tg] X.env).map (·.2)=[assign tg X.env]:=by rfl):DS X ξ (.Assign [tg] e pos) (ZaG gt f):=by
 obtain ⟨t,p,q⟩:=he
 obtain ⟨tt,pt,qt⟩:=hg
 refine ⟨_,ZfZ p pt hs hw h1,fun σ ρ H α M Dn s hh w=>q σ ρ H α M _ s hh (FP.seq w fun d M1 v H1 α1 e1 h1 r1 w1=> ?_)⟩
 cases eg:gt d ρ with
 |none=>simp only[eg] at w1;exact w1.elim
 |some ρ1=>
  simp only[eg] at w1
  exact qt v d σ ρ H1 α1 ρ1 _ (s.mono e1) r1 eg fun σ' s'=>w1 σ' H1 α1 Ext.refl h1 s'
theorem ZaH (i j:Nat) {x y:Str} {a b:Expr} {fs:Av} {px py pt:Pos} {kt k2 pt2} (hc:X.calm=true) (hN:X.N.Nodup) (ha:DA X ξ [a,b] fs) (hi:X.N[i]?=some x:=by rfl) (hj:X.N[j]?=some y:=by rfl) (hij:i≠j:=by decide)
  (hx:X.env.scope.names.lookup x=some .local:=by rfl) (hy:X.env.scope.names.lookup y=some .local:=by rfl)
  (hw:swappedStores [.Tuple [.Name x px,.Name y py] kt pt] (.Tuple [a,b] k2 pt2) X.env=pure (some [x,y]):=by rfl)
  (hs:swapsWithSole [.Tuple [.Name x px,.Name y py] kt pt] (.Tuple [a,b] k2 pt2) pos.line X.env=pure false:=by rfl):
  DS X ξ (.Assign [.Tuple [.Name x px,.Name y py] kt pt] (.Tuple [a,b] k2 pt2) pos) (Zdq i j fs):=by
 obtain ⟨t,p,q⟩:=ha
 refine ⟨_,Ziz hc hN hi hj hij hx hy p hw hs,fun σ ρ H α M Dn s hh w=>q σ ρ H α M _ s hh (FP.seq w fun ds M1 vs H1 α1 e1 h1 r1 w1=> ?_)⟩
 match r1 with
 | .nil=>exact w1.elim
 | .cons _ .nil=>exact w1.elim
 | .cons _ (.cons _ (.cons _ _))=>exact w1.elim
 | .cons r (.cons r' .nil)=>exact ⟨_,_,rfl,w1 _ H1 α1 Ext.refl h1 (((s.mono e1).set i r).set j r')⟩
theorem Zgf {o i:Expr} {fo fi:Ev} {pos':Pos} (ho:DE X ξ o fo) (hi:DE X ξ i fi) (he:DE X ξ e f)
  (ha: ∀ v,assign (.Subscript o i pos') X.env v=(do
   let ov <- holding [v] (eval o X.env)
   let iv <- holding [v,ov] (eval i X.env)
   standAt pos'
   holding [v,ov,iv] (setItem ov iv v)
   release [v,ov,iv] []):=by intro _;rfl) (hs:swapsWithSole [.Subscript o i pos'] e pos.line X.env=pure false:=by rfl) (hw:swappedStores [.Subscript o i pos'] e X.env=pure none:=by rfl)
  (h1:(assignEach [.Subscript o i pos'] X.env).map (·.2)=[assign (.Subscript o i pos') X.env]:=by rfl):DS X ξ (.Assign [.Subscript o i pos'] e pos) (Zic fo fi f):=by
 obtain ⟨t,p,q⟩:=he
 obtain ⟨to,po,qo⟩:=ho
 obtain ⟨ti,pi,qi⟩:=hi
 refine ⟨_,ZfZ p (Zix po pi Zfh ha) hs hw h1,fun σ ρ H α M Dn s hh w=>q σ ρ H α M _ s hh (FP.seq w fun d M1 v H1 α1 e1 h1 r1 w1=> ?_)⟩
 refine qo σ ρ H1 α1 M1 _ (s.mono e1) h1 (FP.seq w1 fun od M2 ov H2 α2 e2 h2 r2 w2=> ?_)
 refine qi σ ρ H2 α2 M2 _ ((s.mono e1).mono e2) h2 (FP.seq w2 fun kd M3 kv H3 α3 e3 h3 r3 w3=> ?_)
 cases Rep.mono e3 r2 with
 | @ref p n hp=>
  cases r3 with
  |int k=>
   cases em:M3[n]? with
   |none=>simp only[em] at w3;exact w3.elim
   |some so=>
    cases so with
    |lst ds=>
     cases ej:ixN ds.length k with
     |none=>simp only[em,ej] at w3;exact w3.elim
     |some j=>
      simp only[em,ej] at w3
      obtain ⟨xs,g1,g2⟩:=h3.at hp em
      refine ⟨p,xs,k,j,rfl,rfl,g1,by rw[g2.length];exact ej,?_⟩
      exact w3 σ _ α3 (Ext.wr g1) (h3.wr hp g1 (Reps.set (Rep.mono e3 (Rep.mono e2 r1)) j g2)) ((((s.mono e1).mono e2).mono e3).mono (Ext.wr g1))
  |_=>exact w3.elim
 |_=>exact w3.elim
noncomputable def whN (c:Tv) (g:Sv):Nat->Ro->Sto->Option Fl
 |0,_,_=>none
 |n + 1,ρ,M=>match c ρ M with
  | .ok true M1=>(match g ρ M1 with
   | .nx ρ2 M2=>whN c g n ρ2 M2
   | .cnt ρ2 M2=>whN c g n ρ2 M2
   | .brk ρ2 M2=>some (.nx ρ2 M2)
   |o=>some o)
  | .ok false M1=>some (.nx ρ M1)
  | .exc e M1=>some (.exc e M1)
  | .bad=>some .bad
theorem ZaZ {c:Tv} {g:Sv}: ∀ {n:Nat} {ρ:Ro} {M:Sto} {o:Fl},whN c g n ρ M=some o-> ∀ k,whN c g (n + k) ρ M=some o
 |0,_,_,_,e,_=>by simp only[whN] at e;cases e
 |n + 1,ρ,M,o,e,k=>by
  have ek:n + 1 + k=(n + k) + 1:=by omega
  rw[ek]
  unfold whN at e ⊢
  cases ec:c ρ M with
  |bad=>rw[ec] at e;exact e
  |exc x M1=>rw[ec] at e;exact e
  |ok b M1=>
   rw[ec] at e
   cases b with
   |false=>exact e
   |true=>
    cases eg:g ρ M1 with
    |nx ρ2 M2=>simp only[eg] at e ⊢;exact ZaZ e k
    |cnt ρ2 M2=>simp only[eg] at e ⊢;exact ZaZ e k
    |brk ρ2 M2=>simp only[eg] at e ⊢;exact e
    |ret d M2=>simp only[eg] at e ⊢;exact e
    |exc x M2=>simp only[eg] at e ⊢;exact e
    |bad=>simp only[eg] at e ⊢;exact e
open Classical in
noncomputable def sWh (c:Tv) (g:Sv):Sv:=fun ρ M=>if h: ∃ o n,whN c g n ρ M=some o then Classical.choose h else .bad
theorem ZaT {c:Tv} {g:Sv} {n:Nat} {ρ:Ro} {M:Sto} {o:Fl} (e:whN c g n ρ M=some o):sWh c g ρ M=o:=by
 have hx: ∃ o n,whN c g n ρ M=some o:=⟨o,n,e⟩
 unfold sWh
 rw[dif_pos hx]
 obtain ⟨m,em⟩:=Classical.choose_spec hx
 have h1:=ZaZ em n
 have h2:=ZaZ e m
 rw[Nat.add_comm] at h2
 rw[h1] at h2
 exact Option.some.inj h2
theorem Zen {c:Tv} {g:Sv} {ρ:Ro} {M:Sto} (e:sWh c g ρ M≠ .bad): ∃ n,whN c g n ρ M=some (sWh c g ρ M):=by
 by_cases hx: ∃ o n,whN c g n ρ M=some o
 ·obtain ⟨o,n,h⟩:=hx
  exact ⟨n,by rw[ZaT h];exact h⟩
 ·unfold sWh at e
  rw[dif_neg hx] at e
  exact absurd rfl e
theorem Zeo {c:Tv} {g:Sv} {ρ:Ro} {M M1:Sto} (h:c ρ M= .ok false M1):sWh c g ρ M= .nx ρ M1:=ZaT (n:=1) (by simp only[whN,h])
theorem Zfu {c:Tv} {g:Sv} {ρ ρ2:Ro} {M M1 M2:Sto} (h:c ρ M= .ok true M1) (h2:g ρ M1= .nx ρ2 M2) (hb:sWh c g ρ2 M2≠ .bad):sWh c g ρ M=sWh c g ρ2 M2:=by
 obtain ⟨n,e⟩:=Zen hb
 exact ZaT (n:=n + 1) (by simp only[whN,h,h2];exact e)
theorem Zbw {body:List Stmt} (hp:PassesOwn (model X.prog X.w) X.A X.env X.xe) (hc:DT X ξ c fc) (hb:DSs X ξ body g):DS X ξ (.While c body [] pos) (sWh fc g):=by
 obtain ⟨tc,pc,qc⟩:=hc
 obtain ⟨tb,pb,qb⟩:=hb
 refine ⟨_,Zfb hp pc pb,fun σ ρ H α M Dn s hh w=> ?_⟩
 have nb:sWh fc g ρ M≠ .bad:=fun z=>by rw[z] at w;exact w
 obtain ⟨n,en⟩:=Zen nb
 generalize sWh fc g ρ M=o at w en
 refine ⟨fun m σ' H'=> ∃ ρ' α' M',Ext X.K H H' α α'/\SR X.K H' α' σ' ρ'/\HR X.K H' α' M'/\whN fc g m ρ' M'=some o,⟨n,ρ,α,M,Ext.refl,s,hh,en⟩,?_⟩
 rintro m σ1 H1 ⟨ρ1,α1,M1,e1,s1,h1,en1⟩
 cases m with
 |zero=>simp only[whN] at en1;cases en1
 |succ m=>
  refine qc σ1 ρ1 H1 α1 M1 _ s1 h1 ?_
  unfold whN at en1
  cases ec:fc ρ1 M1 with
  |bad=>rw[ec] at en1;cases en1;exact w.elim
  |exc x M2=>
   rw[ec] at en1;cases en1
   exact fun C H' α' nn ex hr=>w C H' α' nn (e1.trans ex) hr
  |ok b M2=>
   rw[ec] at en1
   intro v H2 α2 e2 h2 ev
   cases ev
   cases b with
   |false=>
    cases en1
    exact Zh9 (w σ1 H2 α2 (e1.trans e2) h2 (s1.mono e2))
   |true=>
    refine Zia ⟨fun σ' H'=> ∃ ρ' α' M',Ext X.K H H' α α'/\SR X.K H' α' σ' ρ'/\HR X.K H' α' M'/\whN fc g m ρ' M'=some o,fun σ' H' z=>⟨m,Nat.lt_succ_self m,z⟩,?_⟩
    refine qb σ1 ρ1 H2 α2 M2 _ (s1.mono e2) h2 ?_
    have e12:=e1.trans e2
    cases eg:g ρ1 M2 with
    |nx ρ2 M3=>simp only[eg] at en1;exact fun σ' H' α' ex hr sr=>⟨ρ2,α',M3,e12.trans ex,sr,hr,en1⟩
    |cnt ρ2 M3=>simp only[eg] at en1;exact fun σ' H' α' ex hr sr=>⟨ρ2,α',M3,e12.trans ex,sr,hr,en1⟩
    |brk ρ2 M3=>simp only[eg] at en1;cases en1;exact fun σ' H' α' ex hr sr=>w σ' H' α' (e12.trans ex) hr sr
    |ret d M3=>simp only[eg] at en1;cases en1;exact fun v H' α' ex hr sr=>w v H' α' (e12.trans ex) hr sr
    |exc x M3=>simp only[eg] at en1;cases en1;exact fun C H' α' nn ex hr=>w C H' α' nn (e12.trans ex) hr
    |bad=>simp only[eg] at en1;cases en1;exact w.elim
noncomputable def ZaB (tg:Tg) (g:Sv):List D->Ro->Sto->Fl
 | [],ρ,M=> .nx ρ M
 |d :: r,ρ,M=>match tg d ρ with
  |none=> .bad
  |some ρ1=>(match g ρ1 M with
   | .nx ρ2 M2=>ZaB tg g r ρ2 M2
   | .cnt ρ2 M2=>ZaB tg g r ρ2 M2
   | .brk ρ2 M2=> .nx ρ2 M2
   |o=>o)
noncomputable def ZdE (tg:Tg) (g:Sv) (n:Nat):Nat->Nat->Ro->Sto->Fl
 |f,i,ρ,M=>match M[n]? with
  |some (.lst xs)=>(match xs[i]? with
   |none=> .nx ρ M
   |some d=>(match f with
    |0=> .bad
    |f + 1=>(match tg d ρ with
     |none=> .bad
     |some ρ1=>(match g ρ1 M with
      | .nx ρ2 M2=>ZdE tg g n f (i + 1) ρ2 M2
      | .cnt ρ2 M2=>ZdE tg g n f (i + 1) ρ2 M2
      | .brk ρ2 M2=> .nx ρ2 M2
      |o=>o))))
  |none=> .bad
noncomputable def ZaI (lo:Int) (n:Nat):List D:=(List.range n).map fun (i:Nat)=>D.int (lo + i)
noncomputable def Zgg (tg:Tg) (g:Sv) (d:D) (ρ:Ro) (M:Sto):Fl:=match d with
 | .tup xs=>ZaB tg g xs ρ M
 | .rol xs=>ZaB tg g xs ρ M
 | .ref n=>(match M[n]? with | some (.lst xs)=>ZdE tg g n xs.length 0 ρ M | none=> .bad)
 |_=> .bad
noncomputable def Zk8 (tg:Tg) (f:Ev) (g:Sv):Sv:=fun ρ M=>Zap (f ρ M) fun d M1=>Zgg tg g d ρ M1
noncomputable def ZbW (tg:Tg) (fs:Av) (g:Sv):Sv:=fun ρ M=>Zap (fs ρ M) fun ds M1=>match ds with
 | [.int j]=>if -(2 ^ 62)<=j/\j < 2 ^ 62 then ZaB tg g (ZaI 0 j.toNat) ρ M1 else .bad
 |_=> .bad
noncomputable def Zbo (tg:Tg) (fs:Av) (g:Sv):Sv:=fun ρ M=>Zap (fs ρ M) fun ds M1=>match ds with
 | [.int i,.int j]=>if -(2 ^ 62)<=i/\i < 2 ^ 62/\ -(2 ^ 62)<=j/\j < 2 ^ 62 then ZaB tg g (ZaI i (j - i).toNat) ρ M1 else .bad
 |_=> .bad
theorem Zc1 {lo:Int} {n i:Nat} (h:i < n):(ZaI lo n)[i]?=some (.int (lo + i)):=by
 unfold ZaI
 rw[List.getElem?_map,List.getElem?_range h]
 rfl
theorem Zbx {lo:Int} {n:Nat}:(ZaI lo n).length=n:=by unfold ZaI;rw[List.length_map,List.length_range]
theorem Zep {lo:Int} {n i:Nat} (h:i < n):(ZaI lo n).drop i= .int (lo + i) :: (ZaI lo n).drop (i + 1):=by
 have hl:i < (ZaI lo n).length:=by rw[Zbx];exact h
 have e:=Zc1 (lo:=lo) h
 rw[List.getElem?_eq_getElem hl] at e
 rw[List.drop_eq_getElem_cons hl,Option.some.inj e]
theorem Zfv {tg:Expr} {gt:Tg} {tt:TG} {tb:TS} {Dn:Ends} {H H1:Hp} {α α1:List Addr} {o:Fl} {k:Ro->Sto->Fl} (w:FP X.K H α ξ Dn o)
  (qt: ∀ v d σ ρ H α ρ' Q,SR X.K H α σ ρ->Rep X.K H α v d->gt d ρ=some ρ'->(∀ σ',SR X.K H α σ' ρ'->Q σ' H)->tt v σ H Q) (qb: ∀ σ ρ H α M Dn,SR X.K H α σ ρ->HR X.K H α M->FP X.K H α ξ Dn (g ρ M)->tb Dn σ H)
  {v:V} {d:D} {σ1:L2.St} {ρ1:Ro} {M1:Sto} (e1:Ext X.K H H1 α α1) (s1:SR X.K H1 α1 σ1 ρ1) (h1:HR X.K H1 α1 M1) (r:Rep X.K H1 α1 v d)
  (en:(match gt d ρ1 with | none=>Fl.bad | some ρ2=>(match g ρ2 M1 with | .nx ρ3 M3=>k ρ3 M3 | .cnt ρ3 M3=>k ρ3 M3 | .brk ρ3 M3=> .nx ρ3 M3 | o=>o))=o)
  {N:L2.St->Hp->Prop} (hN: ∀ σ' H',(∃ ρ' α' M',Ext X.K H H' α α'/\SR X.K H' α' σ' ρ'/\HR X.K H' α' M'/\k ρ' M'=o)->N σ' H'):tt v σ1 H1 fun σ2 H2=>tb { Dn with nx:=N,ct:=N,bk:=Dn.nx } σ2 H2:=by
 cases eg:gt d ρ1 with
 |none=>rw[eg] at en;cases en;exact w.elim
 |some ρ2=>
  simp only[eg] at en
  refine qt v d σ1 ρ1 H1 α1 ρ2 _ s1 r eg fun σ2 s2=>qb σ2 ρ2 H1 α1 M1 _ s2 h1 ?_
  cases ex:g ρ2 M1 with
  |nx ρ3 M3=>simp only[ex] at en;exact fun σ' H' α' e2 hr sr=>hN _ _ ⟨ρ3,α',M3,e1.trans e2,sr,hr,en⟩
  |cnt ρ3 M3=>simp only[ex] at en;exact fun σ' H' α' e2 hr sr=>hN _ _ ⟨ρ3,α',M3,e1.trans e2,sr,hr,en⟩
  |brk ρ3 M3=>simp only[ex] at en;cases en;exact fun σ' H' α' e2 hr sr=>w σ' H' α' (e1.trans e2) hr sr
  |ret d M3=>simp only[ex] at en;cases en;exact fun v H' α' e2 hr sr=>w v H' α' (e1.trans e2) hr sr
  |exc x M3=>simp only[ex] at en;cases en;exact fun C H' α' nn e2 hr=>w C H' α' nn (e1.trans e2) hr
  |bad=>simp only[ex] at en;cases en;exact w.elim
theorem Zgh {tg:Expr} {gt:Tg} {tt:TG} {tb:TS} {Dn:Ends} {H:Hp} {α:List Addr} {lo:Int} {n:Nat} {σ:L2.St} {ρ:Ro} {M:Sto}
  (qt: ∀ v d σ ρ H α ρ' Q,SR X.K H α σ ρ->Rep X.K H α v d->gt d ρ=some ρ'->(∀ σ',SR X.K H α σ' ρ'->Q σ' H)->tt v σ H Q) (qb: ∀ σ ρ H α M Dn,SR X.K H α σ ρ->HR X.K H α M->FP X.K H α ξ Dn (g ρ M)->tb Dn σ H)
  (s:SR X.K H α σ ρ) (hh:HR X.K H α M) (w:FP X.K H α ξ Dn (ZaB gt g (ZaI lo n) ρ M)):
  ∃ W:Nat->Nat->L2.St->Hp->Prop,(∃ m,W 0 m σ H)/\ ∀ i m σ H,W i m σ H->
   ((Itr lo n).stop i H/\Dn.nx σ H)\/((Itr lo n).go i H/\ ∃ N:L2.St->Hp->Prop,(∀ σ' H',N σ' H'-> ∃ m',m' < m/\W (i + 1) m' σ' H')/\ ∀ x H',(Itr lo n).yld i H x H'->tt x σ H' fun σ2 H2=>tb { Dn with nx:=N,ct:=N,bk:=Dn.nx } σ2 H2):=by
 generalize ho:ZaB gt g (ZaI lo n) ρ M=o at w
 refine ZdS (fun i σ' H'=> ∃ ρ' α' M',Ext X.K H H' α α'/\SR X.K H' α' σ' ρ'/\HR X.K H' α' M'/\ZaB gt g ((ZaI lo n).drop i) ρ' M'=o) ⟨ρ,α,M,Ext.refl,s,hh,ho⟩ ?_ ?_
 ·rintro i σ1 H1 hi ⟨ρ1,α1,M1,e1,s1,h1,en⟩
  rw[Zep hi] at en
  exact Zfv (tg:=tg) w qt qb e1 s1 h1 (.int (lo + i)) en (fun σ' H' z=>z)
 ·rintro σ1 H1 ⟨ρ1,α1,M1,e1,s1,h1,en⟩
  rw[List.drop_eq_nil_of_le (by rw[Zbx];exact Nat.le_refl _)] at en
  cases en
  exact w σ1 H1 α1 e1 h1 s1
theorem Zfw {tg a:Expr} {gt:Tg} {fs:Av} {body:List Stmt} {p p2:Pos} (hp:PassesOwn (model X.prog X.w) X.A X.env X.xe) (hm:X.mg "range"=none) (ha:DA X ξ [a] fs) (hg:DG X tg gt) (hb:DSs X ξ body g)
  (hgl:Gl X "range":=by rfl) (hs:starEach [a] X.env=[(false,eval a X.env)]:=by rfl) (hf: ∀ x,foldedSetIterable (.Call (.Name "range" p) [a] [] p2) X.env x=pure x:=by intro _;rfl):DS X ξ (.For tg (.Call (.Name "range" p) [a] [] p2) body [] pos) (ZbW gt fs g):=by
 obtain ⟨ta,pa,qa⟩:=ha
 obtain ⟨tt,pt,qt⟩:=hg
 obtain ⟨tb,pb,qb⟩:=hb
 refine ⟨_,ZcT hp (ZdP hgl hm pa hs) pt pb hf,fun σ ρ H α M Dn s hh w=>qa σ ρ H α M _ s hh (FP.seq w fun ds M1 vs H1 α1 e1 h1 r1 w1=> ?_)⟩
 match r1 with
 | .nil=>exact w1.elim
 | .cons r (.cons _ _)=>cases r<;>exact w1.elim
 | .cons r .nil=>
  cases r with
  |int j=>
   by_cases c: -(2 ^ 62)<=j/\j < 2 ^ 62
   ·simp only[if_pos c] at w1
    exact ⟨j,rfl,c.1,c.2,Zgh (tg:=tg) qt qb (s.mono e1) h1 w1⟩
   ·simp only[if_neg c] at w1
    exact w1.elim
  |_=>exact w1.elim
theorem Zc2 {tg a b:Expr} {gt:Tg} {fs:Av} {body:List Stmt} {p p2:Pos} (hp:PassesOwn (model X.prog X.w) X.A X.env X.xe) (hm:X.mg "range"=none) (ha:DA X ξ [a,b] fs) (hg:DG X tg gt) (hb:DSs X ξ body g)
  (hgl:Gl X "range":=by rfl) (hs:starEach [a,b] X.env=[(false,eval a X.env),(false,eval b X.env)]:=by rfl) (hs2:starEach [b] X.env=[(false,eval b X.env)]:=by rfl) (hf: ∀ x,foldedSetIterable (.Call (.Name "range" p) [a,b] [] p2) X.env x=pure x:=by intro _;rfl):DS X ξ (.For tg (.Call (.Name "range" p) [a,b] [] p2) body [] pos) (Zbo gt fs g):=by
 obtain ⟨ta,pa,qa⟩:=ha
 obtain ⟨tt,pt,qt⟩:=hg
 obtain ⟨tb,pb,qb⟩:=hb
 refine ⟨_,ZcT hp (ZdQ hgl hm pa hs hs2) pt pb hf,fun σ ρ H α M Dn s hh w=>qa σ ρ H α M _ s hh (FP.seq w fun ds M1 vs H1 α1 e1 h1 r1 w1=> ?_)⟩
 split at w1
 ·rename_i i j
  cases r1 with
  |cons r t=>
   cases t with
   |cons r' t=>
    cases t
    cases r
    cases r'
    by_cases c: -(2 ^ 62)<=i/\i < 2 ^ 62/\ -(2 ^ 62)<=j/\j < 2 ^ 62
    ·simp only[if_pos c] at w1
     exact ⟨i,j,rfl,c,Zgh (tg:=tg) qt qb (s.mono e1) h1 w1⟩
    ·simp only[if_neg c] at w1
     exact w1.elim
 ·exact w1.elim
noncomputable def ZoC (K:PySem.W.Frag) (tl:TE):TI:=fun σ H R=>tl σ H fun x H1=> ∃ a,x= .ref a/\(((∃ xs,SqL K H1 a xs)/\R (Itl K a) H1)\/((∃ xs,SqT K H1 a xs)/\R (Itt K a) H1))
theorem Zi7 {tg l:Expr} {tl:TE} (hl:PE X l tl):PI X tg l (ZoC X.K tl):=by
 intro pins s σ H R I h
 refine thn (hl pins s σ H _ I h) fun v s1 ⟨x,H1,I1,r1,q1⟩=> ?_
 obtain ⟨a,e,q⟩:=q1
 subst e
 cases r1
 have fp: ∀ b∈[s1.heap.objs.size],Zdf X pins H1 b:=fun b hb=>by
  have e:b=s1.heap.objs.size:=by simpa using hb
  subst e
  exact I1.fpOk (Nat.le_refl _) (I1.hok.fresh (Nat.le_refl _))
 rcases q with ⟨⟨xs,hq⟩,q⟩ | ⟨⟨xs,hq⟩,q⟩
 ·obtain ⟨its,rv,p,hz⟩:=I1.list hq
  refine wpAny_pyIter_list p.isList ?_
  exact ⟨s1.heap.objs.size,[s1.heap.objs.size],_,_,H1,rfl,I1.kept (t':=s1.toks) fun b o e=>Heap.get?_push_of_some _ e,ZdO a _,⟨_,Heap.get?_push_size _ rfl,rfl,rfl⟩,fp,q⟩
 ·obtain ⟨its,rv,p,hz⟩:=I1.tuple hq
  refine wpAny_pyIter_tuple (show s1.heap.IsTuple a its.toArray from p) ?_
  exact ⟨s1.heap.objs.size,[s1.heap.objs.size],_,_,H1,rfl,I1.kept (t':=s1.toks) fun b o e=>Heap.get?_push_of_some _ e,Zdg a _,⟨_,Heap.get?_push_size _ rfl,rfl,rfl⟩,fp,q⟩
theorem Zi8 {tg l:Expr} {gt:Tg} {f:Ev} {body:List Stmt} (hp:PassesOwn (model X.prog X.w) X.A X.env X.xe) (hl:DE X ξ l f) (hg:DG X tg gt) (hb:DSs X ξ body g)
  (hf: ∀ x,foldedSetIterable l X.env x=pure x:=by intro _;rfl):DS X ξ (.For tg l body [] pos) (Zk8 gt f g):=by
 obtain ⟨ta,pa,qa⟩:=hl
 obtain ⟨tt,pt,qt⟩:=hg
 obtain ⟨tb,pb,qb⟩:=hb
 refine ⟨_,ZcT hp (Zi7 pa) pt pb hf,fun σ ρ H α M Dn s hh w=>qa σ ρ H α M _ s hh (FP.seq w fun d M1 v H1 α1 e1 h1 r1 w1=> ?_)⟩
 have s1:=s.mono e1
 have pure_: ∀ (ds:List D) (xs:List V),Reps X.K H1 α1 xs ds->FP X.K H1 α1 ξ Dn (ZaB gt g ds ρ M1)-> ∀ (i:Nat) σ' H',(∃ ρ' α' M',Ext X.K H1 H' α1 α'/\SR X.K H' α' σ' ρ'/\HR X.K H' α' M'/\ZaB gt g (ds.drop i) ρ' M'=ZaB gt g ds ρ M1)->
   (∀ x,xs[i]?=some x->tt x σ' H' fun σ2 H2=>tb { Dn with nx:=fun σ H=> ∃ ρ' α' M',Ext X.K H1 H α1 α'/\SR X.K H α' σ ρ'/\HR X.K H α' M'/\ZaB gt g (ds.drop (i + 1)) ρ' M'=ZaB gt g ds ρ M1,ct:=fun σ H=> ∃ ρ' α' M',Ext X.K H1 H α1 α'/\SR X.K H α' σ ρ'/\HR X.K H α' M'/\ZaB gt g (ds.drop (i + 1)) ρ' M'=ZaB gt g ds ρ M1,bk:=Dn.nx } σ2 H2)/\
   (i=xs.length->Dn.nx σ' H'):=by
  intro ds xs r w1 i σ' H' ⟨ρ',α',M',ex,sr,hr,en⟩
  refine ⟨fun x hx=> ?_,fun hi=> ?_⟩
  ·have hi:i < ds.length:=by rw[<- r.length];exact (List.getElem?_eq_some_iff.mp hx).1
   obtain ⟨v,g1,g2⟩:=r.get (List.getElem?_eq_getElem hi)
   rw[hx] at g1
   cases g1
   rw[List.drop_eq_getElem_cons hi] at en
   exact Zfv (tg:=tg) w1 qt qb ex sr hr (Rep.mono ex g2) en (fun σ' H' z=>z)
  ·rw[hi,r.length,List.drop_length] at en
   have en':Fl.nx ρ' M'=ZaB gt g ds ρ M1:=en
   rw[<- en'] at w1
   exact w1 σ' H' α' ex hr sr
 cases r1 with
 | @tup p xs ds hp rp=>
  have w2:FP X.K H1 α1 ξ Dn (ZaB gt g ds ρ M1):=w1
  refine ⟨p,rfl,.inr ⟨⟨xs,(SqT.of hp)⟩,ZgK (K:=X.K) (a:=p) (xs:=xs) (fun i σ' H'=> ∃ ρ' α' M',Ext X.K H1 H' α1 α'/\SR X.K H' α' σ' ρ'/\HR X.K H' α' M'/\ZaB gt g (ds.drop i) ρ' M'=ZaB gt g ds ρ M1) ⟨ρ,α1,M1,Ext.refl,s1,h1,rfl⟩ ?_ ?_ ?_⟩⟩
  ·rintro i σ' H' _ ⟨ρ',α',M',ex,_⟩
   exact SqT.of (ex.tup _ _ hp)
  ·intro i x σ' H' hx z
   exact (pure_ ds xs rp w2 i σ' H' z).1 x hx
  ·intro σ' H' z
   exact (pure_ ds xs rp w2 _ σ' H' z).2 rfl
 | @rol p xs ds hp rp=>
  have w2:FP X.K H1 α1 ξ Dn (ZaB gt g ds ρ M1):=w1
  refine ⟨p,rfl,.inl ⟨⟨xs,hp.sq⟩,Zfd (K:=X.K) (a:=p) (xs:=xs) (fun i σ' H'=> ∃ ρ' α' M',Ext X.K H1 H' α1 α'/\SR X.K H' α' σ' ρ'/\HR X.K H' α' M'/\ZaB gt g (ds.drop i) ρ' M'=ZaB gt g ds ρ M1) ⟨ρ,α1,M1,Ext.refl,s1,h1,rfl⟩ ?_ ?_ ?_⟩⟩
  ·rintro i σ' H' _ ⟨ρ',α',M',ex,_⟩
   exact (ex.rol _ _ hp).sq
  ·intro i x σ' H' hx z
   exact (pure_ ds xs rp w2 i σ' H' z).1 x hx
  ·intro σ' H' z
   exact (pure_ ds xs rp w2 _ σ' H' z).2 rfl
 | @ref p n hp=>
  cases em:M1[n]? with
  |none=>simp only[Zgg,em] at w1;exact w1.elim
  |some so=>
   cases so with
   |lst ds=>
    simp only[Zgg,em] at w1
    obtain ⟨xs0,g0,r0⟩:=h1.at hp em
    generalize eo:ZdE gt g n ds.length 0 ρ M1=o at w1
    refine ⟨p,rfl,.inl ⟨⟨xs0,SqL.of g0⟩,fun i m σ' H'=> ∃ ρ' α' M',Ext X.K H1 H' α1 α'/\SR X.K H' α' σ' ρ'/\HR X.K H' α' M'/\ZdE gt g n m i ρ' M'=o,⟨ds.length,ρ,α1,M1,Ext.refl,s1,h1,eo⟩,?_⟩⟩
    rintro i m σ' H' ⟨ρ',α',M',ex,sr,hr,en⟩
    unfold ZdE at en
    cases em2:M'[n]? with
    |none=>simp only[em2] at en;cases en;exact w1.elim
    |some so2=>
     cases so2 with
     |lst ds2=>
      simp only[em2] at en
      obtain ⟨xs,g1,g2⟩:=hr.at (ex.get hp) em2
      cases ei:ds2[i]? with
      |none=>
       simp only[ei] at en
       cases en
       refine .inl ⟨⟨xs,SqL.of g1,?_⟩,w1 σ' H' α' ex hr sr⟩
       rw[g2.length]
       exact List.getElem?_eq_none_iff.mp ei
      |some d=>
       simp only[ei] at en
       obtain ⟨v,k1,k2⟩:=g2.get ei
       cases m with
       |zero=>cases en;exact w1.elim
       |succ m=>
        refine .inr ⟨⟨xs,v,SqL.of g1,k1⟩,fun σ2 H2=> ∃ ρ' α' M',Ext X.K H1 H2 α1 α'/\SR X.K H2 α' σ2 ρ'/\HR X.K H2 α' M'/\ZdE gt g n m (i + 1) ρ' M'=o,fun σ2 H2 z=>⟨m,Nat.lt_succ_self m,z⟩,fun x H2 y=> ?_⟩
        obtain ⟨ey,y⟩:=y
        subst ey
        have ev:=y xs (SqL.of g1)
        rw[k1] at ev
        cases ev
        exact Zfv (tg:=tg) w1 qt qb ex sr hr k2 en (fun σ' H' z=>z)
 |_=>exact w1.elim
end
noncomputable def fnF (g:Sv) (n k:Nat):List D->Sto->Out D:=fun ds M=>if ds.length=n then (match g (ds.map some ++ List.replicate k none) M with
 | .ret d M'=> .ok d M'
 | .nx _ M'=> .ok .non M'
 | .exc c M'=> .exc c M'
 |_=> .bad) else .bad
noncomputable def spD (K:PySem.W.Frag) (F:List D->Sto->Out D):Sp:=fun vs H Q E=> ∃ ds α M,Reps K H α vs ds/\HR K H α M/\OP K H α E Q (F ds M)
theorem ZbX: ∀ {ds:List D} {k i:Nat} {d:D},(ds.map some ++ List.replicate k none)[i]?=some (some d)->ds[i]?=some d
 | [],k,i,d,h=>by
  rw[List.map_nil,List.nil_append] at h
  have:=List.mem_of_getElem? h
  rw[List.mem_replicate] at this
  cases this.2
 |x :: r,k,0,d,h=>by simpa using h
 |x :: r,k,i + 1,d,h=>by
  rw[List.map_cons,List.cons_append,List.getElem?_cons_succ] at h
  rw[List.getElem?_cons_succ]
  exact ZbX h
theorem SR.start {K:PySem.W.Frag} {H:Hp} {α:List Addr} {N:List Str} {vs:List V} {ds:List D} {k:Nat} (r:Reps K H α vs ds) (hk:k=N.length - ds.length):SR K H α (start N vs) (ds.map some ++ List.replicate k none):=by
 unfold L2.start
 refine ⟨by simp only[List.length_append,List.length_map,List.length_replicate,r.length,hk],fun i d h=> ?_⟩
 obtain ⟨v,h1,h2⟩:=r.get (ZbX h)
 refine ⟨v,?_,h2⟩
 have hl:i < vs.length:=(List.getElem?_eq_some_iff.mp h1).1
 rw[List.getElem?_append_left (by rw[List.length_map];exact hl),List.getElem?_map,h1]
 rfl
section
variable {P:Program} {w:World} {K:PySem.W.Frag} {mg:Str->Option Value} {base:Heap}
theorem ZaJ {x qual:Str} {st:Stmt} {f:Addr} {fd:FuncData} {N ps:List Str} {k n m:Nat} {g:Sv} (F:Fun K x qual st f fd) (S:FnScope N ps (Zg st)) (hn:n=ps.length) (hm:m=N.length - n)
  (hb: ∀ (cdv:Value) (A:Around) (outer:List Env) (s:Shared) (H:Hp) (E:XK),Room k (A.deeper (envOfC qual (Zg st) s.heap.objs.size f cdv))->Thr (Zcq (CXE P w) P w K mg base N qual (Zg st) f cdv A outer s H E) E->DSs (Zcq (CXE P w) P w K mg base N qual (Zg st) f cdv A outer s H E) E (Zq st) g):
  FnOk P w K mg base (CXE P w) (k + 1) f fd ps (spD K (fnF g n m)):=by
 obtain ⟨oc,od,kV,doc,pm,an,cdv,ct,osl,rfl,lk,hcd⟩:=F.ex
 refine Zlu lk hcd S (fun vs H Q E h=> ?_) (fun A outer s H vs Q E hr h=> ?_)
 ·obtain ⟨ds,α,M,r,_,q⟩:=h
  by_cases c:ds.length=n
  ·rw[r.length,c,hn]
  ·simp only[fnF,if_neg c] at q
   exact q.elim
 ·obtain ⟨ds,α,M,r,hh,q⟩:=h
  obtain ⟨t,p,w'⟩:=hb cdv A outer s H E hr Zi6
  by_cases c:ds.length=n
  ·simp only[fnF,if_pos c] at q
   refine ⟨t,p,w' _ _ H α M _ (SR.start (N:=N) r (k:=m) (by rw[hm,c])) hh ?_⟩
   cases e:g (ds.map some ++ List.replicate m none) M with
   |nx ρ' M'=>simp only[e] at q;exact fun σ' H' α' ex hr sr=>q _ H' α' ex hr .non
   |ret d M'=>simp only[e] at q;exact q
   |exc x M'=>simp only[e] at q;exact q
   |brk ρ' M'=>simp only[e] at q;exact q.elim
   |cnt ρ' M'=>simp only[e] at q;exact q.elim
   |bad=>simp only[e] at q;exact q.elim
  ·simp only[fnF,if_neg c] at q
   exact q.elim
end
section
variable {X:Cx} {ξ:XK} {k:Nat} {f:Addr} {fd:FuncData} {ps:List Str} {F:List D->Sto->Out D} {x:Str} {p pos:Pos} {e:Expr} {es:List Expr} {fs:Av}
theorem Zg9 (G:FnOk X.prog X.w X.K X.mg X.base (CXE X.prog X.w) k f fd ps (spD X.K F)) (T:Thr X ξ) (hr:Room k X.A) (hm:X.mg x=some (.ref f)) (hk:PySem.W.keepIn X.K (.ref f)=true) (hb:Zcx X.K fd ps []) (ha:DA X ξ (e :: es) fs) (hg:Gl X x:=by rfl)
  (hdb:(x == ("__debug__":Str))=false:=by decide) (he:starEach (e :: es) X.env=(false,eval e X.env) :: starEach es X.env:=by rfl) (hpl:(backTo pos (starEach es X.env)).any (·.1)=false:=by rfl):DE X ξ (.Call (.Name x p) (e :: es) [] pos) (Zm F fs):=by
 obtain ⟨t,pa,qa⟩:=ha
 refine ⟨_,ZgR G hr hg hm hk hb .nil T.ps pa hdb he hpl,fun σ ρ H α M Q s hh q=>qa σ ρ H α M _ s hh (OG.seq q fun ds M1 vs H1 α1 e1 h1 r1 q1=> ?_)⟩
 rw[List.append_nil]
 exact ⟨ds,α1,M1,r1,h1,q1⟩
end
end DL
end
section
namespace DL
open PySem PySem.Spec PyProof.Rows L2
theorem Zgi:bootBuiltins "abs"=some (.builtin "abs"):=by decide +kernel
theorem Zi9:bootBuiltins "int"=some (.type "int"):=by decide +kernel
theorem Zha:bootBuiltins "list"=some (.type "list"):=by decide +kernel
theorem ZbY:bootBuiltins "max"=some (.builtin "max"):=by decide +kernel
theorem ZbZ:bootBuiltins "min"=some (.builtin "min"):=by decide +kernel
noncomputable def Cal (P:Program) (w:World) (K:PySem.W.Frag) (mg:Str->Option Value) (base:Heap) (x:Str) (k n:Nat) (F:List D->Sto->Out D):Prop:=
 ∃ (f:Addr) (fd:FuncData) (ps:List Str),FnOk P w K mg base (CXE P w) k f fd ps (spD K F)/\mg x=some (.ref f)/\PySem.W.keepIn K (.ref f)=true/\ps.length=n/\Zcx K fd ps []
theorem Zi {X:Cx} {ξ:XK} {k n:Nat} {F:List D->Sto->Out D} {x:Str} {p pos:Pos} {e:Expr} {es:List Expr} {fs:Av} (C:Cal X.prog X.w X.K X.mg X.base x k n F) (T:Thr X ξ) (hr:Room k X.A) (ha:DA X ξ (e :: es) fs) (hg:Gl X x:=by rfl)
  (hdb:(x == ("__debug__":Str))=false:=by decide) (he:starEach (e :: es) X.env=(false,eval e X.env) :: starEach es X.env:=by rfl) (hpl:(backTo pos (starEach es X.env)).any (·.1)=false:=by rfl):DE X ξ (.Call (.Name x p) (e :: es) [] pos) (Zm F fs):=by
 obtain ⟨f,fd,ps,G,hm,hk,_,hb⟩:=C
 exact Zg9 G T hr hm hk hb ha hg hdb he hpl
theorem Zja {K:PySem.W.Frag} {H:Hp} {a:Addr} {ns:List Int} {n:Nat} {F:List D->Sto->Out D} (hl:ns.length<=n) (hO:Zk4 H) (hS:SqL K H a (ns.map V.int)) (h: ∃ M',F [.rol (ns.map D.int)] []= .ok (.bl true) M'):
  spD K F [.ref a] H (fun v _=>v= .bl true) (fun _ _ _=>False):=by
 obtain ⟨M',e⟩:=h
 have hF:SqF K H a (ns.map V.int):=by
  rcases hS with (h | ⟨o,h⟩) | h
  ·rcases hO a with z | ⟨o,xs,z⟩
   ·rw[h] at z;cases z
   ·rw[h] at z;cases z
  ·exact .inl ⟨o,h⟩
  ·exact .inr h
 refine ⟨[.rol (ns.map D.int)],[],[],.cons (.rol hF (Reps.ints ns)) .nil,HR.nil,?_⟩
 rw[e]
 intro v H' α' _ _ r
 cases r
 rfl
end DL
end
section
namespace DL
open PySem PySem.Spec PyProof.Rows L2
inductive Src where
 |pur (ds:List D)
 |sto (n:Nat)
 |zip (n m:Nat)
 |enu (n:Nat)
 |rev (n l:Nat)
 |zips (ns:List Nat)
 |dct (n:Nat)
noncomputable def Zeq (M:Sto) (i:Nat):List Nat->Option (Option (List D))
 | []=>some (some [])
 |n :: ns=>match M[n]? with
  |none=>none
  |some (.lst xs)=>match Zeq M i ns with
   |none=>none
   |some r=>match xs[i]?,r with | some x,some ds=>some (some (x :: ds)) | _,_=>some none
noncomputable def nxt (src:Src) (i:Nat) (M:Sto):Option (Option D):=match src with
 | .pur ds=>some ds[i]?
 | .sto n=>match M[n]? with | some (.lst xs)=>some xs[i]? | none=>none
 | .zip n m=>match M[n]?,M[m]? with
  |some (.lst xs),some (.lst ys)=>(match xs[i]?,ys[i]? with | some x,some y=>some (some (.tup [x,y])) | _,_=>some none)
  |_,_=>none
 | .enu n=>match M[n]? with | some (.lst xs)=>(match xs[i]? with | some x=>some (some (.tup [.int i,x])) | none=>some none) | none=>none
 | .dct n=>match M[n]? with | some (.lst (.non :: r))=>(match r[i]? with | some (.tup (k :: _))=>some (some k) | some _=>none | none=>some none) | _=>none
 | .zips ns=>match Zeq M i ns with | some (some ds)=>some (some (.tup ds)) | some none=>some none | none=>none
 | .rev n l=>match M[n]? with | some (.lst xs)=>if i < l then (match xs[l - 1 - i]? with | some x=>some (some x) | none=>none) else (if i=l then some none else none) | none=>none
noncomputable def cnt (src:Src) (M:Sto):Nat:=match src with
 | .pur ds=>ds.length
 | .sto n=>match M[n]? with | some (.lst xs)=>xs.length | none=>0
 | .zip n _=>match M[n]? with | some (.lst xs)=>xs.length | none=>0
 | .enu n=>match M[n]? with | some (.lst xs)=>xs.length | none=>0
 | .rev _ l=>l
 | .dct n=>match M[n]? with | some (.lst xs)=>xs.length | none=>0
 | .zips ns=>match ns with | n :: _=>(match M[n]? with | some (.lst xs)=>xs.length | none=>0) | []=>0
noncomputable def Ats (H:Hp) (α:List Addr):List Nat->List Addr->Prop
 | [],[]=>True
 |n :: ns,l :: ls=>RefK H α 0 n l/\Ats H α ns ls
 |_,_=>False
noncomputable def Zjb (K:PySem.W.Frag) (H:Hp) (α:List Addr) (J:It) (src:Src):Prop:= ∀ (i:Nat) H' α' M',Ext K H H' α α'->HR K H' α' M'->match nxt src i M' with
 |some none=>J.stop i H'
 |some (some d)=>J.go i H'/\ ∀ x H'',J.yld i H' x H''->Ext K H' H'' α' α'/\HR K H'' α' M'/\Rep K H'' α' x d
 |none=>True
noncomputable def DI (X:Cx) (ξ:XK) (tg iter:Expr) (f:Ro->Sto->Out Src):Prop:= ∃ wi:TI,PI X tg iter wi/\ ∀ σ ρ H α M R,SR X.K H α σ ρ->HR X.K H α M->OG X.K (Zjb X.K) H α ξ R (f ρ M)->wi σ H R
section
variable {X:Cx} {ξ:XK} {tg iter a b:Expr} {fs:Av} {f:Ev} {p pos:Pos}
noncomputable def iR1 (fs:Av):Ro->Sto->Out Src:=fun ρ M=>(fs ρ M).bind fun ds M1=>match ds with
 | [.int j]=>if -(2 ^ 62)<=j/\j < 2 ^ 62 then .ok (.pur (ZaI 0 j.toNat)) M1 else .bad
 |_=> .bad
theorem Zid {K:PySem.W.Frag} {H:Hp} {α:List Addr} {lo:Int} {n:Nat}:Zjb K H α (Itr lo n) (.pur (ZaI lo n)):=by
 intro i H' α' M' ex hr
 show match some (ZaI lo n)[i]? with | some none=>_ | some (some d)=>_ | none=>True
 by_cases h:i < n
 ·rw[Zc1 h]
  refine ⟨h,fun x H'' y=> ?_⟩
  obtain ⟨e1,e2⟩:=y
  subst e1 e2
  exact ⟨Ext.refl,hr,.int _⟩
 ·rw[List.getElem?_eq_none (by rw[Zbx];omega)]
  exact Nat.le_of_not_lt h
noncomputable def iSq (f:Ev):Ro->Sto->Out Src:=fun ρ M=>(f ρ M).bind fun d M1=>match d with
 | .tup ds=> .ok (.pur ds) M1
 | .rol ds=> .ok (.pur ds) M1
 | .con ds=> .ok (.pur ds) M1
 | .ref n=> .ok (.sto n) M1
 |_=> .bad
end
noncomputable def blk (X:Cx) (scope:Scope) (cl:List (Str × Addr)) (N:List Str) (C:Addr) (fp:List Addr) (s:Shared) (H:Hp):Cx:=
 { X with N:=N,s₀:=s,H₀:=H,env:=compEnvC scope cl C X.env,outer:=X.stack,stack:=X.stack,ex:=fp,fn:=fun _=>false,pn:=[],xe:=fun _ _=>False }
noncomputable def ZbI (src:Src) (tg:Tg) (c:Tv) (f:Ev) (n:Nat):Nat->Nat->Ro->Sto->Out Unit
 |fuel,i,ρ,M=>match nxt src i M with
  |none=> .bad
  |some none=> .ok () M
  |some (some d)=>(match fuel with
   |0=> .bad
   |fuel + 1=>(match tg d ρ with
    |none=> .bad
    |some ρ1=>(match c ρ1 M with
     | .ok true M1=>(match f ρ1 M1 with
      | .ok x M2=>(match M2[n]? with
       |some (.lst xs)=>if xs.length < 10000000 then ZbI src tg c f n fuel (i + 1) ρ1 (M2.set n (.lst (xs ++ [x]))) else .bad
       |none=> .bad)
      |_=> .bad)
     | .ok false M1=>ZbI src tg c f n fuel (i + 1) ρ1 M1
     |_=> .bad)))
noncomputable def roB (k:Nat) (fr:List Nat) (ρ:Ro):Ro:=List.replicate k none ++ fr.map fun i=>(ρ[i]?).join
noncomputable def Zdr (fi:Ro->Sto->Out Src) (k:Nat) (fr:List Nat) (tg:Tg) (c:Tv) (f:Ev):Ev:=fun ρ M=>(fi ρ M).bind fun src M1=>match ZbI src tg c f M1.length (cnt src M1) 0 (roB k fr ρ) (M1 ++ [.lst []]) with
 | .ok _ M2=> .ok (.ref M1.length) M2
 |_=> .bad
structure Blk (X:Cx) (scope:Scope) (cl:List (Str × Addr)) (N:List Str) (k:Nat) (fr:List Nat):Prop where
 clos:closureFor scope X.env=pure cl
 kind:scope.kind= .function
 cell: ∀ y∈scope.names,y.2≠ .cell
 names: ∀ y∈scope.names,y.2= .local->scope.names.lookup y.1=some .local
 sub: ∀ x c,cl.lookup x=some c->X.env.cells.lookup x=some c
 has: ∀ x,((relabel scope X.env).names.lookup x=some .cell\/(relabel scope X.env).names.lookup x=some .free)-> ∃ c,cl.lookup x=some c
 len:N.length=k + fr.length
 at_: ∀ (j i:Nat),fr[j]?=some i-> ∃ x,N[k + j]?=some x/\X.N[i]?=some x/\X.env.kindOf x=some .cell/\((relabel scope X.env).names.lookup x=some .cell\/(relabel scope X.env).names.lookup x=some .free)/\cl.lookup x=X.env.cells.lookup x
theorem Zb0 {prog:Program} {w:World} {A:Around} {R:Result->Shared->Prop} {s:Shared} {elt target iter:Expr} {ifs:List Expr} {scope:Scope} {pos:Pos} {it acc:Value} {env:Env} (I:Nat->Shared->Prop)
  (turn: ∀ n s,I n s->wpAny (model prog w) A (pyNext it) (fun r s₁=>match r with
   |none=>R (.ok .next) s₁
   |some v=>wpAny (model prog w) A (letOwnedTupleGo target it v) (fun _ s₁=>wpAny (model prog w) A (assign target env v) (fun _ s₂=>
     wpAny (model prog w) A (forIn ifs true fun c r=>if r=true then do let ok <- isTrue c env (eval c env);pure (ForInStep.yield ok) else pure (ForInStep.yield r)) (fun ok s₃=>
      if ok=true then wpAny (model prog w) A (eval elt env) (fun x s₄=>
       wpAny (model prog w) A (call (.builtin "list.append") [acc,x]) (fun _ s₅=> ∃ m,m < n/\I m s₅) (fun _ _=>False) s₄) (fun _ _=>False) s₃
      else ∃ m,m < n/\I m s₃) (fun _ _=>False) s₂) (fun _ _=>False) s₁) (fun _ _=>False) s₁) (fun _ _=>False) s)
  (n:Nat) (h:I n s):
  codeAny (model prog w) A (.compLoop (.ListComp elt [⟨target,iter,ifs,0⟩] scope pos) 0 it acc env) R s:=by
 refine codeAny_loop rfl I (fun n s hI=> ?_) n h
 show wpAny _ A ((compTurn (.ListComp elt [⟨target,iter,ifs,0⟩] scope pos) 0 it acc env).onRaise (fun x=>do noteFrame x env;theTreesLotGoes x)) _ _ s
 refine wpAny_noted ?_
 rw[compTurn_list]
 refine wpAny_bind (wpAny_standAt (wpAny_bind (wpAny_mono (turn n s hI) (fun r s₁ h₁=> ?_) fun _ _ h'=>h'.elim)))
 cases r with
 |none=>exact wpAny_pure h₁
 |some v=>
  refine wpAny_bind (wpAny_mono h₁ (fun _ s₁ h₁=> ?_) fun _ _ h'=>h'.elim)
  refine wpAny_bind (wpAny_mono h₁ (fun _ s₂ h₂=>wpAny_bind (wpAny_mono h₂ (fun ok s₃ h₃=> ?_) fun _ _ h'=>h'.elim)) fun _ _ h'=>h'.elim)
  cases ok with
  |false=>exact wpAny_pure ⟨rfl,h₃⟩
  |true=>
   exact wpAny_bind (wpAny_bind (wpAny_mono h₃ (fun x s₄ h₄=>wpAny_bind (wpAny_mono h₄ (fun _ s₅ h₅=>wpAny_pure (wpAny_pure ⟨rfl,h₅⟩)) fun _ _ h'=>h'.elim)) fun _ _ h'=>h'.elim))
noncomputable def DC (X:Cx) (ifs:List Expr) (c:Tv):Prop:=(ifs=[]/\c=fun _ M=> .ok true M)\/ ∃ e,ifs=[e]/\DT X E0 e c
section
variable {X:Cx} {ξ:XK} {tg iter elt:Expr} {ifs:List Expr} {scope:Scope} {cl:List (Str × Addr)} {N:List Str} {k:Nat} {fr:List Nat} {fi:Ro->Sto->Out Src} {gt:Tg} {c:Tv} {f:Ev} {pos:Pos}
theorem Zgj (B:Blk X scope cl N k fr) {pins:List (Addr × Obj)} {σ:L2.St} {H:Hp} {s:Shared} {fp:List Addr} (I:Inv X pins σ H s) (hf: ∀ b∈fp,Zdf X pins H b) (hlt: ∀ b∈fp,b < s.heap.objs.size):(blk X scope cl N s.heap.objs.size fp s H).Ok where
 mod:=I.ok.mod
 kind:=B.kind
 glob:=I.ok.glob
 blt:=I.ok.blt
 above:=Nat.le_refl _
 inj:=fun x y c h1 h2=>I.ok.inj x y c (B.sub x c h1) (B.sub y c h2)
 has:=fun x h=>B.has x h
 cab:=fun x c h=>(by cases h)
 hd:=I.ok.hd
 frames:=I.ok.frames
 stk:= .inl rfl
 exf:=fun b hb=>⟨Nat.ne_of_lt (hlt b hb),fun x c h=>(hf b hb).2.2.2.2.1 x c (B.sub x c h)⟩
 bs:=I.bs
 bsz:=Nat.le_trans I.ok.bsz I.sz
 noex:=fun b o e hb=>by
  rcases (hf b hb).2.2.2.1 with z | z
  ·exact I.ok.noex b o e z
  ·exact absurd (Nat.lt_of_lt_of_le (Heap.lt_size (I.ok.bs b o e).1) z) (Nat.lt_irrefl _)
 exfs:=fun b hb z=>by
  rcases List.mem_cons.mp (I.stkSub b z) with e | e
  ·exact (hf b hb).2.1 e
  ·exact (hf b hb).2.2.1 e
 funs:=I.stack
 frf:=I.stkFree
theorem join_some {α:Type} {o:Option (Option α)} {v:α} (h:o.join=some v):o=some (some v):=by
 cases o with
 |none=>cases h
 |some x=>cases x with
  |none=>cases h
  |some y=>cases h;rfl
theorem Zhb {ρ:Ro} {i:Nat} {d:D} (h:(roB k fr ρ)[i]?=some (some d)): ∃ j r,i=k + j/\fr[j]?=some r/\ρ[r]?=some (some d):=by
 unfold roB at h
 by_cases hi:i < k
 ·rw[List.getElem?_append_left (by rw[List.length_replicate];exact hi)] at h
  have:=List.mem_of_getElem? h
  rw[List.mem_replicate] at this
  cases this.2
 ·rw[List.getElem?_append_right (by rw[List.length_replicate];omega),List.length_replicate,List.getElem?_map] at h
  cases e:fr[i - k]? with
  |none=>rw[e] at h;cases h
  |some r=>
   rw[e] at h
   exact ⟨i - k,r,by omega,e,join_some (Option.some.inj h)⟩
noncomputable def stB (k:Nat) (fr:List Nat) (σ:L2.St):L2.St:=List.replicate k none ++ fr.map fun i=>(σ[i]?).join
theorem Zhc {σ:L2.St} {i:Nat} {d:V} (h:(stB k fr σ)[i]?=some (some d)): ∃ j r,i=k + j/\fr[j]?=some r/\σ[r]?=some (some d):=by
 unfold stB at h
 by_cases hi:i < k
 ·rw[List.getElem?_append_left (by rw[List.length_replicate];exact hi)] at h
  have:=List.mem_of_getElem? h
  rw[List.mem_replicate] at this
  cases this.2
 ·rw[List.getElem?_append_right (by rw[List.length_replicate];omega),List.length_replicate,List.getElem?_map] at h
  cases e:fr[i - k]? with
  |none=>rw[e] at h;cases h
  |some r=>
   rw[e] at h
   exact ⟨i - k,r,by omega,e,join_some (Option.some.inj h)⟩
theorem SR.blk {K:PySem.W.Frag} {H:Hp} {α:List Addr} {σ:L2.St} {ρ:Ro} (h:SR K H α σ ρ):SR K H α (stB k fr σ) (roB k fr ρ):=by
 refine ⟨by simp[stB,roB],fun i d e=> ?_⟩
 obtain ⟨j,r,rfl,e1,e2⟩:=Zhb e
 obtain ⟨v,e3,e4⟩:=h.2 r d e2
 refine ⟨v,?_,e4⟩
 unfold stB
 rw[List.getElem?_append_right (by rw[List.length_replicate];omega),List.length_replicate,List.getElem?_map,Nat.add_sub_cancel_left,e1]
 show some (σ[r]?).join=_
 rw[e3]
 rfl
theorem Zhd (B:Blk X scope cl N k fr) {pins:List (Addr × Obj)} {σ:L2.St} {H:Hp} {s:Shared} {fp:List Addr} {h1:Heap} {tk:Nat} {m:Str->Option Value} (I:Inv X pins σ H s) (hf: ∀ b∈fp,Zdf X pins H b) (hlt: ∀ b∈fp,b < s.heap.objs.size)
  (hn:h1.Ns s.heap.objs.size m) (hk: ∀ b o,s.heap.get? b=some o->h1.get? b=some o):Inv (blk X scope cl N s.heap.objs.size fp s H) [] (stB k fr σ) H { s with heap:=h1,toks:=tk } where
 ok:=Zgj B I hf hlt
 os:=rfl
 bare:=I.bare
 base:=Un.kept hk
 loc:=by
  refine ⟨m,hn,fun i x v e1 e2 e3=> ?_⟩
  obtain ⟨j,r,rfl,g1,g2⟩:=Zhc e2
  obtain ⟨y,k1,k2,k3,k4,k5⟩:=B.at_ j r g1
  have exy:x=y:=Option.some.inj (e1.symm.trans k1)
  subst exy
  obtain ⟨m0,hm0,hl⟩:=I.loc
  obtain ⟨u,ru,lk⟩:=hl r x v k2 g2 (.inr (.inl k3))
  refine ⟨u,ru,?_⟩
  rcases lk with ⟨z,_⟩ | ⟨_,c,z1,⟨o,z2,z3⟩⟩
  ·rw[k3] at z;cases z
  ·exact .inr ⟨k4,c,k5.trans z1,⟨o,hk _ _ z2,z3⟩⟩
 cell:=fun x c h=>by
  obtain ⟨v,o,e1,e2⟩:=I.cell x c (B.sub x c h)
  exact ⟨v,o,hk _ _ e1,e2⟩
 free:=I.fresh
 freeC:=fun x c h=>I.freeC x c (B.sub x c h)
 pin:=fun p hp=>(by simp[blk] at hp)
 hok:=I.hok.kept hk
 len:=by
  show (stB k fr σ).length=N.length
  rw[B.len]
  simp[stB]
 qd:=I.qd
theorem Zfx {pins:List (Addr × Obj)} {σ σ5:L2.St} {H3 H5:Hp} {s3 s6:Shared} {fp:List Addr} (B:Blk X scope cl N k fr) (I3:Inv X pins σ H3 s3) (f3: ∀ b∈fp,Zdf X pins H3 b) (I6:Inv (blk X scope cl N s3.heap.objs.size fp s3 H3) [] σ5 H5 s6):Inv X pins σ H5 s6/\ ∀ (σ':L2.St) (s8:Shared) (h':Heap),Inv X pins σ' H5 s8->(∀ b o,b≠s3.heap.objs.size->s8.heap.get? b=some o->h'.get? b=some o)->Inv X pins σ' H5 { s8 with heap:=h',toks:=s8.toks }:=by
 refine ⟨I3.call' (s':=s6) (ch:=fp) I6.os I6.base I6.hok I6.bare fun b hb=> ?_,fun σ' s8 h' I8 sb=> ?_⟩
 ·obtain ⟨_,z1,z2,z3,z4,z5⟩:=f3 b hb
  exact ⟨z3,z1,z4,z5⟩
 ·exact I8.turned (it:=s3.heap.objs.size) sb I6.free (Nat.ne_of_gt I3.lt) (.inr I3.sz)
   (fun x c h z=>by
    obtain ⟨v,o,e,_⟩:=I3.cell x c h
    exact absurd (Heap.lt_size e) (by rw[z];exact Nat.lt_irrefl _)) (fun p hp z=>by
    have:=(I3.pin p hp).1
    exact absurd (Heap.lt_size this) (by rw[z];exact Nat.lt_irrefl _))
noncomputable def CmI (Y:Cx) (fp:List Addr) (tn:Nat->Heap->Prop) (H3:Hp) (α3:List Addr) (g:Nat->Nat->Ro->Sto->Prop) (n:Nat) (s':Shared):Prop:=
 ∃ i σ' ρ' H' α' M',Inv Y [] σ' H' s'/\tn i s'.heap/\(∀ b∈fp,H' b=none)/\SR Y.K H' α' σ' ρ'/\HR Y.K H' α' M'/\Ext Y.K H3 H' α3 α'/\g n i ρ' M'
theorem Zfy {Y:Cx} {fp α3:List Addr} {it D:Addr} {tn:Nat->Heap->Prop} {J:It} {tg iter elt:Expr} {ifs:List Expr} {scope:Scope} {pos:Pos} {gt:Tg} {c:Tv} {f:Ev} {src:Src} {H3:Hp} {σ0:L2.St} {ρ0:Ro} {M3 M9:Sto} {u9:Unit} {n0 fuel:Nat} {s4:Shared} {R:Result->Shared->Prop}
  (T:Turn Y.prog Y.w Y.K Y.A tg J fp it tn) (hxe: ∀ x y,Y.xe x y->False) (fp5: ∀ {H':Hp},(∀ b∈fp,H' b=none)-> ∀ b∈fp,Zdf Y [] H' b) (hg:DG Y tg gt) (tst:DC Y ifs c) (he:DE Y E0 elt f)
  (sc:Zjb Y.K H3 α3 J src) (aD:RefK H3 α3 0 n0 D) (I4:Inv Y [] σ0 H3 s4) (st4:tn 0 s4.heap) (fr4: ∀ b∈fp,H3 b=none) (sr:SR Y.K H3 α3 σ0 ρ0) (h3:HR Y.K H3 α3 M3) (er:ZbI src gt c f n0 fuel 0 ρ0 M3= .ok u9 M9)
  (post: ∀ σ5 H5 α5 s6,Inv Y [] σ5 H5 s6->Ext Y.K H3 H5 α3 α5->HR Y.K H5 α5 M9->R (.ok .next) s6):
  codeAny (model Y.prog Y.w) Y.A (.compLoop (.ListComp elt [⟨tg,iter,ifs,0⟩] scope pos) 0 (.ref it) (.ref D) Y.env) R s4:=by
 obtain ⟨tt,pt,qt⟩:=hg
 obtain ⟨te,pe,qe⟩:=he
 refine Zb0 (CmI Y fp tn H3 α3 fun n i ρ' M'=>ZbI src gt c f n0 n i ρ' M'= .ok u9 M9) ?_ fuel ⟨0,σ0,ρ0,H3,α3,M3,I4,st4,fr4,sr,h3,Ext.refl,er⟩
 rintro n s5 ⟨i,σ5,ρ5,H5,α5,M5,I5,st5,fr5,sr5,hr5,ex5,en⟩
 have src5:=sc i H5 α5 M5 ex5 hr5
 rw[ZbI] at en
 cases ex:nxt src i M5 with
 |none=>rw[ex] at en;cases en
 |some od=>
  rw[ex] at src5 en
  cases od with
  |none=>
   cases en
   have fin:=T.done Y rfl rfl rfl rfl i [] s5 σ5 H5 (fun _ _=>False) I5 (fp5 fr5) st5 src5
   refine thn fin fun r s6 w6=> ?_
   obtain ⟨hr6,I6⟩:=w6
   subst hr6
   exact post σ5 H5 α5 s6 I6 ex5 hr5
  |some d=>
   obtain ⟨go,yl⟩:=src5
   cases n with
   |zero=>cases en
   |succ n=>
    simp only at en
    have itm:=T.item Y rfl rfl rfl rfl i [] s5 σ5 H5 (fun _ _=>False) I5 (fp5 fr5) st5 go
    refine thn itm fun r s6 ⟨u,hr6,w6⟩=> ?_
    subst hr6
    refine thn w6 fun _ s7 ⟨x,H7,I7,r7,y7,st7,fr7⟩=> ?_
    obtain ⟨ex7,hr7,rp7⟩:=yl x H7 y7
    have sr5:=sr5.mono ex7
    have hr5:=hr7
    have ex5:=ex5.trans ex7
    have I7':=I7.pinned (fp5 fr7) (T.obj _ _ st7)
    cases eg:gt d ρ5 with
    |none=>rw[eg] at en;cases en
    |some ρ6=>
     rw[eg] at en
     simp only at en
     have asg:=pt _ s7 σ5 H7 x u _ I7' r7 (qt x d σ5 ρ5 H7 α5 ρ6 (fun σ' H'=>H'=H7/\SR Y.K H7 α5 σ' ρ6) sr5 rp7 eg fun σ' s'=>⟨rfl,s'⟩)
     refine wpAny_mono asg (fun _ s8 ⟨σ8,H8,I8,z8,sr8⟩=> ?_) (fun x y z=>hxe x y z)
     subst z8
     have again: ∀ {σ9:L2.St} {H9:Hp} {s9:Shared},Inv Y ([] ++ Zbm fp s7.heap) σ9 H9 s9->Inv Y [] σ9 H9 s9/\tn (i + 1) s9.heap/\ ∀ b∈fp,H9 b=none:=fun {σ9 H9 s9} I9=>by
      refine ⟨I9.unpinned,T.keep _ _ _ st7 fun b hb o e=>(I9.pin (b,o) (List.mem_append_right _ (List.mem_append_right _ (ZaA hb e)))).1,fun b hb=> ?_⟩
      obtain ⟨o,e,_⟩:=T.obj _ _ st7 b hb
      exact (I9.pin (b,o) (List.mem_append_right _ (List.mem_append_right _ (ZaA hb e)))).2.1
     have after: ∀ (kk:Bool) (M8:Sto) (H9:Hp) (α9:List Addr) (s9:Shared),Inv Y ([] ++ Zbm fp s7.heap) σ8 H9 s9->Ext Y.K H8 H9 α5 α9->HR Y.K H9 α9 M8->c ρ6 M5= .ok kk M8->
       (if kk=true then wpAny (model Y.prog Y.w) Y.A (eval elt Y.env) (fun x s₄=>wpAny (model Y.prog Y.w) Y.A (call (.builtin "list.append") [.ref D,x]) (fun _ s₅=> ∃ m,m < n + 1/\CmI Y fp tn H3 α3 (fun n i ρ' M'=>ZbI src gt c f n0 n i ρ' M'= .ok u9 M9) m s₅) (fun _ _=>False) s₄) (fun _ _=>False) s9
        else ∃ m,m < n + 1/\CmI Y fp tn H3 α3 (fun n i ρ' M'=>ZbI src gt c f n0 n i ρ' M'= .ok u9 M9) m s9):=by
      intro kk M8 H9 α9 s9 I9 ex9 hr9 ec
      rw[ec] at en
      cases kk with
      |false=>
       obtain ⟨a1,a2,a3⟩:=again I9
       exact Zh9 ⟨n,Nat.lt_succ_self n,i + 1,σ8,ρ6,H9,α9,M8,a1,a2,a3,sr8.mono ex9,hr9,ex5.trans ex9,en⟩
      |true=>
       simp only at en
       refine Zia ?_
       cases ef:f ρ6 M8 with
       |exc x9 M10=>rw[ef] at en;cases en
       |bad=>rw[ef] at en;cases en
       |ok y M10=>
        rw[ef] at en
        simp only at en
        have ev:=pe _ s9 σ8 H9 (fun v H'=> ∃ α',Ext Y.K H9 H' α9 α'/\HR Y.K H' α' M10/\Rep Y.K H' α' v y) I9 (qe σ8 ρ6 H9 α9 M8 _ (sr8.mono ex9) hr9 (by
         rw[ef]
         exact fun v H' α' e h r=>⟨α',e,h,r⟩))
        refine wpAny_mono ev (fun yv s10 ⟨v,H10,I10,r10,α10,ex10,hr10,rp10⟩=> ?_) (fun x y z=>hxe x y z)
        cases em:M10[n0]? with
        |none=>rw[em] at en;cases en
        |some so=>
         cases so with
         |lst ds=>
          rw[em] at en
          simp only at en
          by_cases cz:ds.length < 10000000
          ·rw[if_pos cz] at en
           have aD10:=ex10.get (ex9.get (ex5.get aD))
           obtain ⟨xs,g1,g2⟩:=hr10.at aD10 em
           have ap:=ZbO (X:=Y) _ s10 σ8 H10 (.ref D) [v] (.ref D) [yv] (fun _ H'=>H'=upd H10 D (.lst (xs ++ [v]))) I10 rfl (.cons r10 .nil) ⟨D,xs,v,rfl,rfl,g1,by rw[g2.length];exact Nat.lt_of_lt_of_le cz (by decide),rfl⟩
           refine wpAny_mono ap (fun _ s11 ⟨v11,H11,I11,_,z11⟩=> ?_) (fun x y z=>hxe x y z)
           subst z11
           obtain ⟨a1,a2,a3⟩:=again I11
           have exw:Ext Y.K H10 (upd H10 D (.lst (xs ++ [v]))) α10 α10:=Ext.wr g1
           exact ⟨n,Nat.lt_succ_self n,i + 1,σ8,ρ6,_,α10,_,a1,a2,a3,((sr8.mono ex9).mono ex10).mono exw,hr10.wr aD10 g1 (g2.append (.cons rp10 .nil)),((ex5.trans ex9).trans ex10).trans exw,en⟩
          ·rw[if_neg cz] at en
           cases en
     rcases tst with ⟨rfl,ec⟩ | ⟨e,rfl,tt',ptt,qtt⟩
     ·refine wpAny_tests_nil ?_
      exact after true M5 H8 α5 s8 I8 Ext.refl hr5 (by rw[ec])
     ·refine wpAny_tests_one ?_
      cases ec:c ρ6 M5 with
      |exc x9 M10=>rw[ec] at en;cases en
      |bad=>rw[ec] at en;cases en
      |ok kk M8=>
       have tv':=ptt _ s8 σ8 H8 (fun b H'=>b=kk/\ ∃ α',Ext Y.K H8 H' α5 α'/\HR Y.K H' α' M8) I8 (qtt σ8 ρ6 H8 α5 M5 _ sr8 hr5 (by
        rw[ec]
        exact fun v H' α' e h r=>⟨r,α',e,h⟩))
       refine wpAny_mono tv' (fun b s9 ⟨H9,I9,zb,α9,ex9,hr9⟩=> ?_) (fun x y z=>hxe x y z)
       subst zb
       exact after b M8 H9 α9 s9 I9 ex9 hr9 ec
theorem Zhe (B:Blk X scope cl N k fr) (hi:DI X ξ tg iter fi) (hg: ∀ C fp s H,DG (blk X scope cl N C fp s H) tg gt) (ht: ∀ C fp s H,DC (blk X scope cl N C fp s H) ifs c) (he: ∀ C fp s H,DE (blk X scope cl N C fp s H) E0 elt f)
  (hs: ∀ x,foldedSetIterable iter X.env x=pure x:=by intro _;rfl):DE X ξ (.ListComp elt [⟨tg,iter,ifs,0⟩] scope pos) (Zdr fi k fr gt c f):=by
 obtain ⟨wi,pi,qi⟩:=hi
 refine ⟨fun σ H Q=> ∃ ρ α M,SR X.K H α σ ρ/\HR X.K H α M/\OP X.K H α ξ Q (Zdr fi k fr gt c f ρ M),?_,fun σ ρ H α M Q s h q=>⟨ρ,α,M,s,h,q⟩⟩
 rintro pins s σ H Q I ⟨ρ,α,M,sr,hr,op⟩
 rw[eval_ListComp]
 refine wpAny_comprehension_free (use:=none) rfl hs B.clos B.kind B.names ?_
 refine thn (pi pins s σ H (fun J H2=> ∃ α2 M2 src,Ext X.K H H2 α α2/\HR X.K H2 α2 M2/\Zjb X.K H2 α2 J src/\OP X.K H2 α2 ξ Q (match ZbI src gt c f M2.length (cnt src M2) 0 (roB k fr ρ) (M2 ++ [.lst []]) with | .ok _ M2'=> .ok (.ref M2.length) M2' | _=> .bad)) I
  (qi σ ρ H α M _ sr hr (OG.seq op fun src M1 J H1 α1 e1 h1 r1 q1=>⟨α1,M1,src,e1,h1,r1,q1⟩))) fun v s1 w1=>thn w1 fun itv s2 w2=> ?_
 obtain ⟨it,fp,tn,J,H2,rfl,I2,T,st2,f2,α2,M2,src,e2,h2,sc,op2⟩:=w2
 have srI:=sr.mono e2
 refine wpAny_newObj_type ?_
 have I3:Inv X pins σ (upd H2 s2.heap.objs.size (.lst [])) { s2 with heap:=s2.heap.push { cls:= .type "list",data:= .seq ([]:List Value).toArray } }:=I2.lnew (its:=[]) (t':=s2.toks) .nil (Nat.zero_le _)
 have fD:H2 s2.heap.objs.size=none:=I2.fresh
 generalize hD:s2.heap.objs.size=D at I3 fD
 generalize hs3:({ s2 with heap:=s2.heap.push { cls:= .type "list",data:= .seq ([]:List Value).toArray } }:Shared)=s3 at I3
 generalize hH3:upd H2 D (.lst [])=H3 at I3
 have h3:HR X.K H3 (α2 ++ [D]) (M2 ++ [.lst []]):=by rw[<- hH3];exact h2.new fD .nil
 have e3:Ext X.K H2 H3 α2 (α2 ++ [D]):=by rw[<- hH3];exact Ext.new fD
 have aD:RefK H3 (α2 ++ [D]) 0 M2.length D:=⟨h2.last D,by first | exact Kn.lst Zl | (rw[<- hH3];exact Kn.lst Zl)⟩
 have lt2: ∀ b∈fp,b < s2.heap.objs.size:=fun b hb=>let ⟨o,e,_⟩:=T.obj _ _ st2 b hb;Heap.lt_size e
 have keep3: ∀ b o,s2.heap.get? b=some o->s3.heap.get? b=some o:=fun b o e=>by rw[<- hs3];exact Heap.get?_push_of_some _ e
 have f3: ∀ b∈fp,Zdf X pins H3 b:=fun b hb=>⟨by rw[<- hH3,Zs (by rw[<- hD];exact Nat.ne_of_lt (lt2 b hb))];exact (f2 b hb).1,(f2 b hb).2⟩
 have lt3: ∀ b∈fp,b < s3.heap.objs.size:=fun b hb=>let ⟨o,e,_⟩:=T.obj _ _ st2 b hb;Heap.lt_size (keep3 b o e)
 have st3:tn 0 s3.heap:=T.keep _ _ _ st2 fun b _ o e=>keep3 b o e
 refine wpAny_newFunctionEnv B.cell (by intro y hy;simp at hy) (fun h₁ hns₁ hsb₁=> ?_) B.kind
 have keep4: ∀ b o,s3.heap.get? b=some o->h₁.get? b=some o:=fun b o e=>hsb₁.extBut b o (Nat.ne_of_lt (Heap.lt_size e)) (Heap.get?_push_of_some _ e)
 have I4:=Zhd (tk:=s3.toks + ([]:List (Str × Value)).length) B I3 f3 lt3 hns₁ keep4
 have st4:tn 0 h₁:=T.keep _ _ _ st3 fun b _ o e=>keep4 b o e
 have fp5: ∀ {H':Hp},(∀ b∈fp,H' b=none)-> ∀ b∈fp,Zdf (blk X scope cl N s3.heap.objs.size fp s3 H3) [] H' b:=fun hn b hb=>⟨hn b hb,Nat.ne_of_lt (lt3 b hb),(Zgj B I3 f3 lt3).exfs b hb,.inl hb,fun x c h=>(f3 b hb).2.2.2.2.1 x c (B.sub x c h),fun p hp=>(by simp[blk] at hp)⟩
 cases er:ZbI src gt c f M2.length (cnt src M2) 0 (roB k fr ρ) (M2 ++ [.lst []]) with
 |exc x M9=>rw[er] at op2;exact op2.elim
 |bad=>rw[er] at op2;exact op2.elim
 |ok u9 M9=>
  rw[er] at op2
  have loop:codeAny (model X.prog X.w) X.A (.compLoop (.ListComp elt [⟨tg,iter,ifs,0⟩] scope pos) 0 (.ref it) (.ref D) (compEnvC scope cl s3.heap.objs.size X.env)) (compPost (model X.prog X.w) X.A X.xe none (EP X pins σ Q) (.ref D) s3.heap.objs.size) { s3 with heap:=h₁,toks:=s3.toks + ([]:List (Str × Value)).length }:=by
   refine Zfy (Y:=blk X scope cl N s3.heap.objs.size fp s3 H3) T (fun _ _ z=>z) fp5 (hg _ fp s3 H3) (ht _ fp s3 H3) (he _ fp s3 H3) (fun i H' α' M' ex hr=>sc i H' α' M' (e3.trans ex) hr) aD I4 st4 (fun b hb=>(f3 b hb).1) ((srI.blk).mono e3) h3 er ?_
   intro σ5 H5 α5 s6 I6 ex5 hr5
   obtain ⟨I7,I8⟩:=Zfx B I3 f3 I6
   obtain ⟨m6,hm6,_⟩:=id I6.loc
   exact ⟨m6,hm6,fun h' sb=>⟨.ref D,H5,I8 σ s6 h' I7 (fun b o hb e=>(sb.2 b hb).trans e),rfl,op2 _ H5 α5 (e3.trans ex5) hr5 (.ref (ex5.get aD))⟩⟩
  exact codeAny_compStart_list loop (T.self X.A 0 _ _ _ st4 loop)
end
end DL
end
section
namespace DL
open PySem PySem.Spec PyProof.Rows L2
theorem Zk9 {names:List (Str × NameKind)} {env:Env} (h:names.all (fun y=>y.2 != .cell && y.2 != .free)=true):
  (names.map fun (n,k)=>if (k == NameKind.free && env.scope.kind == .function && env.kindOf n == some .cell) then (n,NameKind.cell) else (n,k))=names:=by
 induction names with
 |nil=>rfl
 |cons y r ih=>
  rw[List.all_cons,Bool.and_eq_true] at h
  obtain ⟨n,kd⟩:=y
  have hk:(kd == NameKind.free)=false:=by
   have h1:=h.1
   rw[Bool.and_eq_true] at h1
   have h2:=h1.2
   cases kd<;>first | rfl | simp at h2
  rw[List.map_cons,ih h.2]
  simp[hk]
theorem ZcC {env:Env}: ∀ (names:List (Str × NameKind)) (acc:List (Str × Addr)),(∀ y∈names,y.2= .free-> ∃ c,env.cells.lookup y.1=some c)->
  (forIn names acc fun (x:Str × NameKind) (cs:List (Str × Addr))=>if x.2 == NameKind.free then (do let a <- cellOf env x.1;pure (ForInStep.yield ((x.1,a) :: cs))) else (pure (ForInStep.yield cs):Sem _))=
   (pure (((names.filter fun y=>y.2 == .free).map fun y=>(y.1,(env.cells.lookup y.1).getD 0)).reverse ++ acc):Sem (List (Str × Addr)))
 | [],acc,_=>by simp
 | (n,kd) :: r,acc,h=>by
  rw[List.forIn_cons]
  by_cases hk:(kd == NameKind.free)=true
  ·obtain ⟨c,hc⟩:=h (n,kd) List.mem_cons_self (by simpa using hk)
   have e1:cellOf env n=pure c:=by unfold cellOf;rw[hc]
   have ih:=ZcC r ((n,c) :: acc) fun y hy=>h y (List.mem_cons_of_mem _ hy)
   simp only[hk,if_true,e1,pure_bind]
   refine Eq.trans ih ?_
   simp[List.filter_cons,hk,hc]
  ·have ih:=ZcC r acc fun y hy=>h y (List.mem_cons_of_mem _ hy)
   simp only[hk,if_false,pure_bind]
   refine Eq.trans ih ?_
   simp[List.filter_cons,hk]
noncomputable def clF (scope:Scope) (env:Env):List (Str × Addr):=((scope.names.filter fun y=>y.2 == .free).map fun y=>(y.1,(env.cells.lookup y.1).getD 0)).reverse
theorem Zbp {env:Env}: ∀ {l:List (Str × NameKind)} {x:Str} {c:Addr},(l.map fun y=>(y.1,(env.cells.lookup y.1).getD 0)).lookup x=some c->c=(env.cells.lookup x).getD 0/\ ∃ y∈l,y.1=x
 | [],x,c,h=>by simp at h
 |y :: r,x,c,h=>by
  rw[List.map_cons,List.lookup_cons] at h
  cases e:x == y.1 with
  |true=>
   rw[e] at h
   have ex:x=y.1:=by simpa using e
   cases h
   exact ⟨by rw[ex],y,List.mem_cons_self,ex.symm⟩
  |false=>
   rw[e] at h
   obtain ⟨h1,z,h2,h3⟩:=Zbp h
   exact ⟨h1,z,List.mem_cons_of_mem _ h2,h3⟩
theorem ZaK {α:Type}: ∀ {l:List (Str × α)} {x:Str},(∃ y∈l,y.1=x)-> ∃ c,l.lookup x=some c
 | [],x,h=>by obtain ⟨y,h1,_⟩:=h;simp at h1
 |z :: r,x,h=>by
  rw[List.lookup_cons]
  cases e:x == z.1 with
  |true=>exact ⟨_,rfl⟩
  |false=>
   obtain ⟨y,h1,h2⟩:=h
   rcases List.mem_cons.mp h1 with q | q
   ·subst q;rw[h2] at e;simp at e
   ·exact ZaK ⟨y,q,h2⟩
theorem ZQ {env:Env} (nc: ∀ n,env.scope.names.lookup n=env.kindOf n): ∀ {names:List (Str × NameKind)} {x:Str} {kd:NameKind},(names.map fun (n,k)=>if (k == NameKind.free && env.scope.kind == .function && env.kindOf n == some .cell) then (n,NameKind.cell) else (n,k)).lookup x=some kd->
  names.lookup x=some kd\/(names.lookup x=some .free/\kd= .cell)
 | [],x,kd,h=>by simp at h
 | (n,q) :: r,x,kd,h=>by
  rw[List.map_cons,List.lookup_cons] at h
  rw[List.lookup_cons]
  dsimp only at h ⊢
  by_cases c:(q == NameKind.free && env.scope.kind == .function && env.kindOf n == some .cell)=true
  ·rw[if_pos c] at h
   dsimp only at h
   cases e:x == n with
   |true=>
    rw[e] at h
    cases h
    simp only[Bool.and_eq_true,beq_iff_eq] at c
    exact .inr ⟨by rw[c.1.1],rfl⟩
   |false=>rw[e] at h;exact ZQ nc h
  ·rw[if_neg c] at h
   dsimp only at h
   cases e:x == n with
   |true=>rw[e] at h;exact .inl h
   |false=>rw[e] at h;exact ZQ nc h
theorem Zat {env:Env}: ∀ {names:List (Str × NameKind)} {x:Str},names.lookup x=some .free->(∃ kd,(kd=NameKind.cell\/kd=NameKind.free)/\(names.map fun (n,k)=>if (k == NameKind.free && env.scope.kind == .function && env.kindOf n == some .cell) then (n,NameKind.cell) else (n,k)).lookup x=some kd)
 | [],x,h=>by simp at h
 | (n,q) :: r,x,h=>by
  rw[List.lookup_cons] at h
  rw[List.map_cons,List.lookup_cons]
  by_cases c:(q == NameKind.free && env.scope.kind == .function && env.kindOf n == some .cell)=true
  ·dsimp only
   rw[if_pos c]
   cases e:x == n with
   |true=>exact ⟨_,.inl rfl,rfl⟩
   |false=>rw[e] at h;exact Zat h
  ·dsimp only
   rw[if_neg c]
   cases e:x == n with
   |true=>rw[e] at h;exact ⟨q,.inr (Option.some.inj h),rfl⟩
   |false=>rw[e] at h;exact Zat h
noncomputable def Znm (XN N:List Str) (dn sn:List (Str × NameKind)) (k:Nat) (fr:List Nat):Bool:=
 (sn.all fun y=>y.2 != .cell && (y.2 != .free || dn.lookup y.1 == some .cell) && (y.2 != .local || sn.lookup y.1 == some .local)) && N.length == k + fr.length &&
  (List.range fr.length).all fun j=>match fr[j]? with
   |some i=>(match N[k + j]?,XN[i]? with | some x,some y=>x == y && dn.lookup x == some .cell && sn.lookup x == some .free | _,_=>false)
   |none=>false
theorem ZoD {X:Cx} {scope:Scope} {N:List Str} {k n:Nat} {fr:List Nat} {XN:List Str} {dn:List (Str × NameKind)} (hN:X.N=XN) (hd:X.env.scope.names=dn) (hc:X.env.cells=cellsFrom n dn []) (hk:scope.kind= .function) (h:Znm XN N dn scope.names k fr=true):Blk X scope (clF scope X.env) N k fr:=by
 unfold Znm at h
 simp only[Bool.and_eq_true,List.all_eq_true,bne_iff_ne,ne_eq,Bool.or_eq_true,beq_iff_eq] at h
 obtain ⟨⟨h1,h2⟩,h3⟩:=h
 have kind: ∀ x,X.env.kindOf x=dn.lookup x:=fun x=>by rw[<- hd];rfl
 have cel: ∀ x,dn.lookup x=some .cell-> ∃ c,X.env.cells.lookup x=some c:=fun x e=>by
  have:=PySem.W.cellsFrom_some dn n [] (.inl e)
  rw[hc]
  exact Option.isSome_iff_exists.mp this
 have frc: ∀ y∈scope.names,y.2= .free-> ∃ c,X.env.cells.lookup y.1=some c:=fun y hy e=>by
  rcases (h1 y hy).1.2 with z | z
  ·exact absurd e z
  ·exact cel _ z
 have sub: ∀ x c,(clF scope X.env).lookup x=some c->X.env.cells.lookup x=some c:=fun x c e=>by
  unfold clF at e
  rw[<- List.map_reverse] at e
  obtain ⟨e1,y,e2,e3⟩:=Zbp e
  have e4:=List.mem_filter.mp (List.mem_reverse.mp e2)
  obtain ⟨c',g⟩:=frc y e4.1 (by simpa using e4.2)
  rw[e3] at g
  rw[g] at e1 ⊢
  rw[e1]
  rfl
 have has: ∀ x,scope.names.lookup x=some .free-> ∃ c,(clF scope X.env).lookup x=some c:=fun x e=>by
  refine ZaK ?_
  have m:=PySem.mem_of_lookup e
  exact ⟨(x,(X.env.cells.lookup x).getD 0),List.mem_reverse.mpr (List.mem_map.mpr ⟨(x,.free),List.mem_filter.mpr ⟨m,by simp⟩,rfl⟩),rfl⟩
 refine ⟨?_,hk,fun y hy=>(h1 y hy).1.1,fun y hy e=> ?_,sub,fun x z=> ?_,h2,fun j i e=> ?_⟩
 ·have:=ZcC (env:=X.env) scope.names [] frc
  rw[List.append_nil] at this
  unfold closureFor
  exact (congrArg (fun (m:Sem (List (Str × Addr)))=>m >>= fun cs=>(pure cs:Sem (List (Str × Addr)))) this).trans (pure_bind _ _)
 ·rcases (h1 y hy).2 with z | z
  ·exact absurd e z
  ·exact z
 ·have nc: ∀ m,X.env.scope.names.lookup m=X.env.kindOf m:=fun m=>rfl
  refine has x ?_
  rcases z with z | z
  ·rcases ZQ nc z with q | q
   ·exact absurd rfl (h1 _ (PySem.mem_of_lookup q)).1.1
   ·exact q.1
  ·rcases ZQ nc z with q | q
   ·exact q
   ·cases q.2
 ·have hj:j < fr.length:=(List.getElem?_eq_some_iff.mp e).1
  have q:=h3 j (List.mem_range.mpr hj)
  rw[e] at q
  dsimp only at q
  cases e1:N[k + j]? with
  |none=>rw[e1] at q;cases q
  |some x=>
   cases e2:XN[i]? with
   |none=>rw[e1,e2] at q;cases q
   |some y=>
    rw[e1,e2] at q
    simp only[Bool.and_eq_true,beq_iff_eq] at q
    obtain ⟨⟨q1,q2⟩,q3⟩:=q
    subst q1
    obtain ⟨kd,r1,r2⟩:=Zat (env:=X.env) q3
    obtain ⟨c,r3⟩:=has x q3
    refine ⟨x,rfl,by rw[hN];exact e2,by rw[kind];exact q2,?_,r3.trans (sub x c r3).symm⟩
    rcases r1 with r1 | r1
    ·exact .inl (r1 ▸ r2)
    ·exact .inr (r1 ▸ r2)
section
variable {X:Cx} {ξ:XK}
theorem Zb1: ∀ {bs:List Bool} {us:List Value} {i:Nat} {u:Value},ZF (bs.map V.bl) us->us[i]?=some u-> ∃ b,bs[i]?=some b/\u= .bool b
 | [],us,i,u,h,e=>by cases h;simp at e
 |b :: r,us,i,u,h,e=>by
  cases h with
  |cons h1 h2=>
   cases i with
   |zero=>simp at e;subst e;exact ⟨b,rfl,h1⟩
   |succ i=>simp at e;obtain ⟨b',g1,g2⟩:=Zb1 h2 e;exact ⟨b',by simpa using g1,g2⟩
noncomputable def ZU:List D->Option (List Bool)
 | []=>some []
 | .bl b :: r=>match ZU r with | some bs=>some (b :: bs) | none=>none
 |_ :: _=>none
theorem Zb2 {K:PySem.W.Frag} {H:Hp} {α:List Addr}: ∀ {vs:List V} {ds:List D} {bs:List Bool},Reps K H α vs ds->ZU ds=some bs->vs=bs.map V.bl
 |_,_,_,.nil,e=>by cases e;rfl
 |_,_,bs,.cons (d:=d) (ds:=ds) r t,e=>by
  cases r with
  |bl b=>
   cases e1:ZU ds with
   |none=>simp only[ZU,e1] at e;cases e
   |some cs=>
    simp only[ZU,e1,Option.some.injEq] at e
    subst e
    rw[Zb2 t e1]
    rfl
  |_=>cases e
noncomputable def Znn:List D->Sto->Out D:=fun ds M=>match ds with
 | [.ref n]=>(match M[n]? with | some (.lst xs)=>(match ZU xs with | some bs=> .ok (.bl (bs.all id)) M | none=> .bad) | none=> .bad)
 |_=> .bad
end
section
variable {prog:Program} {w:World} {A:Around} {E:Value->Shared->Prop} {s:Shared}
end
section
variable {X:Cx} {ξ:XK} {e:Expr} {f:Ev} {p2 p3 p4 pos:Pos} {j:Nat}
end
end DL
end
section
namespace DL
open PySem PySem.Spec PyProof.Rows L2
theorem Zjc:bootBuiltins "any"=some (.builtin "any"):=by decide +kernel
section
variable {X:Cx} {ξ:XK}
noncomputable def Zno (X:Cx):List V->Hp->VK->Prop:=fun vs H Q=> ∃ (p:Addr) (bs:List Bool),vs=[.ref p]/\SqL X.K H p (bs.map V.bl)/\Q (.bl (bs.any id)) H
theorem Zds (bs:List Bool):((List.range bs.length).any fun i=>(bs[i]?).getD true)=bs.any id:=by
 rw[Bool.eq_iff_iff,List.any_eq_true,List.any_eq_true]
 constructor
 ·rintro ⟨i,hi,h⟩
  have hi':=List.mem_range.mp hi
  simp only[List.getElem?_eq_getElem hi',Option.getD_some] at h
  exact ⟨_,List.getElem_mem hi',h⟩
 ·rintro ⟨b,hb,h⟩
  obtain ⟨i,hi,e⟩:=List.getElem_of_mem hb
  refine ⟨i,List.mem_range.mpr hi,?_⟩
  simp only[List.getElem?_eq_getElem hi,Option.getD_some,e]
  exact h
theorem Zfz (hc:X.calm=true):ZaV X (.builtin "any") (Zno X):=by
 intro pins s σ H vs us Q I rs ⟨p,bs,e,hl,q⟩
 subst e
 obtain ⟨u,rfl,ru⟩:=Zdj rs
 cases ru
 obtain ⟨its,hv,hp,hz⟩:=I.list hl
 have hlt:p < s.heap.objs.size:=by obtain ⟨_,e,_⟩:=hp.isList;exact Heap.lt_size e
 refine call_any_walk (wpAny_pyIter_list hp.isList ?_)
 refine ⟨s.heap.objs.size,[s.heap.objs.size,p],[s.heap.objs.size],its.toArray.size,_,_,fun i=>(bs[i]?).getD true,rfl,Walks.list (A:=X.A.in1) (I.ok.hd hc) _ p (Nat.ne_of_lt hlt) its.toArray,
  ⟨⟨_,Heap.get?_push_size _ rfl,rfl,rfl⟩,hp.isList.push _⟩,fun i v s' Q' E' hP hQ=> ?_,fun h' tk hk=> ?_⟩
 ·obtain ⟨b,e,rfl⟩:=Zb1 (i:=i) (u:=v) hv (by simpa using hP)
  simp only[e,Option.getD_some] at hQ
  exact wpAny_truthy_bool hQ
 ·have e:((List.range its.toArray.size).any fun i=>(bs[i]?).getD true)=bs.any id:=by
   rw[List.size_toArray,<- hv.length,List.length_map];exact Zds bs
  rw[e]
  exact ⟨.bl (bs.any id),H,I.kept fun b o e=>hk b o (fun hm=>by rw[List.mem_singleton.mp hm] at e;exact Nat.lt_irrefl _ (Heap.lt_size e)) (Heap.get?_push_of_some _ e),rfl,q⟩
noncomputable def bAny:List D->Sto->Out D:=fun ds M=>match ds with
 | [.ref n]=>(match M[n]? with | some (.lst xs)=>(match ZU xs with | some bs=> .ok (.bl (bs.any id)) M | none=> .bad) | none=> .bad)
 |_=> .bad
theorem Zjd:CO X ξ (Zno X) bAny:=by
 intro H α M vs ds Q h rs q
 match rs with
 | .nil=>exact q.elim
 | .cons r (.cons _ _)=>cases r<;>exact q.elim
 | .cons r .nil=>
  cases r with
  | @ref p n hp=>
   cases e1:M[n]? with
   |none=>simp only[bAny,e1] at q;exact q.elim
   |some so=>
    cases so with
    |lst es=>
     cases e2:ZU es with
     |none=>simp only[bAny,e1,e2] at q;exact q.elim
     |some bs=>
      simp only[bAny,e1,e2] at q
      obtain ⟨xs,g1,g2⟩:=h.at hp e1
      have:=Zb2 g2 e2
      subst this
      exact ⟨p,bs,rfl,SqL.of g1,q _ H α Ext.refl h (.bl _)⟩
  |_=>exact q.elim
end
end DL
end
section
namespace DL
open PySem PySem.Spec PyProof.Rows L2
section
variable {M:Model} {A:Around} {E:Value->Shared->Prop} {s:Shared}
end
section
variable {X:Cx} {ξ:XK} {tg iter elt:Expr} {ifs:List Expr} {scope:Scope} {cl:List (Str × Addr)} {N:List Str} {k:Nat} {fr:List Nat} {fi:Ro->Sto->Out Src} {gt:Tg} {c:Tv} {f:Ev} {pos:Pos}
end
section
variable {X:Cx} {scope0:Scope} {cl0:List (Str × Addr)} {N0:List Str} {k0:Nat} {fr0:List Nat} {C:Addr} {fp:List Addr} {s:Shared} {H:Hp} {scope:Scope} {N:List Str} {k:Nat} {fr:List Nat} {dn:List (Str × NameKind)}
end
end DL
end
section
namespace DL
open PySem PySem.Spec PyProof.Rows L2
open PySem.W (nsIn excIn tailIn nsOkIn mroIn clsIn typeIn findIn specialIn takesIn kitOne Looks)
noncomputable abbrev bmV:List Value:=[.type "ValueError",.type "Exception",.type "BaseException",.type "object"]
noncomputable def Zhf (K:PySem.W.Frag) (c:Str):Option Addr:=match nsIn K mainGlobals c with | some (some (.ref C))=>some C | _=>none
theorem ZfA {K:PySem.W.Frag} {c:Str} {C:Addr} (h:Zhf K c=some C):nsIn K mainGlobals c=some (some (.ref C)):=by
 unfold Zhf at h
 split at h
 ·rename_i C' e;cases h;exact e
 ·cases h
noncomputable def Zje (K:PySem.W.Frag) (c:Str):Bool:=match Zhf K c with
 |some C=>excIn K C bmV "ValueError.__new__" && findIn K (.ref C) "__getattribute__" == some (some (.builtin "BaseException.__getattribute__")) && findIn K (.ref C) "__getattr__" == some none && findIn K (.ref C) "__class__" == some (some (.builtin "object.__class__")) &&
  specialIn K (.builtin "object.__class__") "__get__" == some (some (.builtin "getset_descriptor.__get__")) && takesIn K (.builtin "object.__class__") == some true && mroIn K C (.type "BaseException") == some true && mroIn K C (.type "object") == some true && (clsIn K C).isSome
 |none=>false
theorem Zhg {K:PySem.W.Frag} {c:Str} (h:Zje K c=true): ∃ C,nsIn K mainGlobals c=some (some (.ref C))/\excIn K C bmV "ValueError.__new__"=true/\DQ.ExcC K C:=by
 unfold Zje at h
 split at h
 ·rename_i C e
  simp only[Bool.and_eq_true,beq_iff_eq] at h
  obtain ⟨⟨⟨⟨⟨⟨⟨⟨h1,h2⟩,h3⟩,h4⟩,h5⟩,h6⟩,h7⟩,h8⟩,h9⟩:=h
  exact ⟨C,ZfA e,h1,h2,h3,h4,h5,h6,h7,h8,h9⟩
 ·cases h
theorem Zhh {K:PySem.W.Frag} {h:Heap} {C:Addr} {bmB:List Value} {newId:String} (X:K.In h) (q:excIn K C bmB newId=true):
  ∃ bm N nm q bs hdct sn sub ab col dd k0 k1 k2 k3 k5 mN,h.get? C=some (excClassObj nm q C N bs bm hdct sn sub ab col dd k0 k1 k2 k3 k5 newId)/\h.Ns N mN/\mN "__init__"=none/\OwnTail h bmB bm:=by
 unfold excIn at q
 split at q
 ·rename_i dd cd sl ho
  split at q
  ·rename_i C' bm k0 k1 k2 k3 n k5 hm hs
   simp only[Bool.and_eq_true,beq_iff_eq,Bool.not_eq_true'] at q
   obtain ⟨⟨⟨⟨⟨rfl,rfl⟩,hdel⟩,ht⟩,hok⟩,hni⟩:=q
   obtain ⟨nm,bs,mro,ns,qn,hd,sn,sub,ab,col,del⟩:=cd
   dsimp only at hm hdel hok hni
   subst hm hdel
   obtain ⟨l⟩:=sl
   simp only at hs
   subst hs
   exact ⟨bm,ns,nm,qn,bs,hd,sn,sub,ab,col,dd,k0,k1,k2,k3,k5,_,X _ _ ho,.of_isNs (PySem.W.isNs_of_in X hok),PySem.W.nsMap_none_of_in X hok hni,PySem.W.tail_of_in X ht⟩
  ·cases q
 ·cases q
noncomputable def Znp (tab:List (Str × Bool)) (f:Ev):Ev:=fun ρ M=>(f ρ M).bind fun x M1=>match x with | .err c _=>(match tab.lookup c with | some b=> .ok (.bl b) M1 | none=> .bad) | _=> .bad
section
variable {X:Cx} {ξ:XK} {e:Expr} {fa:Ev} {p pos:Pos} {tab:List (Str × Bool)}
noncomputable def Zb3 (c:Str) (fs:Av):Sv:=fun ρ M=>Zap (fs ρ M) fun ds M1=>if ds.length<=1000 then .exc c M1 else .bad
theorem ZfB {x:Str} {np cpos:Pos} {a:Expr} {as:List Expr} {fs:Av} (T:Thr X ξ) (hx:Zje X.K x=true) (gl: ∀ c v,nsIn X.K mainGlobals c=some (some v)->X.mg c=some v) (hh:X.A.handled=none) (ha:DA X ξ (a :: as) fs) (hg:Gl X x:=by rfl) (hdb:(x == ("__debug__":Str))=false:=by decide)
  (he:starEach (a :: as) X.env=(false,eval a X.env) :: starEach as X.env:=by rfl) (hpl:(backTo cpos (starEach as X.env)).any (·.1)=false:=by rfl):DS X ξ (.Raise (some (.Call (.Name x np) (a :: as) [] cpos)) none pos) (Zb3 x fs):=by
 obtain ⟨ta,pa,qa⟩:=ha
 obtain ⟨C,hC,hq,_⟩:=Zhg hx
 refine ⟨fun Dn σ H=>ta σ H fun vs H1=>vs.length<=sizeLine/\ξ (.ref C) none H1,fun pins s σ H Dn I h=> ?_,fun σ ρ H α M Dn s h q=> ?_⟩
 ·obtain ⟨tl,N,nm,q,bs,hdct,sn,sub,ab,col,dd,k0,k1,k2,k3,k5,mN,gC,hN,hni,TL⟩:=Zhh I.ok.mod.kin hq
  refine wpAny_Raise_call_subT (C:=C) (nm:=nm) (q:=q) (N:=N) (bs:=bs) (bm:=tl) (hdct:=hdct) (sn:=sn) (sub:=sub) (ab:=ab) (col:=col) (dd:=dd) (k0:=k0) (k1:=k1) (k2:=k2) (k3:=k3) (k5:=k5) F.excBase_ValueError (mN:=mN)
   (TL.hasType F.excBase_ValueError.hasBase) hh (by rw[he];show (false || (backTo cpos (starEach as X.env)).any (·.1))=false;rw[hpl];rfl) hni (ZdN I hg (gl x _ hC) ⟨rfl,?_⟩ hdb)
  have hs:=pa cpos pins s σ H _ I h
  rw[he] at hs ⊢
  refine Calls.evalArgs_plain (wpAny_mono hs (fun us s2 ⟨vs,H1,I1,r1,z1,z2⟩=>⟨rfl,by rw[<- r1.length];exact z1,I1.bk _ _ gC,hN.keeps I1.bk,TL.keeps I1.bk,fun h' e m=> ?_⟩) fun _ _ y=>y)
  obtain ⟨t,g1,g2,g3⟩:=m.there
  exact T.mak pins σ H1 s2 h' e _ _ C I1 m.keeps m.new g1 rfl rfl rfl rfl rfl z2
 ·refine qa σ ρ H α M _ s h (FP.seq q fun ds M1 vs H1 α1 e1 h1 r1 w1=> ?_)
  by_cases hl:ds.length<=1000
  ·rw[if_pos hl] at w1
   exact ⟨by rw[r1.length];exact Zg2 hl,w1 C H1 α1 hC Ext.refl h1⟩
  ·rw[if_neg hl] at w1
   exact w1.elim
end
end DL
end
section
namespace DL
open PySem PySem.Spec PyProof.Rows L2
open PySem.W (nsIn excIn tailIn nsOkIn mroIn clsIn typeIn findIn specialIn takesIn kitOne Looks looks_mroIn looks_typeIn)
section
variable {X:Cx} {pins pins' pn:List (Addr × Obj)} {σ:L2.St} {H H':Hp} {s:Shared} {xe:Value->Shared->Prop} {e:Addr}
end
noncomputable def Znq (gb:Sv) (cs:List Str) (i:Nat) (gh:Sv):Sv:=fun ρ M=>match gb ρ M with
 | .exc c M1=>if cs.contains c=true then (match gh ((List.replicate ρ.length none).set i (some (.err c []))) M1 with
  | .ret d M2=> .ret d M2
  | .nx _ M2=> .nx (List.replicate ρ.length none) M2
  |_=> .bad) else .bad
 |o=>o
section
variable {X:Cx} {ξ:XK} {d n:Str} {cs:List Str} {i:Nat} {body suite:List Stmt} {b0:Stmt} {gb gh:Sv} {pos hpos np:Pos}
end
theorem Zn {k:Nat} {A:Around} {env:Env} (hr:Room k (A.deeper env)) (h:100<=k):A.handled.isNone=true:=by
 have e:A.handled=none:=hr.hd h
 rw[e]
 rfl
end DL
end
section
namespace DL
open PySem PySem.Spec PyProof.Rows L2
noncomputable abbrev Me:=D->List D->Sto->Out D
noncomputable def MO (X:Cx) (ξ:XK) (r:V->List V->Hp->VK->Prop) (g:Me):Prop:= ∀ H α M v vs x ds Q,HR X.K H α M->Rep X.K H α v x->Reps X.K H α vs ds->OP X.K H α ξ Q (g x ds M)->r v vs H Q
theorem HR.wrE {K:PySem.W.Frag} {H:Hp} {α:List Addr} {M:Sto} {n:Nat} {p:Addr} {xs ys:List V} {ds:List D} (h:HR K H α M) (e:RefK H α 0 n p) (hp:H p=some (.lst ys)) (r:Reps K H α xs ds):Ext K H (upd H p (.lst xs)) α α/\HR K (upd H p (.lst xs)) α (M.set n (.lst ds)):=
 ⟨Ext.wr hp,h.wr e hp r⟩
section
variable {X:Cx} {ξ:XK} {o e:Expr} {es:List Expr} {fo fa:Ev} {fs:Av} {name:Str} {apos cpos pos:Pos} {T id:String} {r:V->List V->Hp->VK->Prop} {g:Me}
noncomputable def Zhi (x:D) (M:Sto):Bool:=match x with | .ref n=>M[n]?.isSome | _=>false
noncomputable def Zgk (g:Me) (fo:Ev) (fs:Av):Ev:=fun ρ M=>(fo ρ M).bind fun x M1=>if Zhi x M1=true then (fs ρ M1).bind fun ds M2=>g x ds M2 else .bad
theorem Zhj {K:PySem.W.Frag} {H:Hp} {α:List Addr} {M:Sto} {v:V} {x:D} (h:HR K H α M) (rx:Rep K H α v x) (k:Zhi x M=true):tyV K "list" v H:=by
 cases rx with
 | @ref p n hp=>
  obtain ⟨xs,g⟩:=h.some_at hp
  exact .inl ⟨rfl,_,SqL.of g⟩
 |_=>cases k
theorem ZlE (slot:Slot "list" name id) (hty:typeOf (.builtin id)=pure (.type "method_descriptor")) (hm:MtR X id r) (hf:MO X ξ r g) (ho:DE X ξ o fo) (ha:DA X ξ (e :: es) fs)
  (hbase:attributeBase o name X.env (eval o X.env)=eval o X.env:=by rfl)
  (hfew:((backTo cpos (starEach (e :: es) X.env)).all (fun x=> !x.1) && (backToKw cpos (keywordEach [] X.env)).all (fun x=>x.1.isSome)
   && decide ((e :: es).length + ([]:List Keyword).length + (if ([]:List Keyword).isEmpty then 0 else 1) < 30))=true:=by rfl)
  (hline:(apos.endLine == cpos.line)=true:=by rfl) (hs:starEach (e :: es) X.env=(false,eval e X.env) :: starEach es X.env:=by rfl) (hplain:(backTo cpos (starEach es X.env)).any (·.1)=false:=by rfl):
  DE X ξ (.Call (.Attribute o name apos) (e :: es) [] cpos) (Zgk g fo fs):=by
 obtain ⟨to,po,qo⟩:=ho
 obtain ⟨ta,pa,qa⟩:=ha
 refine ⟨_,Zlw PySem.F.plainAttrs_list slot hty hm po pa hbase hfew hline hs hplain,fun σ ρ H α M Q s h q=> ?_⟩
 refine qo σ ρ H α M _ s h (OG.seq q fun x M1 v H1 α1 e1 h1 r1 q1=> ?_)
 by_cases k:Zhi x M1=true
 ·rw[if_pos k] at q1
  exact ⟨Zhj h1 r1 k,qa σ ρ H1 α1 M1 _ (s.mono e1) h1 (OG.seq q1 fun ds M2 vs H2 α2 e2 h2 r2 q2=>hf H2 α2 M2 v vs x ds Q h2 (Rep.mono e2 r1) r2 q2)⟩
 ·rw[if_neg k] at q1
  exact q1.elim
noncomputable def mApp:Me:=fun x ds M=>match x,ds with
 | .ref n,[d]=>(match M[n]? with | some (.lst xs)=>if xs.length < 10000000 then .ok .non (M.set n (.lst (xs ++ [d]))) else .bad | none=> .bad)
 |_,_=> .bad
theorem Zjf:MO X ξ rAppend mApp:=by
 intro H α M v vs x ds Q h rx rs q
 cases rx with
 | @ref p n hp=>
  match rs with
  | .nil=>exact q.elim
  | .cons _ (.cons _ _)=>exact q.elim
  | .cons (v:=u) (d:=d) ru .nil=>
   cases em:M[n]? with
   |none=>simp only[mApp,em] at q;exact q.elim
   |some so=>
    cases so with
    |lst es=>
     obtain ⟨xs,g1,g2⟩:=h.at hp em
     by_cases c:es.length < 10000000
     ·simp only[mApp,em,if_pos c] at q
      obtain ⟨k1,k2⟩:=h.wrE hp g1 (g2.append (.cons ru .nil))
      exact ⟨p,xs,u,rfl,rfl,g1,by rw[g2.length];exact Nat.lt_of_lt_of_le c (by decide),q _ _ α k1 k2 .non⟩
     ·simp only[mApp,em,if_neg c] at q
      exact q.elim
 |_=>cases rs<;>exact q.elim
noncomputable def Znr:Me:=fun x ds M=>match x,ds with
 | .ref n,[]=>(match M[n]? with | some (.lst _)=> .ok .non (M.set n (.lst [])) | none=> .bad)
 |_,_=> .bad
noncomputable def Zns:Me:=fun x ds M=>match x,ds with
 | .ref n,[.ref m]=>(match M[n]?,M[m]? with | some (.lst xs),some (.lst ys)=>if xs.length + ys.length<=10000000 then .ok .non (M.set n (.lst (xs ++ ys))) else .bad | _,_=> .bad)
 |_,_=> .bad
theorem Za9 (ho:DE X ξ o fo) (ha:DE X ξ e fa) (hbase:attributeBase o "append" X.env (eval o X.env)=eval o X.env:=by rfl)
  (hfew:((backTo cpos (starEach [e] X.env)).all (fun x=> !x.1) && (backToKw cpos (keywordEach [] X.env)).all (fun x=>x.1.isSome)
   && decide ([e].length + ([]:List Keyword).length + (if ([]:List Keyword).isEmpty then 0 else 1) < 30))=true:=by rfl)
  (hline:(apos.endLine == cpos.line)=true:=by rfl) (hs:starEach [e] X.env=(false,eval e X.env) :: starEach [] X.env:=by rfl) (hplain:(backTo cpos (starEach [] X.env)).any (·.1)=false:=by rfl):
  DE X ξ (.Call (.Attribute o "append" apos) [e] [] cpos) (Zgk mApp fo (Zc fa aNil)):=ZlE PySem.F.slot_list_append PySem.F.type_list_append ZbO Zjf ho (Za ha Ze hs) hbase hfew hline hs hplain
noncomputable def oNo:Ro->Sto->Out (Option Int):=fun _ M=> .ok none M
noncomputable def oSo (f:Ev):Ro->Sto->Out (Option Int):=fun ρ M=>(f ρ M).bind fun x M1=>match x with | .int i=> .ok (some i) M1 | _=> .bad
noncomputable def ZdF (xs:List D) (lo hi:Option Int):List D:=(xs.drop (HT.sIx xs.length 0 lo)).take (HT.sIx xs.length xs.length hi - HT.sIx xs.length 0 lo)
noncomputable def eSl (f:Ev) (lo hi:Ro->Sto->Out (Option Int)):Ev:=fun ρ M=>(f ρ M).bind fun x M1=>(lo ρ M1).bind fun l M2=>(hi ρ M2).bind fun u M3=>match x with
 | .ref n=>(match M3[n]? with | some (.lst xs)=> .ok (.ref M3.length) (M3 ++ [.lst (ZdF xs l u)]) | none=> .bad)
 | .rol xs=> .ok (.ref M3.length) (M3 ++ [.lst (ZdF xs l u)])
 | .tup xs=>if HT.sIx xs.length 0 l=0/\HT.sIx xs.length xs.length u=xs.length then .bad else .ok (.tup (ZdF xs l u)) M3
 |_=> .bad
noncomputable def iR2 (fs:Av):Ro->Sto->Out Src:=fun ρ M=>(fs ρ M).bind fun ds M1=>match ds with
 | [.int i,.int j]=>if -(2 ^ 62)<=i/\i < 2 ^ 62/\ -(2 ^ 62)<=j/\j < 2 ^ 62 then .ok (.pur (ZaI i (j - i).toNat)) M1 else .bad
 |_=> .bad
end
noncomputable def eRv (f:Ev):Ev:=fun ρ M=>(f ρ M).bind fun x M1=>match x with
 | .tup xs=> .ok (.tup xs.reverse) M1
 | .ref n=>(match M1[n]? with | some (.lst xs)=> .ok (.ref M1.length) (M1 ++ [.lst xs.reverse]) | none=> .bad)
 | .rol xs=> .ok (.ref M1.length) (M1 ++ [.lst xs.reverse])
 |_=> .bad
end DL
end
section
namespace DL
open PySem PySem.Spec PyProof.Rows L2
noncomputable def Zdt (tg:Tg) (g:Sv) (src:Src):Nat->Nat->Ro->Sto->Fl
 |f,i,ρ,M=>match nxt src i M with
  |none=> .bad
  |some none=> .nx ρ M
  |some (some d)=>(match f with
   |0=> .bad
   |f + 1=>(match tg d ρ with
    |none=> .bad
    |some ρ1=>(match g ρ1 M with
     | .nx ρ2 M2=>Zdt tg g src f (i + 1) ρ2 M2
     | .cnt ρ2 M2=>Zdt tg g src f (i + 1) ρ2 M2
     | .brk ρ2 M2=> .nx ρ2 M2
     |o=>o)))
noncomputable def ZfC (tg:Tg) (fi:Ro->Sto->Out Src) (g:Sv):Sv:=fun ρ M=>Zap (fi ρ M) fun src M1=>Zdt tg g src (cnt src M1) 0 ρ M1
section
variable {X:Cx} {ξ:XK} {tg iter a b:Expr} {gt:Tg} {fi:Ro->Sto->Out Src} {g:Sv} {body:List Stmt} {f fa fb:Ev} {fs:Av} {p pos:Pos}
theorem Zhk (hp:PassesOwn (model X.prog X.w) X.A X.env X.xe) (hi:DI X ξ tg iter fi) (hg:DG X tg gt) (hb:DSs X ξ body g) (hf: ∀ x,foldedSetIterable iter X.env x=pure x:=by intro _;rfl):DS X ξ (.For tg iter body [] pos) (ZfC gt fi g):=by
 obtain ⟨wi,pi,qi⟩:=hi
 obtain ⟨tt,pt,qt⟩:=hg
 obtain ⟨tb,pb,qb⟩:=hb
 refine ⟨_,ZcT hp pi pt pb hf,fun σ ρ H α M Dn s hh w=>qi σ ρ H α M _ s hh (FP.seq w fun src M1 J H1 α1 e1 h1 sc w1=> ?_)⟩
 generalize eo:Zdt gt g src (cnt src M1) 0 ρ M1=o at w1
 refine ⟨fun i m σ' H'=> ∃ ρ' α' M',Ext X.K H1 H' α1 α'/\SR X.K H' α' σ' ρ'/\HR X.K H' α' M'/\Zdt gt g src m i ρ' M'=o,⟨cnt src M1,ρ,α1,M1,Ext.refl,s.mono e1,h1,eo⟩,?_⟩
 rintro i m σ' H' ⟨ρ',α',M',ex,sr,hr,en⟩
 have s5:=sc i H' α' M' ex hr
 unfold Zdt at en
 cases en1:nxt src i M' with
 |none=>rw[en1] at en;cases en;exact w1.elim
 |some od=>
  rw[en1] at en s5
  cases od with
  |none=>cases en;exact .inl ⟨s5,w1 σ' H' α' ex hr sr⟩
  |some d=>
   obtain ⟨go,yl⟩:=s5
   cases m with
   |zero=>cases en;exact w1.elim
   |succ m=>
    simp only at en
    refine .inr ⟨go,fun σ2 H2=> ∃ ρ' α' M',Ext X.K H1 H2 α1 α'/\SR X.K H2 α' σ2 ρ'/\HR X.K H2 α' M'/\Zdt gt g src m (i + 1) ρ' M'=o,fun σ2 H2 z=>⟨m,Nat.lt_succ_self m,z⟩,fun x H2 y=> ?_⟩
    obtain ⟨ex7,hr7,rp7⟩:=yl x H2 y
    exact Zfv (tg:=tg) w1 qt qb (ex.trans ex7) (sr.mono ex7) hr7 rp7 en (fun σ' H' z=>z)
end
section
variable {X:Cx} {ξ:XK} {a b:Expr} {elts:List Expr} {k0:Nat} {tp:Pos} {fa:Ev} {fs:Av} {p pos:Pos} {ta:TA}
noncomputable def iEn (fs:Av):Ro->Sto->Out Src:=fun ρ M=>(fs ρ M).bind fun ds M1=>match ds with | [.ref n]=> .ok (.enu n) M1 | _=> .bad
noncomputable def iZp (fs:Av):Ro->Sto->Out Src:=fun ρ M=>(fs ρ M).bind fun ds M1=>match ds with | [.ref n,.ref m]=> .ok (.zip n m) M1 | _=> .bad
end
end DL
end
section
namespace DL
open PySem PySem.Spec PyProof.Rows L2
open PySem.SeqAt (EqAt RcAt RcNeAt)
section
variable {X:Cx} {ξ:XK} {pins:List (Addr × Obj)} {σ:L2.St} {H:Hp} {s:Shared} {α:List Addr} {M:Sto}
noncomputable def eqs (M:Sto) (d:D):List D->Option (List Bool)
 | []=>some []
 |x :: r=>match eqF 12 M x d with | some b=>(match eqs M d r with | some bs=>some (b :: bs) | none=>none) | none=>none
end
section
variable {X:Cx} {ξ:XK}
noncomputable def inE (x y:D) (M:Sto):Option Bool:=match Zfq M y with | some ds=>(match eqs M x ds with | some bs=>some (bs.any id) | none=>none) | none=>none
noncomputable def Znt:Bo:=fun x y M=>match inE x y M with | some b=> .ok (.bl b) M | none=> .bad
noncomputable def Zer:Bo:=fun x y M=>match inE x y M with | some b=> .ok (.bl (!b)) M | none=> .bad
noncomputable def ZoE:Me:=fun x ds M=>match x,ds with
 | .ref n,[d]=>(match M[n]? with | some (.lst xs)=>(match eqs M d xs with | some bs=>(match bs.findIdx? id with | some j=> .ok (.int (j:Nat)) M | none=> .bad) | none=> .bad) | none=> .bad)
 |_,_=> .bad
noncomputable def ZoF:Me:=fun x ds M=>match x,ds with
 | .ref n,[d]=>(match M[n]? with | some (.lst xs)=>(match eqs M d xs with | some bs=> .ok (.int (bs.countP id:Nat)) M | none=> .bad) | none=> .bad)
 |_,_=> .bad
noncomputable def Zb4:List D->Option (List Int)
 | []=>some []
 | .int b :: r=>match Zb4 r with | some bs=>some (b :: bs) | none=>none
 |_ :: _=>none
noncomputable def Zjg (g:List Int->Option Int):List D->Sto->Out D:=fun ds M=>match ds with
 | [x]=>(match Zfq M x with | some xs=>(match x with | .con _=> .bad | .tup _=> .bad | _=>(match Zb4 xs with | some ns=>(match g ns with | some i=> .ok (.int i) M | none=> .bad) | none=> .bad)) | none=> .bad)
 |_=> .bad
end
end DL
end
section
namespace DL
open PySem PySem.Spec PyProof.Rows L2
noncomputable def kK:D->Option Key
 | .int i=>some (.inl i)
 | .str x=>some (.inr x)
 |_=>none
noncomputable def kKs:List D->Option (List Key)
 | []=>some []
 |d :: r=>match kK d,kKs r with | some k,some ks=>some (k :: ks) | _,_=>none
noncomputable def kT:D->Option (List Key)
 | .tup ds=>kKs ds
 |_=>none
theorem Zgl {d:D} {k:Key} (h:kK d=some k):d=ZdD k:=by
 cases d<;>first | (cases h;rfl) | cases h
theorem ZcD (k:Key):kK (ZdD k)=some k:=by cases k<;>rfl
theorem Zes: ∀ {ds:List D} {ks:List Key},kKs ds=some ks->ds=ks.map ZdD
 | [],ks,h=>by cases h;rfl
 |d :: r,ks,h=>by
  unfold kKs at h
  split at h
  ·rename_i k ks' e1 e2
   cases h
   rw[List.map_cons,<- Zgl e1,<- Zes e2]
  ·cases h
theorem Zc3: ∀ (ks:List Key),kKs (ks.map ZdD)=some ks
 | []=>rfl
 |k :: ks=>by rw[List.map_cons,kKs,ZcD,Zc3 ks]
theorem Zjh {d:D} {ks:List Key} (h:kT d=some ks):d=ZaO ks:=by
 cases d with
 |tup ds=>rw[ZaO,<- Zes h]
 |_=>cases h
theorem Zc4 (ks:List Key):kT (ZaO ks)=some ks:=Zc3 ks
section
variable {κ:Type} [DecidableEq κ]
noncomputable def Zcs (dec:D->Option κ) (k:κ):List D->Option D
 | []=>none
 | .tup [a,v] :: r=>if dec a=some k then some v else Zcs dec k r
 |_ :: r=>Zcs dec k r
noncomputable def Zji (dec:D->Option κ) (k:κ) (v:D) (ds:List D):List D:=ds.map fun e=>match e with | .tup [a,w]=>if dec a=some k then .tup [a,v] else e | e=>e
noncomputable def Zie (dec:D->Option κ) (k:κ) (kd v:D) (ds:List D):List D:=if (Zcs dec k ds).isSome then Zji dec k v ds else ds ++ [.tup [kd,v]]
variable {K:PySem.W.Frag} {H H':Hp} {α α':List Addr} {key:κ->D} {dec:D->Option κ}
theorem Zet:ZT K H α key [] []:=⟨[],rfl,.nil⟩
theorem ZaL (hd: ∀ k,dec (key k)=some k): ∀ {kvs:List (κ × V)} {es:List D} (k:κ),Reps K H α (kvs.map (·.2)) es->
  match Zcs dec k (List.zipWith (fun kv e=>D.tup [key kv.1,e]) kvs es) with | none=>Zcr kvs k=none | some d=> ∃ v,Zcr kvs k=some v/\Rep K H α v d
 | [],es,k,h=>by cases h;rfl
 | (k',v) :: kvs,_,k,.cons r t=>by
  simp only[List.zipWith_cons_cons,Zcs,hd,Option.some.injEq]
  by_cases c:k'=k
  ·rw[if_pos c]
   exact ⟨v,ZaX (p:=(k',v)) c,r⟩
  ·rw[if_neg c]
   have:=ZaL hd k t
   have e:Zcr ((k',v) :: kvs) k=Zcr kvs k:=ZaY (p:=(k',v)) c
   rw[e]
   exact this
theorem Zb5 (hd: ∀ k,dec (key k)=some k) {w:V} {d:D} (rw':Rep K H α w d): ∀ {kvs:List (κ × V)} {es:List D} (k:κ),Reps K H α (kvs.map (·.2)) es->
  ∃ es',Zji dec k d (List.zipWith (fun kv e=>D.tup [key kv.1,e]) kvs es)=List.zipWith (fun kv e=>D.tup [key kv.1,e]) (kvs.map fun kv=>if kv.1=k then (kv.1,w) else kv) es'/\Reps K H α ((kvs.map fun kv=>if kv.1=k then (kv.1,w) else kv).map (·.2)) es'
 | [],es,k,h=>by cases h;exact ⟨[],rfl,.nil⟩
 | (k',v) :: kvs,_,k,.cons (d:=dv) (ds:=es) r t=>by
  obtain ⟨es',h1,h2⟩:=Zb5 hd rw' k t
  unfold Zji at h1
  by_cases c:k'=k
  ·refine ⟨d :: es',?_,?_⟩
   ·simp only[Zji,List.zipWith_cons_cons,List.map_cons,hd,Option.some.injEq,if_pos c,h1]
   ·simp only[List.map_cons,if_pos c]
    exact .cons rw' h2
  ·refine ⟨dv :: es',?_,?_⟩
   ·simp only[Zji,List.zipWith_cons_cons,List.map_cons,hd,Option.some.injEq,if_neg c,h1]
   ·simp only[List.map_cons,if_neg c]
    exact .cons r h2
theorem Zc5 {α' β γ:Type} {f:α'->β->γ} {x:α'} {y:β}: ∀ {xs:List α'} {ys:List β},xs.length=ys.length->List.zipWith f (xs ++ [x]) (ys ++ [y])=List.zipWith f xs ys ++ [f x y]
 | [],[],_=>rfl
 |a :: xs,b :: ys,h=>by simp[Zc5 (xs:=xs) (ys:=ys) (by simpa using h)]
theorem Zb6 (hd: ∀ k,dec (key k)=some k) {kvs:List (κ × V)} {ds:List D} {w:V} {d:D} (k:κ) (h:ZT K H α key kvs ds) (r:Rep K H α w d):ZT K H α key (ZbH kvs k w) (Zie dec k (key k) d ds):=by
 obtain ⟨es,rfl,hr⟩:=h
 have pv:=ZaL hd k hr
 have an:=Zbu k kvs
 unfold ZbH Zie
 cases e:Zcs dec k (List.zipWith (fun kv e=>D.tup [key kv.1,e]) kvs es) with
 |none=>
  rw[e] at pv
  rw[if_neg (by rw[an,pv];simp),if_neg (by simp)]
  refine ⟨es ++ [d],?_,?_⟩
  ·rw[Zc5 (by rw[<- hr.length,List.length_map])]
  ·rw[List.map_append]
   exact hr.append (.cons r .nil)
 |some x=>
  rw[e] at pv
  obtain ⟨v,hv,_⟩:=pv
  rw[if_pos (by rw[an,hv];rfl),if_pos (show (some x).isSome=true from rfl)]
  exact Zb5 hd r k hr
theorem Zb7 {kvs:List (κ × V)} {ds:List D} (h:ZT K H α key kvs ds):kvs.length=ds.length:=by
 obtain ⟨es,rfl,hr⟩:=h
 have:=hr.length
 rw[List.length_map] at this
 simp[this]
theorem ZaP {kvs:List (κ × V)} {ds:List D} (h:ZT K H α key kvs ds) (e:Ext K H H' α α'):ZT K H' α' key kvs ds:=by
 obtain ⟨es,h1,h2⟩:=h
 exact ⟨es,h1,Reps.mono e h2⟩
end
noncomputable def ZlF (K:PySem.W.Frag) (H:Hp) (α:List Addr) (o:Option D) (ov:Option V):Prop:=match o with | none=>ov=none | some d=> ∃ u,ov=some u/\Rep K H α u d
theorem Znu {a b:Nat} (h:a + 64 < b):a + 1 < b:=by omega
noncomputable def Zdu (M:Sto) (x k:D):Option (Option D):=match x with
 | .dk n=>(match kK k,M[n]? with | some kk,some (.lst ds)=>some (Zcs kK kk ds) | _,_=>none)
 | .dt n=>(match kT k,M[n]? with | some kk,some (.lst ds)=>some (Zcs kT kk ds) | _,_=>none)
 |_=>none
section
variable {X:Cx} {ξ:XK} {H:Hp} {α:List Addr} {M:Sto}
theorem ZcE {v:V} {d:D} {k:Key} (r:Rep X.K H α v d) (e:kK d=some k):v=kV k:=by
 cases r with
 |int i=>cases e;rfl
 |str x=>cases e;rfl
 |_=>cases e
theorem Zby: ∀ {vs:List V} {ds:List D} {ks:List Key},Reps X.K H α vs ds->kKs ds=some ks->vs=ks.map kV
 |_,_,ks,.nil,e=>by cases e;rfl
 |_,_,ks,.cons (d:=d) (ds:=ds) r t,e=>by
  unfold kKs at e
  split at e
  ·rename_i k ks' e1 e2
   cases e
   rw[List.map_cons,ZcE r e1,Zby t e2]
  ·cases e
theorem Zhl (h:HR X.K H α M) {v w:V} {x k:D} {o:Option D} (r:Rep X.K H α v x) (rk:Rep X.K H α w k) (e:Zdu M x k=some o):
  ∃ a ov,v= .ref a/\Zly H a w ov/\IsD H a/\ZlF X.K H α o ov:=by
 cases r with
 | @dk p n hp=>
  simp only[Zdu] at e
  split at e
  ·rename_i kk ds e1 e2
   cases e
   obtain ⟨kvs,es,g1,g2,ed⟩: ∃ kvs es,Rd H p (.dK kvs)/\Reps X.K H α (kvs.map (·.2)) es/\Zcs kK kk ds=Zcs kK kk (List.zipWith (fun kv e=>D.tup [ZdD kv.1,e]) kvs es):=by
    rcases h.atK hp e2 with ⟨kvs,g1,es,rfl,g2⟩ | ⟨o,kvs,_,g1,rfl,es,rfl,g2⟩
    ·exact ⟨kvs,es,.inl g1,g2,rfl⟩
    ·exact ⟨kvs,es,.inr ⟨o,g1⟩,g2,rfl⟩
   rw[ed]
   have pv:=ZaL ZcD kk g2
   refine ⟨p,Zcr kvs kk,rfl,.inl ⟨kvs,kk,g1,ZcE rk e1,rfl⟩,.inl ⟨kvs,g1⟩,?_⟩
   unfold ZlF
   exact pv
  ·cases e
 | @dt p n hp=>
  simp only[Zdu] at e
  split at e
  ·rename_i kk ds e1 e2
   cases e
   obtain ⟨kvs,es,g1,g2,ed⟩: ∃ kvs es,Rd H p (.dT kvs)/\Reps X.K H α (kvs.map (·.2)) es/\Zcs kT kk ds=Zcs kT kk (List.zipWith (fun kv e=>D.tup [ZaO kv.1,e]) kvs es):=by
    rcases h.atT hp e2 with ⟨kvs,g1,es,rfl,g2⟩ | ⟨o,kvs,_,g1,rfl,es,rfl,g2⟩
    ·exact ⟨kvs,es,.inl g1,g2,rfl⟩
    ·exact ⟨kvs,es,.inr ⟨o,g1⟩,g2,rfl⟩
   rw[ed]
   have pv:=ZaL Zc4 kk g2
   cases rk with
   | @tup b xs ds' hb rb=>
    refine ⟨p,Zcr kvs kk,rfl,.inr ⟨kvs,kk,b,g1,rfl,by rw[hb,Zby rb e1],rfl⟩,.inr ⟨kvs,g1⟩,?_⟩
    unfold ZlF
    exact pv
   |_=>cases e1
  ·cases e
 |_=>cases e
end
section
variable {X:Cx} {ξ:XK} {o i e:Expr} {fo fi f:Ev} {pos pos':Pos}
noncomputable def eDnT:Ev:=fun _ M=> .ok (.dt M.length) (M ++ [.lst []])
theorem Zjj:DE X ξ (.Dict [] [] pos) eDnT:=by
 refine ⟨_,Zfl,fun σ ρ H α M Q s h q p hp=> ?_⟩
 have kn:Kn (upd H p (.dT [])) p=some 2:=by unfold Kn;rw[Zl]
 exact q (.ref p) _ (α ++ [p]) (Ext.new hp) (h.newO hp (.inr (.inr (.inl ⟨[],Zl,Zet⟩)))) (.dt ⟨h.last p,kn⟩)
noncomputable def Znv (neg:Bool):R2:=fun v w H Q=> ∃ a o,w= .ref a/\Zly H a v o/\Q (.bl (neg ^^ o.isSome)) H
noncomputable def Zif (neg:Bool):Bo:=fun k x M=>match Zdu M x k with | some o=> .ok (.bl (neg ^^ o.isSome)) M | none=> .bad
theorem Zjk (hu:X.A.units + 64 < cLine):OpR X (compareOp .In) (Znv false):=by
 intro pins s σ H x y v u Q I rx ry ⟨a,ov,e1,g,q⟩
 subst e1
 cases (show u=Value.ref a from ry)
 exact Zox (Znu hu) I g rx fun s' I'=>⟨.bl ov.isSome,H,I',rfl,by simpa using q⟩
theorem Zjl {neg:Bool}:BO X ξ (Znv neg) (Zif neg):=by
 intro H α M v w x y Q h r1 r2 q
 unfold Zif at q
 cases eg:Zdu M y x with
 |none=>rw[eg] at q;exact q.elim
 |some oo=>
  rw[eg] at q
  obtain ⟨a,ov,g1,g2,_,g4⟩:=Zhl h r2 r1 eg
  have es:ov.isSome=oo.isSome:=by
   cases oo with
   |none=>rw[show ov=none from g4];rfl
   |some d=>obtain ⟨u,rfl,_⟩:=g4;rfl
  exact ⟨a,ov,g1,g2,by rw[es];exact q _ H α Ext.refl h (.bl _)⟩
noncomputable def Zig (M:Sto) (x k d:D):Option Sto:=match x with
 | .dk n=>(match kK k,M[n]? with | some kk,some (.lst ds)=>if ds.length < 10000000/\nfz ds=true then some (M.set n (.lst (Zie kK kk k d ds))) else none | _,_=>none)
 | .dt n=>(match kT k,M[n]? with | some kk,some (.lst ds)=>if ds.length < 10000000/\nfz ds=true then some (M.set n (.lst (Zie kT kk k d ds))) else none | _,_=>none)
 |_=>none
noncomputable def Zhm (fo fi f:Ev):Sv:=fun ρ M=>Zap (f ρ M) fun d M1=>Zap (fo ρ M1) fun x M2=>Zap (fi ρ M2) fun k M3=>match Zig M3 x k d with | some M4=> .nx ρ M4 | none=> .bad
theorem Zhn (hu:X.A.units + 64 < cLine) (ho:DE X ξ o fo) (hi:DE X ξ i fi) (he:DE X ξ e f) (hs:swapsWith e (some (.Subscript o i pos')) pos.line X.env=pure false:=by rfl):DS X ξ (.Assign [.Subscript o i pos'] e pos) (Zhm fo fi f):=by
 obtain ⟨t,p,q⟩:=he
 obtain ⟨to,po,qo⟩:=ho
 obtain ⟨ti,pi,qi⟩:=hi
 refine ⟨_,ZgZ (Znu hu) po pi p hs,fun σ ρ H α M Dn s hh w=>q σ ρ H α M _ s hh (FP.seq w fun d M1 v H1 α1 e1 h1 r1 w1=> ?_)⟩
 refine qo σ ρ H1 α1 M1 _ (s.mono e1) h1 (FP.seq w1 fun od M2 ov H2 α2 e2 h2 r2 w2=> ?_)
 refine qi σ ρ H2 α2 M2 _ ((s.mono e1).mono e2) h2 (FP.seq w2 fun kd M3 kv H3 α3 e3 h3 r3 w3=> ?_)
 have sr:=((s.mono e1).mono e2).mono e3
 have rv:=Rep.mono e3 (Rep.mono e2 r1)
 cases Rep.mono e3 r2 with
 | @dk a n hp=>
  simp only[Zig] at w3
  cases e5:kK kd with
  |none=>simp only[e5] at w3;exact w3.elim
  |some kk=>
   cases em:M3[n]? with
   |none=>simp only[e5,em] at w3;exact w3.elim
   |some so=>
    cases so with
    |lst ds=>
     simp only[e5,em] at w3
     by_cases hl:ds.length < 10000000/\nfz ds=true
     ·simp only[if_pos hl] at w3
      obtain ⟨kvs,g1,g2⟩:=h3.atKn hp em hl.2
      have kn:Kn (upd H3 a (.dK (ZbH kvs kk v))) a=some 1:=by unfold Kn;rw[Zl]
      have ex:Ext X.K H3 (upd H3 a (.dK (ZbH kvs kk v))) α3 α3:=Ext.wrK hp.kn (fun _ _ z=>by rw[g1] at z;cases z) kn
      have eg:=Zb6 ZcD kk g2 rv
      rw[<- Zgl e5] at eg
      refine ⟨a,_,rfl,by rw[ZcE r3 e5];exact Zf3.k g1 (by rw[Zb7 g2];exact Nat.lt_of_lt_of_le hl.1 (by decide)),?_⟩
      exact w3 σ _ α3 ex (h3.wrO hp.at' ex (.inr (.inl ⟨_,Zl,ZaP eg ex⟩))) (sr.mono ex)
     ·simp only[if_neg hl] at w3
      exact w3.elim
 | @dt a n hp=>
  simp only[Zig] at w3
  cases e5:kT kd with
  |none=>simp only[e5] at w3;exact w3.elim
  |some kk=>
   cases em:M3[n]? with
   |none=>simp only[e5,em] at w3;exact w3.elim
   |some so=>
    cases so with
    |lst ds=>
     simp only[e5,em] at w3
     by_cases hl:ds.length < 10000000/\nfz ds=true
     ·simp only[if_pos hl] at w3
      obtain ⟨kvs,g1,g2⟩:=h3.atTn hp em hl.2
      have kn:Kn (upd H3 a (.dT (ZbH kvs kk v))) a=some 2:=by unfold Kn;rw[Zl]
      have ex:Ext X.K H3 (upd H3 a (.dT (ZbH kvs kk v))) α3 α3:=Ext.wrK hp.kn (fun _ _ z=>by rw[g1] at z;cases z) kn
      have eg:=Zb6 Zc4 kk g2 rv
      rw[<- Zjh e5] at eg
      cases r3 with
      | @tup b xs ds' hb rb=>
       refine ⟨a,_,rfl,Zf3.t g1 (by rw[hb,Zby rb e5]) (by rw[Zb7 g2];exact Nat.lt_of_lt_of_le hl.1 (by decide)),?_⟩
       exact w3 σ _ α3 ex (h3.wrO hp.at' ex (.inr (.inr (.inl ⟨_,Zl,ZaP eg ex⟩)))) (sr.mono ex)
      |_=>cases e5
     ·simp only[if_neg hl] at w3
      exact w3.elim
 |_=>exact w3.elim
end
end DL
end
section
namespace DL
open PySem PySem.Spec PyProof.Rows L2
section
variable {X:Cx} {ξ:XK} {tg a:Expr} {fs:Av} {p pos:Pos} {ta:TA}
noncomputable def iRv (fs:Av):Ro->Sto->Out Src:=fun ρ M=>(fs ρ M).bind fun ds M1=>match ds with | [.ref n]=>(match M1[n]? with | some (.lst xs)=> .ok (.rev n xs.length) M1 | none=> .bad) | _=> .bad
end
end DL
end
section
namespace DL
open PySem PySem.Spec PyProof.Rows L2
section
variable {X:Cx} {ξ:XK} {e e1 e2:Expr} {es:List Expr} {f:Ev} {pos:Pos}
end
end DL
end
section
namespace DL
open PySem PySem.Spec PyProof.Rows L2
section
variable {X:Cx} {ξ:XK} {tg iter elt:Expr} {ifs:List Expr} {scope:Scope} {cl:List (Str × Addr)} {N:List Str} {k:Nat} {fr:List Nat} {fi:Ro->Sto->Out Src} {gt:Tg} {c:Tv} {f:Ev} {pos:Pos}
end
end DL
end
section
namespace DL
open PySem PySem.Spec PyProof.Rows L2
noncomputable def ZoG:Bo:=fun x y M=>match x,y with
 | .ref n,.int k=>match M[n]? with
  |some (.lst xs)=>if (-9223372036854775808<=k/\k < 9223372036854775808)/\xs.length * k.toNat<=100000 then .ok (.ref M.length) (M ++ [.lst (List.replicate k.toNat xs).flatten]) else .bad
  |none=> .bad
 |_,_=> .bad
section
variable {X:Cx} {ξ:XK} {a b:Expr} {fa fb:Ev} {pos:Pos}
end
end DL
end
namespace DL
open PySem PySem.Spec L2
open PySem.W
section
variable {prog:Program} {w:World} {A:Around} {E:Value->Shared->Prop} {s:Shared}
end
section
variable {prog:Program} {w:World} {A:Around} {s:Shared} {R:Result->Shared->Prop}
variable {I:Addr} {fp wr:List Addr} {G:Array GenState->Array GenState->Prop} {n:Nat} {P:Nat->Value->Prop} {St:Nat->Shared->Prop}
end
section
variable {prog:Program} {w:World} {A:Around} {E:Value->Shared->Prop} {s:Shared}
variable {I:Addr} {fp wr:List Addr} {G:Array GenState->Array GenState->Prop} {n:Nat} {P:Nat->Value->Prop} {St:Nat->Shared->Prop}
end
section
variable {X:Cx} {ξ:XK} {a:Expr} {fs:Av} {p1 p2 p3 pos:Pos} {ta:TA}
end
end DL
section
namespace DL3
open PySem PySem.Spec PyProof.Rows L2 DL
open Sem (wp)
section
variable {prog:Program} {w:World} {A:Around} {E:Value->Shared->Prop} {s:Shared}
end
section
variable {prog:Program} {w:World} {A:Around} {E:Value->Shared->Prop} {s:Shared}
end
section
variable {X:Cx} {ξ:XK} {y1 y2 y3:Expr} {elts:List Expr} {k0:Nat} {tp:Pos} {fs:Av} {p pos:Pos} {ta:TA}
end
end DL3
end
section
namespace DL4
open PySem PySem.Spec PyProof.Rows L2 DL
open Sem (wp)
section
variable {prog:Program} {w:World} {A:Around} {E:Value->Shared->Prop} {s:Shared}
end
section
variable {prog:Program} {w:World} {A:Around} {E:Value->Shared->Prop} {s:Shared}
end
section
variable {X:Cx} {ξ:XK} {y1 y2 y3 y4:Expr} {elts:List Expr} {k0:Nat} {tp:Pos} {fs:Av} {p pos:Pos} {ta:TA}
end
end DL4
end
section
namespace PySem.SeqAt
open AutoSeq1 (wpAny_loadPart')
open MeetsSeq MeetsSeq2 MeetsSeq3 SeqRoads2
end PySem.SeqAt
namespace DL
open PySem PySem.Spec PyProof.Rows L2
open PySem.SeqAt
noncomputable def Zb8:List D->Option (List Int)
 | []=>some []
 | .int i :: r=>match Zb8 r with | some is=>some (i :: is) | none=>none
 |_ :: _=>none
theorem Zb9 {K:PySem.W.Frag} {H:Hp} {α:List Addr}: ∀ {vs:List V} {ds:List D} {a:List Int},Reps K H α vs ds->Zb8 ds=some a->vs=a.map V.int
 |_,_,a,.nil,e=>by cases e;rfl
 |_,_,a,.cons (d:=d) (ds:=ds) r t,e=>by
  cases r with
  |int i=>
   unfold Zb8 at e
   split at e
   ·rename_i is e1
    cases e
    rw[Zb9 t e1]
    rfl
   ·cases e
  |_=>cases e
section
variable {X:Cx} {pins:List (Addr × Obj)} {σ:L2.St} {H:Hp} {s:Shared} {α:List Addr} {M:Sto}
theorem Zeu: ∀ {xs:List V} {us:List Value} {j:Nat} {u:Value},ZF xs us->us[j]?=some u-> ∃ x,xs[j]?=some x/\Zz x u
 | [],us,j,u,h,e=>by cases h;simp at e
 |x :: xs,us,j,u,h,e=>by
  cases h with
  |cons h1 h2=>
   cases j with
   |zero=>simp at e;subst e;exact ⟨x,rfl,h1⟩
   |succ j=>simp at e;obtain ⟨y,g1,g2⟩:=Zeu h2 e;exact ⟨y,by simpa using g1,g2⟩
theorem ZcF {K:PySem.W.Frag}: ∀ {xs:List V} {ds:List D} {j:Nat} {x:V},Reps K H α xs ds->xs[j]?=some x-> ∃ d,ds[j]?=some d/\Rep K H α x d
 |_,_,j,x,.nil,e=>by simp at e
 |_,_,0,x,.cons r _,e=>by simp at e;subst e;exact ⟨_,rfl,r⟩
 |_,_,j + 1,x,.cons _ t,e=>by
  obtain ⟨d,g1,g2⟩:=ZcF (j:=j) t (by simpa using e)
  exact ⟨d,by simpa using g1,g2⟩
end
end DL
end
section
namespace PySem
open Sem (wp)
section
variable {prog:Program} {w:World} {A:Around} {R:Result->Shared->Prop} {I:Addr} {fp wr:List Addr} {P:Nat->Value->Prop} {St:Nat->Heap->Prop}
end
section
variable {prog:Program} {w:World} {A:Around} {E:Value->Shared->Prop} {s:Shared}
end
end PySem
namespace DL
open PySem PySem.Spec PyProof.Rows L2
open PySem.SeqAt
section
variable {X:Cx} {pins:List (Addr × Obj)} {σ:L2.St} {H:Hp} {s:Shared} {α:List Addr} {M:Sto}
end
end DL
end
section
namespace HT
open PySem PyProof.Rows
section
open PySem.SeqAt
open PySem.AutoSeq1 (wpAny_loadPart')
open PySem.MeetsSeq PySem.MeetsSeq2 PySem.MeetsSeq3
end
section
variable {prog:Program} {w:World} {A:Around} {E:Value->Shared->Prop} {s:Shared}
end
end HT
namespace DL
open PySem PySem.Spec PyProof.Rows L2
section
variable {X:Cx} {ξ:XK}
end
end DL
end
section
namespace DL
open PySem PySem.Spec PyProof.Rows L2
end DL
end
section
namespace DL
open PySem PySem.Spec PyProof.Rows L2
section
variable {X:Cx} {pins:List (Addr × Obj)} {σ:L2.St} {H:Hp} {s:Shared} {a b:Addr} {v:V} {r:Value} {A:Around} {E:Value->Shared->Prop}
end
section
variable {X:Cx} {ξ:XK} {tg iter kx vx:Expr} {ifs:List Expr} {scope:Scope} {cl:List (Str × Addr)} {N:List Str} {k:Nat} {fr:List Nat} {fi:Ro->Sto->Out Src} {gt:Tg} {c:Tv} {fk fv:Ev} {pos:Pos}
end
end DL
end
section
namespace DL
open PySem PySem.Spec PyProof.Rows L2
section
variable {prog:Program} {w:World} {A:Around} {E:Value->Shared->Prop} {s:Shared} {d it:Addr} {od:Obj} {es:Array DictEntry} {ep i n:Nat}
theorem Zho {Q:Value->Shared->Prop} (nd:(d == sysModules)=false) (gd:s.heap.get? d=some od) (cd:od.cls= .type "dict") (ed:od.data= .dict es ep)
  (q:Q (.ref s.heap.objs.size) { s with heap:=s.heap.push { cls:= .type "dict_keyiterator",data:= .fields #[.ref d,.int 0 0,.int es.size 0,.int ep 0] } }):wpAny (model prog w) A (pyIter (.ref d)) Q E s:=by
 have ty:s.TypeIs (.ref d) "dict":=⟨od,gd,cd⟩
 have nm: ¬ (d == sysModules)=true:=by rw[nd];exact Bool.false_ne_true
 refine wpAny_pyIter_slot ty F.slot_dict_iter (wpAny_call_entry F.slot_dict_iter ty F.entry_dict_iter ?_ (F.args_dict_iter_1 _))
 unfold Builtin.«dict.__iter__» Builtin.Dict.dictSlotNone
 refine wpAny_bind (wpAny_bind (wpAny_notOrdered_dict ty (show wpAny (model prog w) _ (pure (Value.ref d)) _ _ s from wpAny_pure ?_)))
 show wpAny (model prog w) _ (Builtin.Dict.showsAll d >>= _) _ _ s
 unfold Builtin.Dict.showsAll
 rw[if_neg nm]
 refine wpAny_bind (wpAny_pure (wpAny_bind (wpAny_dictEntries gd ed (wpAny_bind (wpAny_dictEpoch gd ed (wpAny_bind (wpAny_newObj_type (wpAny_pure ⟨_,rfl,"dict_keyiterator",_,⟨_,Heap.get?_push_size _ rfl,rfl⟩,F.slot_dict_keyiterator_next.lookup,?_⟩))))))))
 simpa [rawInt] using q
theorem Zev:Builtin.Dict_items.ownsTuple "dict_keyiterator"=false:=by decide
theorem Zjm {e:DictEntry} {Q:Option Value->Shared->Prop} (hi:s.heap.IsKeyIter it d i es.size ep) (gd:s.heap.get? d=some od) (ed:od.data= .dict es ep) (he:es[i]?=some e)
  (q: ∀ h',h'.IsKeyIter it d (i + 1) es.size ep->Heap.SameBut it s.heap h'->Q (some e.key) { s with heap:=h' }):wpAny (model prog w) A (pyNext (.ref it)) Q E s:=by
 obtain ⟨oi,gi,ci,di⟩:=id hi
 obtain ⟨lt,ee⟩:=Array.getElem?_eq_some_iff.mp he
 have sl:=F.slot_dict_keyiterator_next
 have n1: ¬ ((Value.ref d == Value.none)=true):=Bool.false_ne_true
 have n2: ¬ ((i:Int) < 0):=by omega
 unfold pyNext
 refine wpAny_bind (wpAny_attempt (wpAny_callSpecial?_slot (name:=Str.ofString "__next__") hi.typeIs sl (wpAny_call_entry sl hi.typeIs F.entry_dict_keyiterator_next ?_ (F.args_dict_keyiterator_next_1 _))))
 refine wpAny_bind (wpAny_pure (wpAny_bind (wpAny_bind ?_)))
 first | refine wpAny_bind (wpAny_typeNameOfWhole_keyiter hi.typeIs (wpAny_pure (wpAny_bind (wpAny_fieldsOf gi di ?_)))) | refine wpAny_bind (wpAny_typeNameOf_keyiter hi.typeIs (wpAny_pure (wpAny_bind (wpAny_fieldsOf gi di ?_))))
 simp only[Zev,Bool.false_eq_true,if_false]
 show wpAny (model prog w) _ (if (Value.ref d == Value.none)=true then _ else _) _ _ s
 rw[if_neg n1]
 refine wpAny_bind (wpAny_pure (wpAny_bind (wpAny_dictEntries gd ed ?_)))
 rw[if_neg (by simp)]
 refine wpAny_bind (wpAny_pure (wpAny_bind (wpAny_dictEpoch gd ed ?_)))
 rw[if_neg (by simp)]
 refine wpAny_pure ?_
 simp only[n2,if_false,Int.toNat_natCast,he]
 refine wpAny_bind ?_
 have st:(s.heap.update it (Obj.mapFields (·.setIfInBounds 1 (rawInt ((i:Int) + 1))))).IsKeyIter it d (i + 1) es.size ep:=⟨_,Heap.get?_update_self _ gi (Obj.isFreed_of_fields (Obj.data_mapFields di _)),(Obj.cls_mapFields ..).trans ci,by rw[Obj.data_mapFields di];simp[rawInt]⟩
 first | refine wpAny_bind (wpAny_typeNameOfWhole_keyiter hi.typeIs (wpAny_pure (wpAny_bind (wpAny_isOneOf_keyiter hi.typeIs ?_)))) | refine wpAny_bind (wpAny_typeNameOf_keyiter hi.typeIs (wpAny_pure (wpAny_bind (wpAny_isOneOf_keyiter hi.typeIs ?_))))
 show wpAny (model prog w) _ (setField (.ref it) 1 (rawInt ((i:Int) + 1)) >>= _) _ _ s
 refine wpAny_bind (wpAny_setField gi di (by simp) (wpAny_bind (wpAny_holding (wpAny_bind (wpAny_isOneOf_keyiter (s:={ s with heap:=s.heap.update it (Obj.mapFields (·.setIfInBounds 1 (rawInt ((i:Int) + 1)))) }) st.typeIs ?_)))))
 show wpAny (model prog w) _ (pure e.key) _ _ _
 exact wpAny_pure (wpAny_pure ⟨_,rfl,wpAny_pure (q _ st (Heap.SameBut.update ..))⟩)
theorem Zjn (qq:DQ.Zai A s.heap) (hi:s.heap.IsKeyIter it d i es.size ep) (gd:s.heap.get? d=some od) (ed:od.data= .dict es ep) (he:es[i]?=none):wpAny (model prog w) A.in1 (Builtin.«dict_keyiterator.__next__» ⟨[.ref it],[]⟩) (fun _ _=>False) (DQ.ZcO it s) s:=by
 obtain ⟨oi,gi,ci,di⟩:=id hi
 have n1: ¬ ((Value.ref d == Value.none)=true):=Bool.false_ne_true
 have n2: ¬ ((i:Int) < 0):=by omega
 refine wpAny_bind (wpAny_pure (wpAny_bind (wpAny_bind ?_)))
 first | refine wpAny_bind (wpAny_typeNameOfWhole_keyiter hi.typeIs (wpAny_pure (wpAny_bind (wpAny_fieldsOf gi di ?_)))) | refine wpAny_bind (wpAny_typeNameOf_keyiter hi.typeIs (wpAny_pure (wpAny_bind (wpAny_fieldsOf gi di ?_))))
 simp only[Zev,Bool.false_eq_true,if_false]
 show wpAny (model prog w) _ (if (Value.ref d == Value.none)=true then _ else _) _ _ s
 rw[if_neg n1]
 refine wpAny_bind (wpAny_pure (wpAny_bind (wpAny_dictEntries gd ed ?_)))
 rw[if_neg (by simp)]
 refine wpAny_bind (wpAny_pure (wpAny_bind (wpAny_dictEpoch gd ed ?_)))
 rw[if_neg (by simp)]
 refine wpAny_pure ?_
 simp only[n2,if_false,Int.toNat_natCast,he]
 refine wpAny_bind ?_
 first | refine wpAny_bind (wpAny_typeNameOfWhole_keyiter hi.typeIs (wpAny_pure ?_)) | refine wpAny_bind (wpAny_typeNameOf_keyiter hi.typeIs (wpAny_pure ?_))
 show wpAny (model prog w) _ (setField (.ref it) 0 .none >>= _) _ _ s
 refine wpAny_bind (wpAny_setField gi di (by simp) ?_)
 have q2:DQ.Zai A.in1 (s.heap.update it (Obj.mapFields (·.setIfInBounds 0 Value.none))):=by
  rcases qq with qq | ⟨ea,oe,vs,e1,e2,e3,e4⟩
  ·exact .inl qq
  ·refine .inr ⟨ea,oe,vs,e1,?_,e3,e4⟩
   rw[Heap.get?_update_other _ _ (fun z=> ?_)]
   ·exact e2
   ·rw[<- z,gi] at e2
    cases e2
    rw[di] at e3
    cases e3
    simp at e4
 refine DQ.Zaz q2 fun h' e k ho=>⟨e,rfl,ho,h',fun b o hb z=>k b o ?_,rfl⟩
 rw[Heap.get?_update_other _ _ (Ne.symm hb)]
 exact z
theorem Zdv {Q:Option Value->Shared->Prop} (qq:DQ.Zai A s.heap) (hi:s.heap.IsKeyIter it d i es.size ep) (gd:s.heap.get? d=some od) (ed:od.data= .dict es ep) (he:es[i]?=none)
  (q: ∀ h',Heap.ExtBut it s.heap h'->Q none { s with heap:=h' }):wpAny (model prog w) A (pyNext (.ref it)) Q E s:=
 DQ.ZcP hi.typeIs F.slot_dict_keyiterator_next F.entry_dict_keyiterator_next (F.args_dict_keyiterator_next_1 _) (Zjn qq hi gd ed he) q
end
noncomputable def Itd (d:Addr) (o:Obj) (kvs:List (List Key × V)):It:=
 ⟨fun i H=>H d=some (.frz o (.dT kvs))/\i < kvs.length,fun i H x H'=>H'=H/\ ∃ k v p,kvs[i]?=some (k,v)/\x= .ref p/\H p=some (.tup (k.map kV)),fun i H=>H d=some (.frz o (.dT kvs))/\kvs.length<=i⟩
theorem Zbq {β γ:Type} {F:β->γ->Prop}: ∀ {l:List β} {m:List γ} {i:Nat} {x:β},Paired F l m->l[i]?=some x-> ∃ y,m[i]?=some y/\F x y
 |_,_,0,_,.cons h _,e=>by
  simp only[List.getElem?_cons_zero,Option.some.injEq] at e
  subst e
  exact ⟨_,rfl,h⟩
 |_,_,i + 1,_,.cons _ t,e=>by
  obtain ⟨y,h1,h2⟩:=Zbq (i:=i) t (by simpa using e)
  exact ⟨y,by simpa using h1,h2⟩
section
variable {X:Cx} {pins:List (Addr × Obj)} {σ:L2.St} {H:Hp} {s:Shared} {d:Addr} {o:Obj} {kvs:List (List Key × V)}
theorem Zew (I:Inv X pins σ H s) (e:H d=some (.frz o (.dT kvs))): ∃ (es:Array DictEntry) (ep:Nat),s.heap.get? d=some o/\o.cls= .type "dict"/\o.data= .dict es ep/\es.size=kvs.length/\ ∀ (i:Nat) (k:List Key) (v:V),kvs[i]?=some (k,v)-> ∃ (en:DictEntry) (p:Addr),es[i]?=some en/\en.key=Value.ref p/\H p=some (.tup (k.map kV)):=by
 obtain ⟨g,_,_,xs,rel,o',es,ep,g',ex,da,en,_⟩:=(show Z1 X.prog X.w H s.heap d (.frz o (.dT kvs)) from I.hok d _ e)
 rw[g] at g'
 cases g'
 refine ⟨es,ep,g,ex.1,da,by rw[Paired.length rel,<- List.length_map (f:=entryOfKey (tupleKind (ZA X.prog X.w))),<- en,Array.length_toList],fun i k v hi=> ?_⟩
 obtain ⟨y,h1,h2,h3,_⟩:=Zbq rel hi
 refine ⟨entryOfKey (tupleKind (ZA X.prog X.w)) y,y.2.1,?_,rfl,h3⟩
 rw[<- Array.getElem?_toList,en,List.getElem?_map,h1]
 rfl
end
theorem Zex {P:Program} {w:World} {K:PySem.W.Frag} {B:Around} {tg:Expr} (d it:Addr) (o:Obj) (kvs:List (List Key × V)) {es:Array DictEntry} {ep:Nat} (ho:o.data= .dict es ep):Turn P w K B tg (Itd d o kvs) [it] it (fun i h=>h.IsKeyIter it d i kvs.length ep) where
 mem:=by simp
 obj:=fun i h st b hb=>by
  have e:b=it:=by simpa using hb
  subst e
  obtain ⟨o,e,c,d⟩:=st
  exact ⟨o,e,fun v z=>by rw[d] at z;cases z⟩
 keep:=fun i h h' st k=>st.at fun o e=>k it (by simp) o e
 item:=by
  intro X hP hw hK hA i pins s σ H E I hf st hg
  subst hP hw hK hA
  obtain ⟨hd,hi⟩:=hg
  obtain ⟨es',ep',g,_,da,sz,all⟩:=Zew I hd
  rw[ho] at da
  cases da
  obtain ⟨en,p,h1,h2,h3⟩:=all i kvs[i].1 kvs[i].2 (List.getElem?_eq_getElem hi)
  obtain ⟨f0,f1,f2,f3,f4,f5⟩:=hf it (by simp)
  rw[<- sz] at st
  refine Zjm st g ho h1 fun h' st' sb=> ?_
  rw[sz] at st'
  have I1:Inv X pins σ H { s with heap:=h' }:=I.turned (t':=s.toks) (fun b o hb e=>(sb.2 b hb).trans e) f0 f1 f3 f4 f5
  obtain ⟨o2,e,c,dd⟩:=id st'
  exact ⟨en.key,rfl,Zfc (s:={ s with heap:=h' }) e c dd (by decide) ⟨.ref p,H,I1,h2,⟨rfl,_,_,p,List.getElem?_eq_getElem hi,rfl,h3⟩,st',fun b hb=>(hf b hb).1⟩⟩
 done:=by
  intro X hP hw hK hA i pins s σ H E I hf st hg
  subst hP hw hK hA
  obtain ⟨hd,hi⟩:=hg
  obtain ⟨es',ep',g,_,da,sz,all⟩:=Zew I hd
  rw[ho] at da
  cases da
  obtain ⟨f0,f1,f2,f3,f4,f5⟩:=hf it (by simp)
  rw[<- sz] at st
  refine Zdv I.qh st g ho (Array.getElem?_eq_none (by omega)) fun h' ext=>⟨rfl,?_⟩
  exact I.turned (t':=s.toks) (it:=it) (fun b o hb z=>ext b o hb z) f0 f1 f3 f4 f5
 self:=fun A i s Q E st q=>wpAny_pyIter_keyiter st q
section
variable {X:Cx} {ξ:XK} {tg a:Expr} {f:Ev} {te:TE}
noncomputable def iDc (te:TE):TI:=fun σ H R=>te σ H fun x H1=> ∃ d kvs,x= .ref d/\((H1 d=some (.dT kvs)/\ ∀ o,R (Itd d o kvs) (upd H1 d (.frz o (.dT kvs))))\/ ∃ o,H1 d=some (.frz o (.dT kvs))/\R (Itd d o kvs) H1)
theorem Zhp {pins:List (Addr × Obj)} {σ:L2.St} {H:Hp} {s:Shared} {d:Addr} {kvs:List (List Key × V)} (I:Inv X pins σ H s) (e:H d=some (.dT kvs)):(d == sysModules)=false/\ ∃ o,Inv X pins σ (upd H d (.frz o (.dT kvs))) s:=by
 obtain ⟨z,nd,xs,rel,o,es,ep,g,ex,da,en,no⟩:=(show Z1 X.prog X.w H s.heap d (.dT kvs) from I.hok d _ e)
 refine ⟨nd,o,I.write (h':=s.heap) (t':=s.toks) (e:=d) (by rw[e];trivial) (.inl rfl) (fun b u _ h=>h) ⟨o,g⟩ ⟨g,z,nd,xs,L2.Paired.mapP rel fun p q h=>⟨h.1,?_,h.2.2⟩,o,es,ep,g,ex,da,en,no⟩⟩
 rw[Zs (Zip h.2.1 e (fun z=>nomatch z))]
 exact h.2.1
theorem Zhq (hl:PE X a te):PI X tg a (iDc te):=by
 intro pins s σ H R I h
 refine thn (hl pins s σ H _ I h) fun v s1 w1=> ?_
 obtain ⟨x,H1,I1,r1,d,kvs,e,q⟩:=w1
 subst e
 cases r1
 have main: ∀ (H2:Hp) (o:Obj),Inv X pins σ H2 s1->(d == sysModules)=false->H2 d=some (.frz o (.dT kvs))->R (Itd d o kvs) H2->wpAny (model X.prog X.w) X.A (pyIter (.ref d)) (PIE X pins σ tg R) X.xe s1:=by
  intro H2 o I2 nd e2 r2
  obtain ⟨es,ep,g,c,da,sz,_⟩:=Zew I2 e2
  refine Zho nd g c da ?_
  have T:=Zex (P:=X.prog) (w:=X.w) (K:=X.K) (B:=X.A) (tg:=tg) d s1.heap.objs.size o kvs da
  refine ⟨s1.heap.objs.size,[s1.heap.objs.size],_,_,H2,rfl,I2.kept (t':=s1.toks) fun b o e=>Heap.get?_push_of_some _ e,T,⟨_,Heap.get?_push_size _ rfl,rfl,by rw[sz];rfl⟩,fun b hb=> ?_,r2⟩
  have e:b=s1.heap.objs.size:=by simpa using hb
  subst e
  exact I2.fpOk (Nat.le_refl _) (I2.hok.fresh (Nat.le_refl _))
 rcases q with ⟨e1,q⟩ | ⟨o,e1,q⟩
 ·obtain ⟨nd,o,I2⟩:=Zhp I1 e1
  exact main _ o I2 nd Zl (q o)
 ·exact main H1 o I1 (show Z1 X.prog X.w H1 s1.heap d (.frz o (.dT kvs)) from I1.hok d _ e1).2.2.1 e1 q
theorem Zba {K:PySem.W.Frag} {H:Hp} {α:List Addr}: ∀ ks:List Key,Reps K H α (ks.map kV) (ks.map ZdD)
 | []=> .nil
 | .inl i :: r=> .cons (.int i) (Zba r)
 | .inr x :: r=> .cons (.str x) (Zba r)
noncomputable def ZfD (f:Ev):Ro->Sto->Out Src:=fun ρ M=>(f ρ M).bind fun d M1=>match d with
 | .dt n=>(match M1[n]? with | some (.lst r)=>if nfz r=true then .ok (.dct n) (M1.set n (.lst (.non :: r))) else .ok (.dct n) M1 | none=> .bad)
 |_=> .bad
theorem Zca {K:PySem.W.Frag} {H:Hp} {α:List Addr} {d:Addr} {o:Obj} {kvs:List (List Key × V)} {n:Nat} (hp:α[n]?=some d) (hd:H d=some (.frz o (.dT kvs))):Zjb K H α (Itd d o kvs) (.dct n):=by
 intro i H' α' M' ex hr
 have hd':=ex.fz _ _ _ hd
 have hp':=ex.get0 hp
 have hn:n < M'.length:=by rw[<- hr.len];exact (List.getElem?_eq_some_iff.mp hp').1
 have em:M'[n]?=some M'[n]:=List.getElem?_eq_getElem hn
 generalize M'[n]=so at em
 cases so with
 |lst ds=>
  rcases hr.ob n d _ hp' em with ⟨_,h1,_⟩ | ⟨_,h1,_⟩ | ⟨_,h1,_⟩ | ⟨_,_,_,h1,_⟩ | ⟨o2,kvs2,r,h1,rfl,es,rfl,h3⟩
  ·rw[hd'] at h1;cases h1
  ·rw[hd'] at h1;cases h1
  ·rw[hd'] at h1;cases h1
  ·rw[hd'] at h1;cases h1
  ·rw[hd'] at h1
   cases h1
   have le:es.length=kvs.length:=by have:=h3.length;rw[List.length_map] at this;exact this.symm
   by_cases hi:i < kvs.length
   ·have e1:(List.zipWith (fun kv e=>D.tup [ZaO kv.1,e]) kvs es)[i]?=some (.tup [ZaO kvs[i].1,es[i]'(by omega)]):=by
     rw[List.getElem?_zipWith,List.getElem?_eq_getElem hi,List.getElem?_eq_getElem (by omega)]
    have e2:nxt (.dct n) i M'=some (some (ZaO kvs[i].1)):=by simp only[nxt,em,e1]
    rw[e2]
    refine ⟨⟨hd',hi⟩,fun x H'' y=> ?_⟩
    obtain ⟨rfl,k,v,p,y1,rfl,y2⟩:=y
    rw[List.getElem?_eq_getElem hi,Option.some.injEq] at y1
    rw[y1]
    exact ⟨Ext.refl,hr,.tup y2 (Zba _)⟩
   ·have e1:(List.zipWith (fun kv e=>D.tup [ZaO kv.1,e]) kvs es)[i]?=none:=List.getElem?_eq_none (by rw[List.length_zipWith];omega)
    have e2:nxt (.dct n) i M'=some none:=by simp only[nxt,em,e1]
    rw[e2]
    exact ⟨hd',by omega⟩
theorem Zey (ha:DE X ξ a f):DI X ξ tg a (ZfD f):=by
 obtain ⟨ta,pa,qa⟩:=ha
 refine ⟨_,Zhq pa,fun σ ρ H α M R s hh q=>qa σ ρ H α M _ s hh (OG.seq q fun d M1 v H1 α1 e1 h1 r1 w1=> ?_)⟩
 cases r1 with
 | @dt p n hp=>
  cases em:M1[n]? with
  |none=>simp only[em] at w1;exact w1.elim
  |some so=>
   cases so with
   |lst r=>
    simp only[em] at w1
    rcases h1.atT hp em with ⟨kvs,g1,g2⟩ | ⟨o,kvs,r',g1,rfl,g2⟩
    ·have nf:nfz r=true:=by
      obtain ⟨es,rfl,_⟩:=g2
      cases kvs with
      |nil=>rfl
      |cons x t=>cases es<;>rfl
     rw[if_pos nf] at w1
     refine ⟨p,kvs,rfl,.inl ⟨g1,fun o=> ?_⟩⟩
     have kn:Kn (upd H1 p (.frz o (.dT kvs))) p=some 2:=by unfold Kn;rw[Zl]
     have ex:Ext X.K H1 (upd H1 p (.frz o (.dT kvs))) α1 α1:=Ext.wrK hp.kn (fun _ _ z=>by rw[g1] at z;cases z) kn
     exact w1 _ _ α1 ex (h1.wrO hp.at' ex (.inr (.inr (.inr (.inr ⟨o,kvs,r,Zl,rfl,ZaP g2 ex⟩))))) (Zca hp.at' Zl)
    ·rw[if_neg (fun z=>nomatch z)] at w1
     exact ⟨p,kvs,rfl,.inr ⟨o,g1,w1 _ H1 α1 Ext.refl h1 (Zca hp.at' g1)⟩⟩
 |_=>exact w1.elim
end
end DL
end
section
namespace DL
open PySem PySem.Spec PyProof.Rows L2
section
variable {X:Cx} {ξ:XK} {e:Expr} {es:List Expr} {fs:Av} {p pos:Pos} {x:Str}
end
section
variable {X:Cx} {ξ:XK} {pos p:Pos} {v:Expr} {keys:List (Option Expr)} {values:List Expr} {k:Str} {f:Ev} {kfs:List (Str × Ev)} {j:Nat}
end
section
variable {X:Cx} {ξ:XK} {tg a:Expr} {f:Ev} {te:TE}
end
end DL
end
namespace DL
open PySem PySem.Spec L2
section
variable {X:Cx} {ξ:XK} {a b c:Expr} {fa fb fc:Ev} {pos:Pos}
noncomputable def Zhr (f:Ev):Prop:= ∀ ρ,(∃ d,∀ M,f ρ M= .ok d M)\/ ∀ M,f ρ M= .bad
theorem Zgm {i:Nat}:Zhr (Zh i):=fun ρ=>by
 cases e:ρ[i]? with
 |none=>exact .inr fun M=>by simp only[Zh,e]
 |some o=>
  cases o with
  |none=>exact .inr fun M=>by simp only[Zh,e]
  |some d=>exact .inl ⟨d,fun M=>by simp only[Zh,e]⟩
theorem ZlG {r r':R2} {f g:Bo} (hp:Zhr fb) (hf:BO X ξ r f) (hg:BO X ξ r' g) {ta tb tc:TE}
  (qa: ∀ σ ρ H α M Q,SR X.K H α σ ρ->HR X.K H α M->OP X.K H α ξ Q (fa ρ M)->ta σ H Q)
  (qb: ∀ σ ρ H α M Q,SR X.K H α σ ρ->HR X.K H α M->OP X.K H α ξ Q (fb ρ M)->tb σ H Q)
  (qc: ∀ σ ρ H α M Q,SR X.K H α σ ρ->HR X.K H α M->OP X.K H α ξ Q (fc ρ M)->tc σ H Q):
  ∀ σ ρ H α M Q,SR X.K H α σ ρ->HR X.K H α M->OP X.K H α ξ Q (Zcz (e2 f fa fb) (e2 g fb fc) ρ M)->Zf1 r r' ta tb tc σ H Q:=by
 intro σ ρ H α M Q s h q
 unfold Zcz e2 at q
 rcases hp ρ with ⟨d,hd⟩ | hd
 ·have q:OP X.K H α ξ Q ((fa ρ M).bind fun x M1=>(fb ρ M1).bind fun y M2=>(f x y M2).bind fun z M3=>match z with | .bl k=>if k=true then (fc ρ M3).bind fun w M4=>g d w M4 else .ok (.bl false) M3 | _=> .bad):=by
   simp only[hd,Out.bind] at q ⊢
   cases e:fa ρ M with
   |ok x M1=>simp only[e] at q ⊢;exact q
   |exc c M1=>simp only[e] at q ⊢;exact q
   |bad=>simp only[e] at q ⊢;exact q
  refine qa σ ρ H α M _ s h (OG.seq q fun x M1 v H1 α1 e1 h1 r1 q1=> ?_)
  rw[hd] at q1
  refine qb σ ρ H1 α1 M1 _ (s.mono e1) h1 ?_
  rw[hd]
  intro w H2 α2 e2 h2 r2
  have q2:=OG.ext (o:=(f x d M1).bind fun z M3=>match z with | .bl k=>if k=true then (fc ρ M3).bind fun w M4=>g d w M4 else .ok (.bl false) M3 | _=> .bad) q1 e2
  refine hf H2 α2 M1 v w x d _ h2 (Rep.mono e2 r1) r2 (OG.seq q2 fun z M3 u H3 α3 e3 h3 r3 q3=> ?_)
  cases r3 with
  |bl k=>
   refine ⟨k,rfl,?_⟩
   cases k with
   |true=>
    refine Zia (qc σ ρ H3 α3 M3 _ ((s.mono e1).mono (e2.trans e3)) h3 (OG.seq q3 fun w' M4 u' H4 α4 e4 h4 r4 q4=> ?_))
    exact hg H4 α4 M4 w u' d w' Q h4 (Rep.mono (e3.trans e4) r2) r4 q4
   |false=>exact Zh9 (q3 _ H3 α3 Ext.refl h3 (.bl false))
  |_=>exact q3.elim
 ·simp only[hd] at q
  refine qa σ ρ H α M _ s h ?_
  cases e:fa ρ M with
  |ok x M1=>rw[e] at q;exact q.elim
  |exc c M1=>rw[e] at q;exact q
  |bad=>rw[e] at q;exact q
theorem Zgn {op op':CmpOp} {r r':R2} {f g:Bo} (ho:OpR X (compareOp op) r) (hf:BO X ξ r f) (ho':OpR X (compareOp op') r') (hg:BO X ξ r' g) (hp:Zhr fb) (ha:DE X ξ a fa) (hb:DE X ξ b fb) (hc:DE X ξ c fc)
  (hm:lastMarks [op,op'] [b,c]=false:=by with_unfolding_all rfl):DT X ξ (.Compare a [op,op'] [b,c] pos) (tv (Zcz (e2 f fa fb) (e2 g fb fc))):=by
 obtain ⟨ta,ha,qa⟩:=ha
 obtain ⟨tb,hb,qb⟩:=hb
 obtain ⟨tc,hc,qc⟩:=hc
 exact ⟨_,Zfe ho ho' ha hb hc hm,Zd5 (ZlG hp hf hg qa qb qc)⟩
end
end DL
section
namespace DL
open PySem PySem.Spec PyProof.Rows L2 PySem.W
section
variable {K:PySem.W.Frag} {H:Hp} {α:List Addr}
end
section
variable {X:Cx} {ξ:XK} {pos:Pos}
variable {o e:Expr} {fo fa:Ev} {apos cpos:Pos}
end
end DL
end
section
namespace PySem.SeqAt
open MeetsSeq MeetsSeq2 MeetsSeq3 SeqRoads2
end PySem.SeqAt
namespace DL
open PySem PySem.Spec PyProof.Rows L2 PySem.W
section
variable {X:Cx} {ξ:XK} {o e:Expr} {fo fa:Ev} {apos cpos:Pos}
end
end DL
end
section
namespace ST
open PySem PyProof.Rows
noncomputable abbrev lt (a b:List Int):Bool:=HT.Zao a b
noncomputable def le (a b:List Int):Prop:=lt b a=false
theorem Zez: ∀ a:List Int,lt a a=false
 | []=>rfl
 |x :: r=>by
  show HT.Zao (x :: r) (x :: r)=false
  rw[HT.ZV,if_pos rfl]
  exact Zez r
theorem Zhs: ∀ {a b c:List Int},lt a b=true->lt b c=true->lt a c=true
 | [],[],_,h,_=>by cases h
 | [],_ :: _,[],_,h=>by cases h
 | [],_ :: _,_ :: _,_,_=>rfl
 |_ :: _,[],_,h,_=>by cases h
 |_ :: _,_ :: _,[],_,h=>by cases h
 |x :: a,y :: b,z :: c,h,g=>by
  show HT.Zao (x :: a) (z :: c)=true
  have h:HT.Zao (x :: a) (y :: b)=true:=h
  have g:HT.Zao (y :: b) (z :: c)=true:=g
  rw[HT.ZV] at h g ⊢
  by_cases e1:x=y
  ·subst e1
   rw[if_pos rfl] at h
   by_cases e2:x=z
   ·rw[if_pos e2] at g ⊢;exact Zhs h g
   ·rw[if_neg e2] at g ⊢;exact g
  ·rw[if_neg e1] at h
   have h:=of_decide_eq_true h
   by_cases e2:y=z
   ·subst e2;rw[if_neg e1];exact decide_eq_true h
   ·rw[if_neg e2] at g
    have g:=of_decide_eq_true g
    rw[if_neg (by omega)]
    exact decide_eq_true (by omega)
theorem Zcb: ∀ {a b:List Int},lt a b=false->lt b a=false->a=b
 | [],[],_,_=>rfl
 | [],_ :: _,h,_=>by cases h
 |_ :: _,[],_,h=>by cases h
 |x :: a,y :: b,h,g=>by
  have h:HT.Zao (x :: a) (y :: b)=false:=h
  have g:HT.Zao (y :: b) (x :: a)=false:=g
  rw[HT.ZV] at h g
  by_cases e:x=y
  ·subst e
   rw[if_pos rfl] at h g
   rw[Zcb h g]
  ·rw[if_neg e] at h
   rw[if_neg (Ne.symm e)] at g
   have:=of_decide_eq_false h
   have:=of_decide_eq_false g
   omega
theorem Zbz (a:List Int):le a a:=Zez a
theorem ZeA {a b:List Int} (h:lt a b=true):le a b:=by
 unfold le
 cases e:lt b a with
 |false=>rfl
 |true=>have:=Zhs h e;rw[Zez] at this;cases this
theorem Zdw {a b c:List Int} (h:le a b) (g:le b c):le a c:=by
 unfold le at *
 cases e:lt c a with
 |false=>rfl
 |true=>
  cases e2:lt b a with
  |true=>rw[e2] at h;cases h
  |false=>
   cases e3:lt a b with
   |true=>rw[Zhs e e3] at g;cases g
   |false=>
    have:=Zcb e3 e2
    subst this
    rw[e] at g;cases g
theorem ZcG {a b c:List Int} (h:lt a b=true) (g:le b c):lt a c=true:=by
 cases e:lt a c with
 |true=>rfl
 |false=>have:=Zdw g e;unfold le at this;rw[h] at this;cases this
variable (kf:Keyed->List Int)
noncomputable def ky (xs:Array Keyed) (i:Nat):List Int:=match xs[i]? with | some p=>kf p | none=>[]
noncomputable def Up (xs:Array Keyed) (n:Nat):Prop:= ∀ i j,i<=j->j < n->le (ky kf xs i) (ky kf xs j)
noncomputable def Dn (xs:Array Keyed) (n:Nat):Prop:= ∀ i j,i<=j->j < n->le (ky kf xs j) (ky kf xs i)
variable {kf}
theorem ZeB {xs ys:Array Keyed} {i j:Nat} (h:xs[i]?=ys[j]?):ky kf xs i=ky kf ys j:=by unfold ky;rw[h]
theorem ZeC {xs:Array Keyed} {i j:Nat} (hj:j<=xs.size) (k:Nat):ky kf (mirror xs i j ((j - i) / 2)) k=if i<=k/\k < j then ky kf xs (i + j - 1 - k) else ky kf xs k:=by
 have g:=getElem?_mirror_all (i:=i) hj k
 split
 ·rename_i c;rw[if_pos c] at g;exact ZeB g
 ·rename_i c;rw[if_neg c] at g;exact ZeB g
theorem ZK {xs:Array Keyed} {i j:Nat} (hj:j<=xs.size) (hs: ∀ k,i<=k->k < j->ky kf xs k=ky kf xs (j - 1)) (k:Nat):ky kf (mirror xs i j ((j - i) / 2)) k=ky kf xs k:=by
 rw[ZeC hj]
 split
 ·rename_i c;rw[hs k c.1 c.2,hs (i + j - 1 - k) (by omega) (by omega)]
 ·rfl
theorem Zgo {xs:Array Keyed} {p d:Nat} (hp:p < xs.size) (hd:d<=p) (k:Nat):ky kf (bubble xs p d) k=if k=p - d then ky kf xs p else if p - d < k/\k<=p then ky kf xs (k - 1) else ky kf xs k:=by
 have g:=getElem?_bubble hp d hd k
 by_cases c1:k=p - d
 ·rw[if_pos c1] at g ⊢;exact ZeB g
 ·rw[if_neg c1] at g ⊢
  by_cases c2:p - d < k/\k<=p
  ·rw[if_pos c2] at g ⊢;exact ZeB g
  ·rw[if_neg c2] at g ⊢;exact ZeB g
structure Cm (M:Model) (A:Around) (E:Value->Shared->Prop) (s:Shared) (kf:Keyed->List Int) (B:SortSt->Prop) (N:Nat):Prop where
 sz: ∀ st,B st->(arrOf st).size=N
 put: ∀ st xs,B st->xs.Perm (arrOf st)->B (setArr st xs)
 cmp: ∀ st i j (Q:Option Bool->SortSt->Prop),B st->i < N->j < N->Q (some (lt (ky kf (arrOf st) i) (ky kf (arrOf st) j))) st->wpS M A E s (ltAt' i j) Q st
section
variable {prog:Program} {w:World} {A:Around} {E:Value->Shared->Prop} {s:Shared} {B:SortSt->Prop} {N:Nat}
theorem Up.more {xs:Array Keyed} {n:Nat} (h:Up kf xs n) (h1:1<=n) (hl:le (ky kf xs (n - 1)) (ky kf xs n)):Up kf xs (n + 1):=by
 intro i j ij jn
 by_cases c:j < n
 ·exact h i j ij c
 ·have:j=n:=by omega
  subst this
  by_cases c2:i=j
  ·subst c2;exact Zbz _
  ·exact Zdw (h i (j - 1) (by omega) (by omega)) hl
theorem Dn.more {xs:Array Keyed} {n:Nat} (h:Dn kf xs n) (h1:1<=n) (hl:le (ky kf xs n) (ky kf xs (n - 1))):Dn kf xs (n + 1):=by
 intro i j ij jn
 by_cases c:j < n
 ·exact h i j ij c
 ·have:j=n:=by omega
  subst this
  by_cases c2:i=j
  ·subst c2;exact Zbz _
  ·exact Zdw hl (h i (j - 1) (by omega) (by omega))
theorem Zjo (C:Cm (model prog w) A E s kf B N) {st:SortSt} {a n:Nat} {Q:AscSt->SortSt->Prop} (hn:n<=N) (ha:1<=a) (an:a<=n) (hB:B st) (hu:Up kf (arrOf st) a)
  (q: ∀ m,a<=m->m<=n->Up kf (arrOf st) m->(m=n\/lt (ky kf (arrOf st) m) (ky kf (arrOf st) (m - 1))=true)->Q (none,m) st):wpS (model prog w) A E s (ascLoop a n) Q st:=by
 unfold ascLoop
 refine wpS_forRange (fun x c t=>t=st/\c=(none,x)/\Up kf (arrOf st) x) (fun x c t ax xn hI=> ?_) (fun c t hI=> ?_) ⟨rfl,rfl,hu⟩
 ·obtain ⟨rfl,rfl,h⟩:=hI
  refine wpS_bind (C.cmp t x (x - 1) _ hB (by omega) (by omega) ?_)
  cases z:lt (ky kf (arrOf t) x) (ky kf (arrOf t) (x - 1)) with
  |true=>exact wpS_pure (q x ax (by omega) h (.inr z))
  |false=>exact wpS_pure ⟨rfl,rfl,h.more (by omega) z⟩
 ·obtain ⟨rfl,rfl,h⟩:=hI
  rw[Nat.max_eq_right an] at h ⊢
  exact q n an (Nat.le_refl _) h (.inl rfl)
theorem Zgp (C:Cm (model prog w) A E s kf B N) {st:SortSt} {m n:Nat} {Q:Option Nat->SortSt->Prop} (hn:n<=N) (h1:1<=m) (mn:m<=n) (hB:B st) (hd:Dn kf (arrOf st) m)
  (q: ∀ m t,B t->1<=m->m<=n->Up kf (arrOf t) m->Q (some m) t):wpS (model prog w) A E s (tail3 m n) Q st:=by
 have sz:=C.sz st hB
 have hB':=C.put st (mirror (arrOf st) 0 m ((m - 0) / 2)) hB (mirror_perm ..)
 refine wpS_bind (wpS_reverse (wpS_bind (Zjo C hn h1 mn hB' (fun i j ij jm=> ?_) fun k k1 k2 hu _=>wpS_pure (q k _ hB' (by omega) k2 hu))))
 show le (ky kf (mirror (arrOf st) 0 m ((m - 0) / 2)) i) (ky kf (mirror (arrOf st) 0 m ((m - 0) / 2)) j)
 rw[ZeC (by omega),ZeC (by omega),if_pos ⟨by omega,by omega⟩,if_pos ⟨by omega,jm⟩]
 exact hd _ _ (by omega) (by omega)
noncomputable def Eqs (kf:Keyed->List Int) (xs:Array Keyed) (x e:Nat):Prop:=e + 1<=x/\ ∀ i,x - (e + 1)<=i->i < x->ky kf xs i=ky kf xs (x - 1)
theorem ZlH {xs:Array Keyed} {x:Nat} (h:1<=x):Eqs kf xs x 0:=⟨by omega,fun i a b=>by rw[show i=x - 1 by omega]⟩
theorem Zjp (C:Cm (model prog w) A E s kf B N) {st:SortSt} {m n:Nat} {Q:DescSt->SortSt->Prop} (hn:n<=N) (h1:1<=m) (mn:m<=n) (hB:B st) (hd:Dn kf (arrOf st) m)
  (q: ∀ x e t,B t->m<=x->x<=n->Dn kf (arrOf t) x->Eqs kf (arrOf t) x e->Q (none,x,e) t):wpS (model prog w) A E s (descLoop m n) Q st:=by
 unfold descLoop
 refine wpS_forRange (fun x c t=> ∃ e,c=(none,x,e)/\B t/\Dn kf (arrOf t) x/\Eqs kf (arrOf t) x e) (fun x c t ax xn hI=> ?_) (fun c t hI=> ?_) ⟨0,rfl,hB,hd,ZlH h1⟩
 ·obtain ⟨e,rfl,hB,hd,he⟩:=hI
  have sz:=C.sz t hB
  refine wpS_bind (C.cmp t x (x - 1) _ hB (by omega) (by omega) ?_)
  cases z:lt (ky kf (arrOf t) x) (ky kf (arrOf t) (x - 1)) with
  |true=>
   have up1:=hd.more (by omega) (ZeA z)
   show wpS _ _ _ _ (if e > 0 then _ else _) _ _
   by_cases c:e > 0
   ·rw[if_pos c]
    refine wpS_bind (wpS_reverse (wpS_pure ⟨0,rfl,C.put t _ hB (mirror_perm ..),fun i j ij jx=> ?_,ZlH (by omega)⟩))
    show le (ky kf (mirror (arrOf t) (x - (e + 1)) x ((x - (x - (e + 1))) / 2)) j) (ky kf (mirror (arrOf t) (x - (e + 1)) x ((x - (x - (e + 1))) / 2)) i)
    rw[ZK (by omega) he.2,ZK (by omega) he.2]
    exact up1 i j ij jx
   ·rw[if_neg c]
    exact wpS_pure ⟨0,rfl,hB,up1,ZlH (by omega)⟩
  |false=>
   refine wpS_bind (C.cmp t (x - 1) x _ hB (by omega) (by omega) ?_)
   cases z2:lt (ky kf (arrOf t) (x - 1)) (ky kf (arrOf t) x) with
   |true=>exact wpS_pure (q x e t hB ax (by omega) hd he)
   |false=>
    have ee:ky kf (arrOf t) x=ky kf (arrOf t) (x - 1):=Zcb z z2
    refine wpS_pure ⟨e + 1,rfl,hB,hd.more (by omega) z2,by have:=he.1;omega,fun i a b=> ?_⟩
    rw[show x + 1 - 1=x by omega]
    by_cases c:i=x
    ·rw[c]
    ·rw[ee];exact he.2 i (by omega) (by omega)
 ·obtain ⟨e,rfl,hB,hd,he⟩:=hI
  rw[Nat.max_eq_right mn] at hd he ⊢
  exact q n e t hB mn (Nat.le_refl _) hd he
theorem Zgq (C:Cm (model prog w) A E s kf B N) {st:SortSt} {m n:Nat} {Q:Option Nat->SortSt->Prop} (hn:n<=N) (mn:m + 1<=n) (hB:B st) (hd:Dn kf (arrOf st) (m + 1))
  (q: ∀ m t,B t->1<=m->m<=n->Up kf (arrOf t) m->Q (some m) t):wpS (model prog w) A E s (descPart m n) Q st:=by
 refine wpS_bind (wpS_lift (wpAny_rule ⟨rfl,wpS_bind (Zjp C hn (by omega) mn hB hd fun x e t hB hx xn hd he=> ?_)⟩))
 have sz:=C.sz t hB
 show wpS _ _ _ _ (if e > 0 then _ else _) _ _
 by_cases c:e > 0
 ·rw[if_pos c]
  refine wpS_bind (wpS_reverse (Zgp (m:=x) C hn (by omega) xn (C.put t _ hB (mirror_perm ..)) (fun i j ij jx=> ?_) q))
  show le (ky kf (mirror (arrOf t) (x - (e + 1)) x ((x - (x - (e + 1))) / 2)) j) (ky kf (mirror (arrOf t) (x - (e + 1)) x ((x - (x - (e + 1))) / 2)) i)
  rw[ZK (by omega) he.2,ZK (by omega) he.2]
  exact hd i j ij jx
 ·rw[if_neg c]
  exact Zgp (m:=x) C hn (by omega) xn hB hd q
theorem ZlI (C:Cm (model prog w) A E s kf B N) {st:SortSt} {n:Nat} {Q:Option Nat->SortSt->Prop} (hn:n<=N) (h1:1<=n) (hB:B st)
  (q: ∀ m t,B t->1<=m->m<=n->Up kf (arrOf t) m->Q (some m) t):wpS (model prog w) A E s (countRun' 0 n) Q st:=by
 have sz:=C.sz st hB
 rw[countRun0_eq]
 refine wpS_bind (Zjo C hn (Nat.le_refl 1) h1 hB (fun i j ij j1=>by rw[show i=j by omega];exact Zbz _) fun m m1 m2 hu ho=> ?_)
 show wpS _ _ _ _ (if (m == n)=true then _ else _) _ _
 by_cases c:m=n
 ·rw[if_pos (by simpa using c)]
  exact wpS_pure (q m st hB m1 m2 hu)
 ·rw[if_neg (by simpa using c)]
  have hl:=ho.resolve_left c
  by_cases c1:m > 1
  ·rw[if_pos c1]
   refine wpS_bind (C.cmp st 0 (m - 1) _ hB (by omega) (by omega) ?_)
   cases z:lt (ky kf (arrOf st) 0) (ky kf (arrOf st) (m - 1)) with
   |true=>exact wpS_pure (q m st hB m1 m2 hu)
   |false=>
    have al: ∀ k,0<=k->k < m->ky kf (arrOf st) k=ky kf (arrOf st) (m - 1):=fun k _ km=>
     Zcb (Zdw z (hu 0 k (by omega) km)) (hu k (m - 1) (by omega) (by omega))
    refine wpS_bind (wpS_reverse (Zgq C hn (by omega) (C.put st _ hB (mirror_perm ..)) (fun i j ij jx=> ?_) q))
    show le (ky kf (mirror (arrOf st) 0 m ((m - 0) / 2)) j) (ky kf (mirror (arrOf st) 0 m ((m - 0) / 2)) i)
    rw[ZK (by omega) al,ZK (by omega) al]
    by_cases d:j < m
    ·rw[al i (by omega) (by omega),al j (by omega) d];exact Zbz _
    ·have:j=m:=by omega
     subst this
     by_cases d2:i=j
     ·rw[d2];exact Zbz _
     ·rw[al i (by omega) (by omega)];exact ZeA hl
  ·rw[if_neg c1]
   have:m=1:=by omega
   subst this
   refine Zgq C hn (by omega) hB (fun i j ij jx=> ?_) q
   by_cases d2:i=j
   ·rw[d2];exact Zbz _
   ·rw[show i=0 by omega,show j=1 by omega];exact ZeA hl
theorem ZlJ (C:Cm (model prog w) A E s kf B N) {st:SortSt} {n ok:Nat} {Q:Bool->SortSt->Prop} (hn:n<=N) (hk:ok<=n) (hB:B st) (hu:Up kf (arrOf st) ok)
  (q: ∀ t,B t->Up kf (arrOf t) n->Q true t):wpS (model prog w) A E s (binarySort' 0 n ok) Q st:=by
 rw[binarySort'_eq]
 simp only[Nat.zero_add]
 refine wpS_bind (wpS_mono (wpS_forRange (fun k c t=>c=(none,())/\B t/\Up kf (arrOf t) (min k n)) (Q:=fun c t=>c=(none,())/\B t/\Up kf (arrOf t) n) (fun k c t ak kn hI=> ?_) (fun c t hI=> ?_) ⟨rfl,hB,fun i j ij jn=> ?_⟩) fun c t hI=> ?_)
 ·obtain ⟨rfl,hB,hu⟩:=hI
  rw[Nat.min_eq_left (by omega)] at hu
  have sz:=C.sz t hB
  have kN:k < N:=by omega
  refine wpS_bind (wpS_mono (wpS_forRange (fun x c t'=>t'=t/\ ∃ l r,c=(none,l,r)/\(l<=r/\r<=k/\r - l<=k - x)/\(∀ i,i < l->le (ky kf (arrOf t) i) (ky kf (arrOf t) k))/\ ∀ i,r<=i->i < k->lt (ky kf (arrOf t) k) (ky kf (arrOf t) i)=true)
   (Q:=fun c t'=>t'=t/\ ∃ l r,c=(none,l,r)/\l<=k/\(∀ i,i < l->le (ky kf (arrOf t) i) (ky kf (arrOf t) k))/\ ∀ i,l<=i->i < k->lt (ky kf (arrOf t) k) (ky kf (arrOf t) i)=true) (fun x c t' _ xk hI=> ?_) (fun c t' hI=> ?_) ⟨rfl,0,k,rfl,by omega,fun i hi=>by omega,fun i a b=>by omega⟩) fun c t' hI=> ?_)
  ·obtain ⟨rfl,l,r,rfl,⟨lr,rk,hm⟩,lo,hi⟩:=hI
   show wpS _ _ _ _ (if l ≥ r then _ else _) _ _
   by_cases c:l ≥ r
   ·rw[if_pos c]
    have:l=r:=by omega
    subst this
    exact wpS_pure ⟨rfl,l,l,rfl,rk,lo,hi⟩
   ·rw[if_neg c]
    refine wpS_bind (C.cmp t' k ((l + r) / 2) _ hB kN (by omega) ?_)
    cases z:lt (ky kf (arrOf t') k) (ky kf (arrOf t') ((l + r) / 2)) with
    |true=>exact wpS_pure ⟨rfl,l,(l + r) / 2,rfl,by omega,lo,fun i a b=>ZcG z (hu _ _ a b)⟩
    |false=>exact wpS_pure ⟨rfl,(l + r) / 2 + 1,r,rfl,by omega,fun i a=>Zdw (hu i ((l + r) / 2) (by omega) (by omega)) z,hi⟩
  ·obtain ⟨rfl,l,r,rfl,⟨lr,rk,hm⟩,lo,hi⟩:=hI
   have:l=r:=by omega
   subst this
   exact ⟨rfl,l,l,rfl,rk,lo,hi⟩
  ·obtain ⟨rfl,l,r,rfl,lk,lo,hi⟩:=hI
   show wpS _ _ _ _ (moveDown' k l >>= fun _=>pure (ForInStep.yield (none,()))) _ _
   rw[moveDown'_eq]
   refine wpS_bind (wpS_modify (wpS_pure ⟨rfl,C.put t' _ hB (bubble_perm ..),?_⟩))
   rw[Nat.min_eq_left (by omega)]
   intro i j ij jk
   show le (ky kf (bubble (arrOf t') k (k - l)) i) (ky kf (bubble (arrOf t') k (k - l)) j)
   rw[Zgo (by omega) (by omega),Zgo (by omega) (by omega),show k - (k - l)=l by omega]
   by_cases i1:i=l
   ·rw[if_pos i1]
    by_cases j1:j=l
    ·rw[if_pos j1];exact Zbz _
    ·rw[if_neg j1,if_pos (by omega)];exact ZeA (hi _ (by omega) (by omega))
   ·rw[if_neg i1]
    by_cases i2:l < i/\i<=k
    ·rw[if_pos i2,if_neg (by omega),if_pos (by omega)];exact hu _ _ (by omega) (by omega)
    ·rw[if_neg i2]
     by_cases j1:j=l
     ·rw[if_pos j1];exact lo _ (by omega)
     ·rw[if_neg j1]
      by_cases j2:l < j/\j<=k
      ·rw[if_pos j2];exact hu _ _ (by omega) (by omega)
      ·rw[if_neg j2];exact hu _ _ (by omega) (by omega)
 ·obtain ⟨rfl,hB,hu⟩:=hI
  rw[show min (max (max ok 1) n) n=n by omega] at hu
  exact ⟨rfl,hB,hu⟩
 ·by_cases c:ok=0
  ·rw[show i=j by omega];exact Zbz _
  ·exact hu i j ij (by omega)
 ·obtain ⟨rfl,hB,hu⟩:=hI
  exact wpS_pure (q t hB hu)
structure Cn (B:SortSt->Prop):Prop where
 fail: ∀ st,B st->failedOf st=none
 pend: ∀ st,B st->pendingOf st= #[]
theorem Zjq (C:Cm (model prog w) A E s kf B N) (D:Cn B) {st:SortSt} {Q:Unit->SortSt->Prop} (h2:2<=N) (h64:N < 64) (hB:B st)
  (q: ∀ t t',B t->arrOf t'=arrOf t->failedOf t'=none->Up kf (arrOf t) N->Q () t'):wpS (model prog w) A E s sortRuns' Q st:=by
 rw[sortRuns'_eq]
 refine wpS_bind (wpS_get ?_)
 have mr:minRun' N N 0=N:=by
  have:minRun' ((N - 1) + 1) N 0=N:=by rw[minRun'_succ,if_pos h64];rfl
  rwa [show N - 1 + 1=N by omega] at this
 simp only[C.sz st hB,mr]
 refine wpS_bind (wpS_mono (wpS_forRange (fun x c t=>(x=0/\c=(none,0)/\B t)\/(1<=x/\c=(none,N)/\ ∃ t0,B t0/\t=setPending t0 #[(0,N,0)]/\Up kf (arrOf t0) N)) (Q:=fun c t=>c=(none,N)/\ ∃ t0,B t0/\t=setPending t0 #[(0,N,0)]/\Up kf (arrOf t0) N) (fun x c t _ xN hI=> ?_) (fun c t hI=> ?_) (.inl ⟨rfl,rfl,hB⟩)) fun c t hI=> ?_)
 ·rcases hI with ⟨rfl,rfl,hB⟩ | ⟨x1,rfl,hD⟩
  ·show wpS _ _ _ _ (if 0 ≥ N then _ else _) _ _
   rw[if_neg (by omega)]
   simp only[Nat.sub_zero,Nat.min_self,Nat.zero_add]
   refine wpS_bind (ZlI C (Nat.le_refl _) (by omega) hB fun m t1 hB1 m1 m2 hu=> ?_)
   have fin: ∀ t1,B t1->Up kf (arrOf t1) N->(pendingOf t1).back?=none/\((0=0/\((none,N):Option Unit × Nat)=(none,0)/\B (setPending t1 ((pendingOf t1).push (0,N,0))))\/(1<=0 + 1/\((none,N):Option Unit × Nat)=(none,N)/\ ∃ t0,B t0/\setPending t1 ((pendingOf t1).push (0,N,0))=setPending t0 #[(0,N,0)]/\Up kf (arrOf t0) N)):=fun t1 hB1 hu=>by
    rw[D.pend t1 hB1]
    exact ⟨rfl,.inr ⟨by omega,rfl,t1,hB1,rfl,hu⟩⟩
   show wpS _ _ _ _ (if m < N then _ else _) _ _
   by_cases c:m < N
   ·rw[if_pos c]
    refine wpS_bind (wpS_lift (wpAny_rule ⟨rfl,wpS_bind (ZlJ C (Nat.le_refl _) m2 hB1 hu fun t2 hB2 hu2=> ?_)⟩))
    simp only[Bool.not_true,Bool.false_eq_true,if_false]
    refine wpS_bind (wpS_get ?_)
    rw[(fin t2 hB2 hu2).1]
    refine wpS_bind (wpS_modify (wpS_pure (.inr ⟨by omega,rfl,t2,hB2,?_,hu2⟩)))
    rw[D.pend t2 hB2];rfl
   ·rw[if_neg c]
    have:m=N:=by omega
    subst this
    refine wpS_bind (wpS_get ?_)
    rw[(fin t1 hB1 hu).1]
    refine wpS_bind (wpS_modify (wpS_pure (.inr ⟨by omega,rfl,t1,hB1,?_,hu⟩)))
    rw[D.pend t1 hB1];rfl
  ·show wpS _ _ _ _ (if N ≥ N then _ else _) _ _
   rw[if_pos (Nat.le_refl _)]
   exact wpS_pure ⟨rfl,hD⟩
 ·rcases hI with ⟨x0,_,_⟩ | ⟨_,hc,hD⟩
  ·omega
  ·exact ⟨hc,hD⟩
 ·obtain ⟨rfl,t0,hB0,rfl,hu⟩:=hI
  refine wpS_bind (wpS_mono (wpS_forRange (fun _ c t=>t=setPending t0 #[(0,N,0)]/\c=(none,())) (Q:=fun c t=>t=setPending t0 #[(0,N,0)]/\c=(none,())) (fun x c t _ _ hI=> ?_) (fun _ _ h=>h) ⟨rfl,rfl⟩) fun c t hI=> ?_)
  ·obtain ⟨rfl,rfl⟩:=hI
   refine wpS_bind (wpS_get ?_)
   rw[if_pos (show (pendingOf (setPending t0 #[(0,N,0)])).size<=1 from Nat.le_refl 1)]
   exact wpS_pure ⟨rfl,rfl⟩
  ·obtain ⟨rfl,rfl⟩:=hI
   exact wpS_pure (q t0 _ hB0 rfl (D.fail t0 hB0) hu)
theorem ZeD (x y:Value):keyLt' (tuples' true) x y=(do
  let xs <- Builtin.List.listItems x
  let ys <- Builtin.List.listItems y
  for ((p,q),i) in (xs.toList.zip ys.toList).zipIdx do
   if !(<- eqBool p q) then return <- oneLt' (true && i == 0) p q
  return decide (xs.size < ys.size)):=rfl
noncomputable def Zjr (x:(Value × Value) × Nat) (_:Option Bool × Unit):Sem (ForInStep (Option Bool × Unit)):=match x with
 | ((p,q),i)=>do
  let b <- eqBool p q
  if (!b)=true then do
   let r <- oneLt' (true && i == 0) p q
   pure (ForInStep.done (some r,()))
  else pure (ForInStep.yield (none,()))
theorem ZeE {f:Bool} {a b:Int} {t u:Tok} {Q:Bool->Shared->Prop} (h:Q (decide (a < b)) s):wpAny (model prog w) A (oneLt' f (.int a t) (.int b u)) Q E s:=by
 cases f with
 |true=>exact oneLt_int h
 |false=>
  rw[oneLt'_eq]
  simp only[Bool.false_eq_true,if_false]
  exact wpAny_bind (HT.Zfg _ _ _ _ _ _ _ _ _ _ (wpAny_truthy_bool h))
theorem Zc6: ∀ {us vs:List Value} {ns ms:List Int},IntsAre us ns->IntsAre vs ms-> ∀ (k:Nat) (Q:Option Bool × Unit->Shared->Prop),
  (∀ b,b=HT.Zao ns ms->Q (some b,()) s)->(HT.Zao ns ms=decide (us.length < vs.length)->Q (none,()) s)->wpAny (model prog w) A (forIn ((us.zip vs).zipIdx k) (none,()) Zjr) Q E s
 |_,_,_,_,.nil,.nil,k,Q,_,h2=>by
  simp only[List.zip_nil_left,List.zipIdx_nil,List.forIn_nil]
  exact wpAny_pure (h2 rfl)
 |_,_,_,_,.nil,.cons m t hv,k,Q,_,h2=>by
  simp only[List.zip_nil_left,List.zipIdx_nil,List.forIn_nil]
  exact wpAny_pure (h2 (by simp[HT.Zao]))
 |_,_,_,_,.cons n t hu,.nil,k,Q,_,h2=>by
  simp only[List.zip_nil_right,List.zipIdx_nil,List.forIn_nil]
  exact wpAny_pure (h2 (by simp[HT.Zao]))
 |_,_,_,_,.cons (ns:=ns) (vs:=us) n t hu,.cons (ns:=ms) (vs:=vs) m u hv,k,Q,h1,h2=>by
  rw[List.zip_cons_cons,List.zipIdx_cons,List.forIn_cons]
  obtain ⟨e,he,hi⟩:=HT.Zff A s n t m u
  refine wpAny_bind (wpAny_bind (he prog w _ _ ?_))
  cases e with
  |true=>
   have:n=m:=hi.mp rfl
   subst this
   refine wpAny_pure (Zc6 hu hv (k + 1) Q (fun b hb=>h1 b ?_) fun z=>h2 ?_)
   ·rw[HT.ZV,if_pos rfl];exact hb
   ·rw[HT.ZV,if_pos rfl,z];simp
  |false=>
   have:n≠m:=fun z=>by have:=hi.mpr z;cases this
   refine wpAny_bind (ZeE (wpAny_pure (wpAny_pure (h1 _ ?_))))
   rw[HT.ZV,if_neg this]
noncomputable def ZaU (h:Heap) (v:Value) (ns:List Int):Prop:= ∃ a o its n,v= .ref a/\h.get? a=some o/\o.cls= .type "tuple"/\o.data= .seq its n/\IntsAre its.toList ns
theorem Zcc: ∀ {us:List Value} {ns ms:List Int},IntsAre us ns->IntsAre us ms->ns=ms
 |_,_,_,.nil,.nil=>rfl
 |_,_,_,.cons n t h,.cons _ _ g=>by rw[Zcc h g]
theorem ZaU.uniq {h:Heap} {v:Value} {ns ms:List Int} (a:ZaU h v ns) (b:ZaU h v ms):ns=ms:=by
 obtain ⟨p,o,its,n,rfl,e1,e2,e3,e4⟩:=a
 obtain ⟨p',o',its',n',e5,f1,f2,f3,f4⟩:=b
 cases e5
 rw[e1] at f1
 cases f1
 rw[e3] at f3
 cases f3
 exact Zcc e4 f4
theorem ZaU.kept {h h':Heap} {v:Value} {ns:List Int} (a:ZaU h v ns) (k: ∀ p o,h.get? p=some o->o.cls= .type "tuple"->h'.get? p=some o):ZaU h' v ns:=by
 obtain ⟨p,o,its,n,e0,e1,e2,e3,e4⟩:=a
 exact ⟨p,o,its,n,e0,k p o e1 e2,e2,e3,e4⟩
theorem ZlK {x y:Value} {ns ms:List Int} {Q:Bool->Shared->Prop} (hx:ZaU s.heap x ns) (hy:ZaU s.heap y ms) (q:Q (HT.Zao ns ms) s):wpAny (model prog w) A (keyLt' (tuples' true) x y) Q E s:=by
 obtain ⟨a,o,its,n,rfl,e1,e2,e3,e4⟩:=hx
 obtain ⟨b,o',its',n',rfl,f1,f2,f3,f4⟩:=hy
 rw[ZeD]
 refine wpAny_bind (listItems_at e1 e3 (wpAny_bind (listItems_at f1 f3 ?_)))
 show wpAny _ _ (forIn ((its.toList.zip its'.toList).zipIdx 0) (none,()) Zjr >>= _) _ _ _
 refine wpAny_bind (Zc6 e4 f4 0 _ (fun b hb=> ?_) fun z=> ?_)
 ·rw[hb];exact wpAny_pure q
 ·show wpAny _ _ (pure (decide (its.size < its'.size))) _ _ _
  rw[show decide (its.size < its'.size)=HT.Zao ns ms by rw[z];simp]
  exact wpAny_pure q
open Classical in
noncomputable def kfH (h:Heap) (p:Keyed):List Int:=if e: ∃ ns,ZaU h p.1 ns then e.choose else []
theorem Zgr {h:Heap} {p:Keyed} {ns:List Int} (e:ZaU h p.1 ns):kfH h p=ns:=by
 unfold kfH
 rw[dif_pos ⟨ns,e⟩]
 exact (Exists.choose_spec (⟨ns,e⟩: ∃ ns,ZaU h p.1 ns)).uniq e
structure TB (a₀:Array Keyed) (st:SortSt):Prop where
 perm:(arrOf st).Perm a₀
 kind:kindOf st=tuples' true
 fail:failedOf st=none
 pend:pendingOf st= #[]
theorem ZlL {a₀:Array Keyed} (hk: ∀ p∈a₀.toList,∃ ns,ZaU s.heap p.1 ns):Cm (model prog w) A E s (kfH s.heap) (TB a₀) a₀.size where
 sz st h:=h.perm.size_eq
 put st xs h hp:=⟨hp.trans h.perm,h.kind,h.fail,h.pend⟩
 cmp st i j Q h hi hj q:=by
  have sz:=h.perm.size_eq
  have gt: ∀ k,k < a₀.size-> ∃ x p ns,(arrOf st)[k]?=some (x,p)/\ZaU s.heap x ns/\ky (kfH s.heap) (arrOf st) k=ns:=fun k kk=>by
   have kl:k < (arrOf st).size:=by omega
   have e:(arrOf st)[k]?=some (arrOf st)[k]:=getElem?_pos _ k kl
   obtain ⟨ns,ht⟩:=hk _ ((Array.perm_iff_toList_perm.mp h.perm).mem_iff.mp (show (arrOf st)[k]∈(arrOf st).toList by simp))
   refine ⟨(arrOf st)[k].1,(arrOf st)[k].2,ns,e,ht,?_⟩
   unfold ky
   rw[e]
   exact Zgr ht
  obtain ⟨x,p,ns,e1,t1,k1⟩:=gt i hi
  obtain ⟨y,p',ms,e2,t2,k2⟩:=gt j hj
  rw[k1,k2] at q
  rw[ltAt'_eq]
  refine wpS_bind (wpS_get ?_)
  show wpS _ _ _ _ (elem' (arrOf st) i >>= fun x=>elem' (arrOf st) j >>= fun y=>lt' x y) Q st
  rw[elem'_eq,elem'_eq,e1,e2]
  refine wpS_bind (wpS_pure (wpS_bind (wpS_pure ?_)))
  rw[lt'_eq]
  refine wpS_bind (wpS_get ?_)
  rw[h.kind]
  exact wpS_bind (wpS_lift (wpAny_attempt (ZlK t1 t2 ⟨rfl,wpS_pure q⟩)))
theorem ZlM {a₀:Array Keyed}:Cn (TB a₀):=⟨fun _ h=>h.fail,fun _ h=>h.pend⟩
theorem Zht {v:Value} {n:Int} {ns:List Int} {Q:Option Value->Shared->Prop} (h:ZaU s.heap v (n :: ns)) (q: ∀ t,Q (some (.int n t)) s):wpAny (model prog w) A (firstOfTuple' v) Q E s:=by
 obtain ⟨a,o,its,m,rfl,e1,e2,e3,e4⟩:=h
 have e:firstOfTuple' (.ref a)=(do
  if (<- typeOf (.ref a)) != .type "tuple" then return none
  return (<- Builtin.List.listItems (.ref a))[0]?):=rfl
 rw[e]
 refine wpAny_bind (wpAny_typeOf ⟨o,e1,e2⟩ ?_)
 rw[if_neg (by decide)]
 refine wpAny_bind (listItems_at e1 e3 (wpAny_pure ?_))
 cases its with
 |mk l=>
  cases e4 with
  |cons n t h=>exact q t
theorem Zc7: ∀ {vs:List Value},(∀ v∈vs,∃ n ns,ZaU s.heap v (n :: ns))-> ∀ (Q:List (Option Value)->Shared->Prop),(∀ us ns,IntsAre us ns->us.length=vs.length->Q (us.map some) s)->wpAny (model prog w) A (vs.mapM firstOfTuple') Q E s
 | [],_,Q,q=>by
  rw[List.mapM_nil]
  exact wpAny_pure (q [] [] .nil rfl)
 |v :: vs,h,Q,q=>by
  obtain ⟨n,ns,hv⟩:=h v (by simp)
  rw[List.mapM_cons]
  refine wpAny_bind (Zht hv fun t=>wpAny_bind (Zc7 (fun x hx=>h x (List.mem_cons_of_mem _ hx)) _ fun us ms hi hl=>wpAny_pure ?_))
  exact q (.int n t :: us) (n :: ms) (.cons n t hi) (by simp[hl])
theorem Zjs {vs:List Value} {Q:SortKind->Shared->Prop} (h: ∀ v∈vs,∃ n ns,ZaU s.heap v (n :: ns)) (ne:vs≠[]) (q:Q (tuples' true) s):wpAny (model prog w) A (keyKind' vs.toArray) Q E s:=by
 rw[keyKind'_eq,List.mapM_toArray]
 simp only[map_eq_pure_bind,bind_assoc,pure_bind]
 refine wpAny_bind (Zc7 h _ fun us ns hi hl=> ?_)
 have a1:((us.map some).toArray.all fun x=>x.isSome)=true:=by simp
 rw[if_pos a1]
 refine wpAny_bind (wpAny_rule ?_)
 have a2:(us.map some).toArray.filterMap id=us.toArray:=by simp
 rw[a2,oneTypeOnly'_eq,List.mapM_toArray,mapM_typeOf_ints hi]
 cases us with
 |nil=>exact absurd (List.eq_nil_of_length_eq_zero hl.symm) ne
 |cons u us=>
  simp only[map_pure,pure_bind]
  have b0:(List.map (fun _=>Value.type "int") (u :: us)).toArray[0]?=some (Value.type "int"):=by simp
  have b1:((List.map (fun _=>Value.type "int") (u :: us)).toArray.all fun x=>x == Value.type "int")=true:=by
   rw[List.all_toArray,List.all_map,List.all_eq_true]
   exact fun _ _=>rfl
  rw[b0]
  show wpAny _ _ (pure (if ((List.map (fun _=>Value.type "int") (u :: us)).toArray.all fun x=>x == Value.type "int")=true then some (Value.type "int") else none) >>= _) _ _ _
  rw[if_pos b1]
  exact wpAny_bind (wpAny_pure (wpAny_pure q))
theorem Zjt {a:Addr} {vs:List Value} {n:Nat} {P:Fin->Shared->Prop} (ho:s.heap.get? a=some (seqObj "list" vs.toArray n)) (hk: ∀ v∈vs,∃ k ns,ZaU s.heap v (k :: ns)) (h64:vs.length < 64)
  (q: ∀ out:List Value,out.Perm vs->(∀ i j (hi:i < out.length) (hj:j < out.length),i<=j-> ∀ ns ms,ZaU s.heap out[i] ns->ZaU s.heap out[j] ms->HT.Zao ms ns=false)->P (.done (.ret .none)) { s with heap:=sortedHeap s.heap a vs out.toArray }):
  wpAny (model prog w) A (Builtin.«list.sort» ⟨[.ref a],[]⟩) P E s:=by
 have al:a < s.heap.objs.size:=Heap.lt_size ho
 obtain ⟨e1,o1⟩: ∃ e1,(s.heap.update a (Obj.mapSeq fun _=> #[])).get? a=some (seqObj "list" #[] e1):=⟨_,get?_update_seq ho (fun _=> #[])⟩
 have o2:(((s.heap.update a (Obj.mapSeq fun _=> #[])).push (seqObj "tuple" vs.toArray 0)).push (seqObj "list" #[] 0)).get? a=some (seqObj "list" #[] e1):=
  Heap.get?_push_of_some _ (Heap.get?_push_of_some _ o1)
 have kp: ∀ v ns,ZaU s.heap v ns->ZaU (((s.heap.update a (Obj.mapSeq fun _=> #[])).push (seqObj "tuple" vs.toArray 0)).push (seqObj "list" #[] 0)) v ns:=fun v ns ht=>ht.kept fun p o ep ec=>by
  have:p≠a:=fun z=>by
   subst z
   rw[ho] at ep
   cases ep
   revert ec
   show ¬ (Value.type "list"=Value.type "tuple")
   decide
  exact Heap.get?_push_of_some _ (Heap.get?_push_of_some _ ((Heap.get?_update_other _ _ (Ne.symm this)).trans ep))
 rw[list_sort_plain]
 refine wpAny_bind (listItems_at ho rfl (wpAny_bind (listUpdate_at ho rfl (wpAny_bind (seqEpoch_at o1 rfl (wpAny_bind (wpAny_newTuple (wpAny_bind (wpAny_newList (wpAny_holding ?_))))))))))
 show wpAny _ _ _ P E { s with heap:=((s.heap.update a (Obj.mapSeq fun _=> #[])).push (seqObj "tuple" vs.toArray 0)).push (seqObj "list" #[] 0) }
 have vz:vs.toArray.size=vs.length:=by simp
 have fin: ∀ xs:Array Keyed,xs.Perm (pairsOf vs)->(∀ i j,i<=j->j < vs.length->le (ky (kfH (((s.heap.update a (Obj.mapSeq fun _=> #[])).push (seqObj "tuple" vs.toArray 0)).push (seqObj "list" #[] 0))) xs i) (ky (kfH (((s.heap.update a (Obj.mapSeq fun _=> #[])).push (seqObj "tuple" vs.toArray 0)).push (seqObj "list" #[] 0))) xs j))->
   P (.done (.ret .none)) { s with heap:=sortedHeap s.heap a vs (xs.map (·.2)) }:=by
  intro xs hp hu
  have hl:xs.toList.Perm (vs.zip vs):=by rw[<- pairsOf_toList];exact Array.perm_iff_toList_perm.mp hp
  have hm: ∀ p∈xs.toList,p.1=p.2/\p.1∈vs:=fun p hp=>mem_zip_self (hl.mem_iff.mp hp)
  have e2:(xs.toList.map (·.2)).Perm vs:=by
   have:=hl.map (fun p:Keyed=>p.2)
   rwa [List.map_snd_zip (Nat.le_refl _)] at this
  have ea:xs.map (·.2)=(xs.toList.map (·.2)).toArray:=by
   apply Array.toList_inj.mp
   simp
  rw[ea]
  refine q _ e2 fun i j hi hj ij ns ms t1 t2=> ?_
  have li:i < xs.size:=by simpa using hi
  have lj:j < xs.size:=by simpa using hj
  have lv:xs.size=vs.length:=by rw[hp.size_eq,pairsOf_size]
  have kk: ∀ k (hk:k < xs.size) (ns:List Int),ZaU s.heap (xs[k]).2 ns->ky (kfH (((s.heap.update a (Obj.mapSeq fun _=> #[])).push (seqObj "tuple" vs.toArray 0)).push (seqObj "list" #[] 0))) xs k=ns:=fun k hk ns ht=>by
   unfold ky
   rw[getElem?_pos xs k hk]
   exact Zgr (kp _ _ (by rw[(hm xs[k] (by simp)).1];exact ht))
  have:=hu i j ij (by omega)
  rw[kk i li ns (by simpa using t1),kk j lj ms (by simpa using t2)] at this
  exact this
 have rest: ∀ st':SortSt,(arrOf st').Perm (pairsOf vs)->failedOf st'=none->(∀ i j,i<=j->j < vs.length->le (ky (kfH (((s.heap.update a (Obj.mapSeq fun _=> #[])).push (seqObj "tuple" vs.toArray 0)).push (seqObj "list" #[] 0))) (arrOf st') i) (ky (kfH (((s.heap.update a (Obj.mapSeq fun _=> #[])).push (seqObj "tuple" vs.toArray 0)).push (seqObj "list" #[] 0))) (arrOf st') j))->
   wpAny (model prog w) A (do
    let b <- seqEpoch a
    Builtin.List.listUpdate (.ref a) fun _=>(arrOf st').map (·.2)
    if let some e:=failedOf st' then rule "list.sort.comparison-raised";throw e
    if (b != e1)=true then rule "list.sort.modified";raiseError "ValueError" "list modified during sort"
    ret .none) P E { s with heap:=((s.heap.update a (Obj.mapSeq fun _=> #[])).push (seqObj "tuple" vs.toArray 0)).push (seqObj "list" #[] 0) }:=by
  intro st' hp hf hu
  refine wpAny_bind (seqEpoch_at o2 rfl (wpAny_bind (listUpdate_at o2 rfl ?_ (hsz2:= ?_))))
  ·rw[hf]
   simp only[bne_self_eq_false,Bool.false_eq_true,if_false]
   exact wpAny_pure (fin _ hp hu)
  ·rw[Array.size_map,hp.size_eq,pairsOf_size,sizeLine_eq];omega
 by_cases c:vs.toArray.size < 2
 ·rw[if_pos c,if_pos c]
  refine wpAny_bind (wpAny_pure ?_)
  show wpAny _ _ ((pure ():StateT SortSt Sem Unit).run (SortSt.mk' general' (vs.toArray.zip vs.toArray) #[] 7 none) >>= _) _ _ _
  rw[StateT.run_pure]
  exact wpAny_bind (wpAny_pure (rest (SortSt.mk' general' (vs.toArray.zip vs.toArray) #[] 7 none) (Array.Perm.refl _) rfl fun i j ij jn=>by rw[show i=j by omega];exact Zbz _))
 ·rw[if_neg c,if_neg c]
  refine wpAny_bind (Zjs (fun v hv=> ?_) (fun z=> ?_) (wpAny_bind (wpAny_mono (Zjq (N:=(pairsOf vs).size) (Q:=fun _ t'=> ∃ t,TB (pairsOf vs) t/\arrOf t'=arrOf t/\failedOf t'=none/\Up (kfH (((s.heap.update a (Obj.mapSeq fun _=> #[])).push (seqObj "tuple" vs.toArray 0)).push (seqObj "list" #[] 0))) (arrOf t) (pairsOf vs).size) (ZlL fun p hp=> ?_) ZlM (by rw[pairsOf_size];omega) (by rw[pairsOf_size];exact h64) ⟨Array.Perm.refl _,rfl,rfl,rfl⟩ fun t t' a1 a2 a3 a4=>⟨t,a1,a2,a3,a4⟩) ?_ fun _ _ z=>z)))
  ·obtain ⟨k,ns,ht⟩:=hk v hv
   exact ⟨k,ns,kp _ _ ht⟩
  ·rw[z] at c;simp at c
  ·rw[pairsOf_toList] at hp
   obtain ⟨k,ns,ht⟩:=hk p.1 (mem_zip_self hp).2
   exact ⟨_,kp _ _ ht⟩
  ·rintro ⟨⟨⟩,t'⟩ s' ⟨rfl,t,tb,ea,ef,hu⟩
   rw[pairsOf_size] at hu
   exact rest t' (by rw[ea];exact tb.perm) ef (by rw[ea];exact hu)
theorem ZfE {l:Addr} {vs:List Value} {Q:Value->Shared->Prop} (hl:s.heap.IsList l vs.toArray) (hk: ∀ v∈vs,∃ k ns,ZaU s.heap v (k :: ns)) (h64:vs.length < 64)
  (q: ∀ out:List Value,out.Perm vs->(∀ i j (hi:i < out.length) (hj:j < out.length),i<=j-> ∀ ns ms,ZaU s.heap out[i] ns->ZaU s.heap out[j] ms->HT.Zao ms ns=false)->Q (.ref (s.heap.objs.size + 1)) { s with heap:=sortedAll s.heap vs out.toArray }):
  wpAny (model prog w) A (call (.builtin "sorted") [.ref l]) Q E s:=by
 have z1:((s.heap.push (seqObj "list" #[] 0)).update s.heap.objs.size (Obj.mapSeq (· ++ vs.toArray))).objs.size=s.heap.objs.size + 1:=by rw[Heap.size_update,size_push']
 have o1:(((s.heap.push (seqObj "list" #[] 0)).update s.heap.objs.size (Obj.mapSeq (· ++ vs.toArray))).push (seqObj "list" vs.toArray 0)).get? (s.heap.objs.size + 1)=some (seqObj "list" vs.toArray 0):=by
  rw[<- z1];exact Heap.get?_push_size _ rfl
 have kp: ∀ p o,s.heap.get? p=some o->(((s.heap.push (seqObj "list" #[] 0)).update s.heap.objs.size (Obj.mapSeq (· ++ vs.toArray))).push (seqObj "list" vs.toArray 0)).get? p=some o:=fun p o ep=>
  Heap.get?_push_of_some _ ((Heap.get?_update_other _ _ (Nat.ne_of_gt (Heap.lt_size ep))).trans (Heap.get?_push_of_some _ ep))
 refine Calls.call_function_entry kind_sorted plain_sorted entry_sorted (args_sorted1 _) ?_
 unfold Builtin.«sorted»
 refine wpAny_bind (m:=checkCount "sorted" 1 1 _) (wpAny_pure (wpAny_bind (collect_list hl (wpAny_bind (wpAny_newList ?_)))))
 show wpAny _ _ _ _ _ { s with heap:=((s.heap.push (seqObj "list" #[] 0)).update s.heap.objs.size (Obj.mapSeq (· ++ vs.toArray))).push (seqObj "list" vs.toArray 0) }
 rw[z1]
 refine wpAny_bind (wpAny_holding (wpAny_call_entry slot_list_sort ⟨_,o1,rfl⟩ entry_list_sort (Zjt o1 (fun v hv=> ?_) h64 fun out hp hs=>⟨_,rfl,wpAny_pure ⟨_,rfl,q out hp fun i j hi hj ij ns ms t1 t2=>hs i j hi hj ij ns ms (t1.kept fun p o e _=>kp p o e) (t2.kept fun p o e _=>kp p o e)⟩⟩) (args_list_sort _)))
 obtain ⟨k,ns,ht⟩:=hk v hv
 exact ⟨k,ns,ht.kept fun p o e _=>kp p o e⟩
end
end ST
end
section
namespace ST
noncomputable def ins (x:List Int):List (List Int)->List (List Int)
 | []=>[x]
 |y :: r=>if lt y x=true then y :: ins x r else x :: y :: r
noncomputable def srt:List (List Int)->List (List Int)
 | []=>[]
 |x :: r=>ins x (srt r)
theorem ZbA (x:List Int): ∀ l,(ins x l).Perm (x :: l)
 | []=> .refl _
 |y :: r=>by
  unfold ins
  split
  ·exact ((ZbA x r).cons y).trans (.swap x y r)
  ·exact .refl _
theorem Za0: ∀ l,(srt l).Perm l
 | []=> .refl _
 |x :: r=>(ZbA x (srt r)).trans ((Za0 r).cons x)
theorem Zgs (x:List Int): ∀ l,l.Pairwise le->(ins x l).Pairwise le
 | [],_=>List.pairwise_singleton _ _
 |y :: r,h=>by
  obtain ⟨h1,h2⟩:=List.pairwise_cons.mp h
  unfold ins
  split
  ·rename_i c
   refine List.pairwise_cons.mpr ⟨fun z hz=> ?_,Zgs x r h2⟩
   rcases List.mem_cons.mp ((ZbA x r).mem_iff.mp hz) with rfl | hz
   ·exact ZeA c
   ·exact h1 z hz
  ·rename_i c
   have c:le x y:=by unfold le;simpa using c
   refine List.pairwise_cons.mpr ⟨fun z hz=> ?_,h⟩
   rcases List.mem_cons.mp hz with rfl | hz
   ·exact c
   ·exact Zdw c (h1 z hz)
theorem ZeF: ∀ l,(srt l).Pairwise le
 | []=> .nil
 |x :: r=>Zgs x _ (ZeF r)
theorem Zc8 {a b:List (List Int)} (hp:a.Perm b) (h:a.Pairwise le):a=srt b:=
 List.Perm.eq_of_pairwise (fun x y _ _ h1 h2=>Zcb h2 h1) h (ZeF b) (hp.trans (Za0 b).symm)
theorem Zju {a b:List (List Int)} (hp:a.Perm b):srt a=srt b:=Zc8 ((Za0 a).trans hp) (ZeF a)
end ST
namespace DL
open PySem PySem.Spec PyProof.Rows L2 PySem.W
theorem Zbb {α β:Type} {F:α->β->Prop} {us us':List β} (hp:us'.Perm us): ∀ {xs:List α},Paired F xs us-> ∃ xs',xs'.Perm xs/\Paired F xs' us':=by
 induction hp with
 |nil=>intro xs h;exact ⟨xs,.refl _,h⟩
 | @cons a l1 l2 h ih=>
  intro xs r
  cases r with
  |cons r1 r2=>
   obtain ⟨xs',p1,p2⟩:=ih r2
   exact ⟨_ :: xs',p1.cons _,.cons r1 p2⟩
 |swap a b l=>
  intro xs r
  cases r with
  |cons r1 r2=>
   cases r2 with
   |cons r2 r3=>exact ⟨_ :: _ :: _,.swap _ _ _,.cons r2 (.cons r1 r3)⟩
 |trans h1 h2 i1 i2=>
  intro xs r
  obtain ⟨x1,p1,q1⟩:=i2 r
  obtain ⟨x2,p2,q2⟩:=i1 q1
  exact ⟨x2,p2.trans p1,q2⟩
theorem ZeG {K:PySem.W.Frag} {H:Hp} {α:List Addr} {vs vs':List V} (hp:vs'.Perm vs): ∀ {ds:List D},Reps K H α vs ds-> ∃ ds',ds'.Perm ds/\Reps K H α vs' ds':=by
 induction hp with
 |nil=>intro xs h;exact ⟨xs,.refl _,h⟩
 | @cons a l1 l2 h ih=>
  intro xs r
  cases r with
  |cons r1 r2=>
   obtain ⟨xs',p1,p2⟩:=ih r2
   exact ⟨_ :: xs',p1.cons _,.cons r1 p2⟩
 |swap a b l=>
  intro xs r
  cases r with
  |cons r1 r2=>
   cases r2 with
   |cons r2 r3=>exact ⟨_ :: _ :: _,.swap _ _ _,.cons r2 (.cons r1 r3)⟩
 |trans h1 h2 i1 i2=>
  intro xs r
  obtain ⟨x1,p1,q1⟩:=i2 r
  obtain ⟨x2,p2,q2⟩:=i1 q1
  exact ⟨x2,p2.trans p1,q2⟩
noncomputable def Zih (K:PySem.W.Frag) (H:Hp) (x:V) (ns:List Int):Prop:= ∃ q,x= .ref q/\SqT K H q (ns.map V.int)
section
variable {X:Cx} {ξ:XK}
noncomputable def ZlN (X:Cx):List V->Hp->VK->Prop:=fun vs H Q=> ∃ p xs,vs=[.ref p]/\SqL X.K H p xs/\xs.length < 64/\(∀ x∈xs,∃ k ns,Zih X.K H x (k :: ns))/\
 ∀ l ys,H l=none->ys.Perm xs->(∀ i j (hi:i < ys.length) (hj:j < ys.length),i<=j-> ∀ ns ms,Zih X.K H ys[i] ns->Zih X.K H ys[j] ms->ST.le ns ms)->Q (.ref l) (upd H l (.lst ys))
theorem ZbB {pins:List (Addr × Obj)} {σ:L2.St} {H:Hp} {s:Shared} (I:Inv X pins σ H s) {x:V} {u:Value} {ns:List Int} (h:Zih X.K H x ns) (r:Zz x u):ST.ZaU s.heap u ns:=by
 obtain ⟨q,rfl,hq⟩:=h
 cases r
 obtain ⟨its,r2,⟨o,k1,k2,n,k3⟩,_⟩:=I.tuple hq
 exact ⟨q,o,its.toArray,n,rfl,k1,k2,k3,by simpa using Zdk r2⟩
theorem Zbc:ZaV X (.builtin "sorted") (ZlN X):=by
 intro pins s σ H vs us Q I rs hh
 obtain ⟨p,xs,e,hl,h64,hk,q⟩:=hh
 subst e
 obtain ⟨u,rfl,ru⟩:=Zdj rs
 cases ru
 obtain ⟨its,rv,pl,hz⟩:=I.list hl
 refine ST.ZfE (vs:=its) pl.isList (fun v hv=> ?_) (by rw[<- rv.length];exact h64) fun out hp hs=> ?_
 ·obtain ⟨i,hi,rfl⟩:=List.getElem_of_mem hv
  obtain ⟨x,e1,e2⟩:=Zeu rv (List.getElem?_eq_getElem hi)
  obtain ⟨k,ns,hx⟩:=hk x (List.mem_of_getElem? e1)
  exact ⟨k,ns,ZbB I hx e2⟩
 ·obtain ⟨ys,p1,p2⟩:=Zbb hp rv
  obtain ⟨n,hn⟩:=sortedAll_at s.heap its out.toArray
  refine ⟨.ref _,_,I.laid (t':=s.toks) (o:= .lst ys) (fun _ _ h=>sortedAll_old h) (Nat.le_succ _) ⟨by rw[p1.length_eq];exact hz,out,n,p2,hn⟩,rfl,q _ ys (I.hok.fresh (Nat.le_succ _)) p1 fun i j hi hj ij ns ms k1 k2=> ?_⟩
  have hl:ys.length=out.length:=ZF.length p2
  have a1: ∀ i (hi:i < ys.length),Zz ys[i] (out[i]'(by omega)):=fun i hi=>by
   obtain ⟨u,e1,e2⟩:=ZF.get p2 (List.getElem?_eq_getElem hi)
   rw[List.getElem?_eq_getElem (by omega)] at e1
   cases e1
   exact e2
  exact hs i j (by omega) (by omega) ij ns ms (ZbB I k1 (a1 i hi)) (ZbB I k2 (a1 j hj))
theorem Zcd:bootBuiltins "sorted"=some (.builtin "sorted"):=by decide +kernel
noncomputable def kyD:D->Option (List Int)
 | .tup xs=>(match Zb8 xs with | some (k :: ns)=>some (k :: ns) | _=>none)
 |_=>none
noncomputable def ksD:List D->Option (List (List Int))
 | []=>some []
 |d :: r=>match kyD d,ksD r with | some k,some ks=>some (k :: ks) | _,_=>none
noncomputable def tupD (ns:List Int):D:= .tup (ns.map D.int)
noncomputable def ZeH (ds:List D) (M:Sto):Out D:=if ds.length < 64 then (match ksD ds with | some ks=> .ok (.ref M.length) (M ++ [.lst ((ST.srt ks).map tupD)]) | none=> .bad) else .bad
noncomputable def bSrt:List D->Sto->Out D:=fun ds M=>match ds with
 | [.ref n]=>(match M[n]? with | some (.lst xs)=>ZeH xs M | none=> .bad)
 | [.rol xs]=>ZeH xs M
 |_=> .bad
theorem Zce: ∀ {xs:List D} {a:List Int},Zb8 xs=some a->xs=a.map D.int
 | [],a,e=>by cases e;rfl
 |x :: r,a,e=>by
  cases x with
  |int i=>
   unfold Zb8 at e
   split at e
   ·rename_i is e1
    cases e
    rw[Zce e1]
    rfl
   ·cases e
  |_=>cases e
theorem Zcf: ∀ a:List Int,Zb8 (a.map D.int)=some a
 | []=>rfl
 |i :: r=>by rw[List.map_cons,Zb8,Zcf r]
theorem Zjv {d:D} {ns:List Int} (h:kyD d=some ns):d=tupD ns/\ ∃ k r,ns=k :: r:=by
 unfold kyD at h
 split at h
 ·rename_i xs
  split at h
  ·rename_i k r e
   cases h
   exact ⟨by unfold tupD;rw[<- Zce e],k,r,rfl⟩
  ·cases h
 ·cases h
theorem Zgt: ∀ {ds:List D} {ks:List (List Int)},ksD ds=some ks->ds=ks.map tupD/\ ∀ k∈ks,k≠[]
 | [],ks,e=>by cases e;exact ⟨rfl,fun k hk=>by cases hk⟩
 |d :: r,ks,e=>by
  unfold ksD at e
  split at e
  ·rename_i k ks' e1 e2
   cases e
   obtain ⟨h1,h2⟩:=Zgt e2
   obtain ⟨h3,k0,r0,h4⟩:=Zjv e1
   refine ⟨by rw[List.map_cons,<- h1,<- h3],fun x hx=> ?_⟩
   rcases List.mem_cons.mp hx with rfl | hx
   ·rw[h4];exact List.cons_ne_nil _ _
   ·exact h2 x hx
  ·cases e
theorem ZeI {H:Hp} {α:List Addr} {v:V} {ns:List Int} (r:Rep X.K H α v (tupD ns)):Zih X.K H v ns:=by
 cases r with
 |tup hp rp=>
  have:=Zb9 rp (Zcf ns)
  subst this
  exact ⟨_,rfl,SqT.of hp⟩
theorem Zcg:CO X ξ (ZlN X) bSrt:=by
 intro H α M vs ds Q h rs q
 have fin: ∀ (p:Addr) (xs:List V) (ys:List D),SqL X.K H p xs->Reps X.K H α xs ys->OP X.K H α ξ Q (ZeH ys M)->ZlN X [.ref p] H Q:=fun p xs ys k1 k2 q=>by
  unfold ZeH at q
  split at q
  ·rename_i c
   cases e:ksD ys with
   |none=>simp only[e] at q;exact q.elim
   |some ks=>
    simp only[e] at q
    obtain ⟨e1,e2⟩:=Zgt e
    subst e1
    refine ⟨p,xs,rfl,k1,by rw[k2.length];exact c,fun x hx=> ?_,fun l zs hl hp hs=> ?_⟩
    ·obtain ⟨i,hi,rfl⟩:=List.getElem_of_mem hx
     obtain ⟨d,d1,d2⟩:=ZcF k2 (List.getElem?_eq_getElem hi)
     obtain ⟨k,hk,rfl⟩:=List.mem_map.mp (List.mem_of_getElem? d1)
     match k,e2 k hk,d2 with
     |a :: b,_,d2=>exact ⟨a,b,ZeI d2⟩
     | [],z,_=>exact absurd rfl z
    ·obtain ⟨ds',p1,p2⟩:=ZeG hp k2
     obtain ⟨ks',p3,p4⟩: ∃ ks':List (List Int),ks'.Perm ks/\ds'=ks'.map tupD:=by
      have:Paired (fun (a:List Int) d=>d=tupD a) ks (ks.map tupD):=by
       clear k2 c e p1 hp e2 q
       induction ks with
       |nil=>exact .nil
       |cons a b ih=>exact .cons rfl ih
      obtain ⟨ks',q1,q2⟩:=Zbb p1 this
      refine ⟨ks',q1,?_⟩
      clear q1 p1 p2
      induction q2 with
      |nil=>rfl
      |cons h _ ih=>rw[List.map_cons,h,ih]
     subst p4
     have hup:ks'.Pairwise ST.le:=by
      refine List.pairwise_iff_getElem.mpr fun i j hi hj ij=> ?_
      have lz:zs.length=ks'.length:=by rw[p2.length,List.length_map]
      have kk: ∀ i (hi:i < ks'.length),Zih X.K H (zs[i]'(by omega)) ks'[i]:=fun i hi=>by
       obtain ⟨d,d1,d2⟩:=ZcF p2 (List.getElem?_eq_getElem (show i < zs.length by omega))
       rw[List.getElem?_map,List.getElem?_eq_getElem hi] at d1
       cases d1
       exact ZeI d2
      exact hs i j (by omega) (by omega) (Nat.le_of_lt ij) _ _ (kk i hi) (kk j hj)
     rw[ST.Zc8 p3 hup] at p2
     exact q _ _ (α ++ [l]) (Ext.new hl) (h.new hl p2) (.ref ⟨h.last l,Kn.lst Zl⟩)
  ·exact q.elim
 match rs with
 | .nil=>exact q.elim
 | .cons r (.cons _ _)=>cases r<;>exact q.elim
 | .cons (d:=x) r .nil=>
  cases r with
  | @rol p xs ds hp rp=>exact fin p xs ds hp.sq rp q
  | @ref p n hp=>
   cases em:M[n]? with
   |none=>simp only[bSrt,em] at q;exact q.elim
   |some so=>
    cases so with
    |lst es=>
     simp only[bSrt,em] at q
     obtain ⟨xs,g1,g2⟩:=h.at hp em
     exact fin p xs es (SqL.of g1) g2 q
  |_=>exact q.elim
end
end DL
end
section
namespace DL
open PySem PySem.Spec PyProof.Rows L2
noncomputable def Bag (n:Nat) (M:Sto):Prop:= ∃ a b:Int,0<=a/\M[n]?=some (.lst [.int a,.int b])
structure Gr (n:Nat) (M M':Sto):Prop where
 len:M.length<=M'.length
 bag:Bag n M'
 keep: ∀ k,k≠n->k < M.length->M'[k]?=M[k]?
theorem ZeJ {i j:Int} (h1: -(2 ^ 64) < j) (h2:j < 2 ^ 64):Zy i j:= .inr (.inl (intBits_le_64 h1 h2))
theorem ZeK {i j:Int} (h1: -(2 ^ 64) < i) (h2:i < 2 ^ 64):Zy i j:= .inl (intBits_le_64 h1 h2)
theorem at0 {x:D} {r:List D}:atI (x :: r) 0=some x:=by
 show (ixN (r.length + 1) 0).bind _=_
 unfold ixN
 rw[if_pos (by decide),if_pos (by omega)]
 rfl
theorem at1 {x y:D} {r:List D}:atI (x :: y :: r) 1=some y:=by
 show (ixN (r.length + 2) 1).bind _=_
 unfold ixN
 rw[if_pos (by decide),if_pos (by omega)]
 rfl
theorem ix0 {n:Nat}:ixN (n + 1) 0=some 0:=by
 unfold ixN
 rw[if_pos (by decide),if_pos (by omega)]
 rfl
theorem ix1 {n:Nat}:ixN (n + 2) 1=some 1:=by
 unfold ixN
 rw[if_pos (by decide),if_pos (by omega)]
 rfl
theorem Bag.lt {n:Nat} {M:Sto} (h:Bag n M):n < M.length:=let ⟨_,_,_,e⟩:=h;(List.getElem?_eq_some_iff.mp e).1
theorem Bag.app {n:Nat} {M:Sto} (h:Bag n M) (L:Sto):Bag n (M ++ L):=by
 have hl:=h.lt
 obtain ⟨a,b,h1,h2⟩:=h
 exact ⟨a,b,h1,by rw[List.getElem?_append_left hl];exact h2⟩
theorem Gr.trans {n:Nat} {M M1 M2:Sto} (a:Gr n M M1) (b:Gr n M1 M2):Gr n M M2:=
 ⟨Nat.le_trans a.len b.len,b.bag,fun k h1 h2=>(b.keep k h1 (Nat.lt_of_lt_of_le h2 a.len)).trans (a.keep k h1 h2)⟩
theorem Gr.app {n:Nat} {M:Sto} (h:Bag n M) (L:Sto):Gr n M (M ++ L):=⟨by simp,h.app L,fun k _ hk=>by rw[List.getElem?_append_left hk]⟩
theorem Gr.new {n:Nat} {M M1:Sto} {o:SO} {L:Sto} (hb:Bag n M) (h:Gr n (M ++ o :: L) M1):M1[M.length]?=some o:=by
 rw[h.keep _ (Nat.ne_of_gt hb.lt) (by simp)]
 simp
theorem ZfF {ns:List Int} {k:Nat} (h:k < ns.length):atI (ns.map D.int) (k:Int)=some (.int ns[k]):=ZgV (by rw[List.getElem?_map,List.getElem?_eq_getElem h];rfl)
theorem Zhu (a:Int):(if a < 0 then -a else a)=(a.natAbs:Int):=by split<;>omega
end DL
end
section
end
section
namespace HD
open PySem PySem.W PyProof.Rows
noncomputable def Zla (thr:Thread->Bool) (stp:SharedT->Thread->Option (SharedT × Thread)) (n:Nat):SharedT->Thread->Option SharedT:=
 Nat.rec (motive:=fun _=>SharedT->Thread->Option SharedT) (fun _ _=>none) (fun _ ih s t=>Bool.rec (motive:=fun _=>Option SharedT) (Option.rec (motive:=fun _=>Option SharedT) none (fun r=>ih r.1 r.2) (stp s t)) (some s) (thr t)) n
noncomputable def ZfG (ok:Thread->Bool) (stp:SharedT->Thread->Option (SharedT × Thread)) (s:SharedT) (t:Thread):Option (SharedT × Thread):=Bool.rec (motive:=fun _=>Option (SharedT × Thread)) none (stp s t) (ok t)
section
variable {tb:String->Option Builtin} {p:Program} {w:World} {n₀:Nat} {ann:Option Value}
theorem Zgu: ∀ {n:Nat} {s s':SharedT} {t:Thread},Zla through (ZfG (stepOk n₀ ann) (stepT (denote tb) p w)) n s t=some s'->topRun tb p w n₀ ann n s.abs t=some s'.abs
 |0,s,s',t,h=>by cases h
 |n + 1,s,s',t,h=>by
  unfold topRun
  change Bool.rec (motive:=fun _=>Option SharedT) (Option.rec (motive:=fun _=>Option SharedT) none (fun r=>Zla through (ZfG (stepOk n₀ ann) (stepT (denote tb) p w)) n r.1 r.2) (ZfG (stepOk n₀ ann) (stepT (denote tb) p w) s t)) (some s) (through t)=some s' at h
  cases ht:through t with
  |true=>
   rw[ht] at h
   have h':some s=some s':=h
   cases h'
   rfl
  |false=>
   rw[ht] at h
   cases hk:stepOk n₀ ann t with
   |false=>
    have e:ZfG (stepOk n₀ ann) (stepT (denote tb) p w) s t=none:=by unfold ZfG;rw[hk]
    rw[e] at h
    cases h
   |true=>
    have e:ZfG (stepOk n₀ ann) (stepT (denote tb) p w) s t=stepT (denote tb) p w s t:=by unfold ZfG;rw[hk]
    rw[e] at h
    cases hs:stepT (denote tb) p w s t with
    |none=>rw[hs] at h;cases h
    |some r=>
     obtain ⟨s2,t2⟩:=r
     rw[hs] at h
     have:=stepT_spec hs
     rw[this]
     exact Zgu (n:=n) h
end
noncomputable def T0 (w:World) (os:OsState):SharedT:=
 ⟨[boot_o_0,boot_o_1,boot_o_2,boot_o_3,boot_o_4,boot_o_5,boot_o_6,boot_o_7,boot_o_8,boot_o_9,boot_o_10].foldl (fun (r:Nat × BT) o=>(r.1 + 1,r.2.ins r.1 (o w.params))) (0,.nil) |>.2,11,(boot_heap w.params).life,#[],boot_drawn,boot_toks,os⟩
theorem Zjw (w:World) (os:OsState):(T0 w os).abs=⟨boot_heap w.params,#[],boot_drawn,boot_toks,os⟩:=by kernel_rfl
theorem Zhv:Str.ofString "__annotations__"=⟨#[95,95,97,110,110,111,116,97,116,105,111,110,115,95,95]⟩:=by decide +kernel
theorem ZeL {p q:Program} {loose:List Str} {Xt:Shared->Bool} {α:Type} {Yf:Shared->α} {Ya:World->α} {N M:Nat} (e:opening p=plainProg p.main.scope.names) (hN:Nat.ble 600 N=true) (f: ∀ s,fenceModules? p s=some s) (le:Nat.ble M N=true)
  (ZlO: ∀ (w:World) (os:OsState),(Zla through (ZfG (stepOk 11 (some (.ref 6))) (stepT (denote treeTable) p w)) M (T0 w os) (topStub p)).map (fun s=>((staticsOk (importedModules p.main.body) (boot_heap w.params) s.abs.heap && namesBound p s.abs.heap && gensDone s.abs && laidKept (boot_heap w.params) s.abs.heap),
    openSeen q loose (importedModules p.main.body) Xt true s.abs,Yf s.abs))=some (true,openGood q loose,Ya w)):LeftO p q loose Xt Yf Ya N:=fun w=>by
 obtain ⟨⟨h,gs,d,k,os⟩,e1,e2⟩:=Option.map_eq_some_iff.mp (boot_open e hN f w)
 obtain ⟨rfl,rfl,rfl,rfl⟩:h=boot_heap w.params/\gs=Array.mk []/\d=boot_drawn/\k=boot_toks:=by simpa using e2
 obtain ⟨s',r1,r2⟩:=Option.map_eq_some_iff.mp (ZlO w os)
 obtain ⟨l1,l2,l3⟩:_/\_/\_:=by simpa only[Prod.mk.injEq] using r2
 have r:=Zgu r1
 rw[Zjw] at r
 have r:=topRun_mono (N - M) _ _ _ _ r
 rw[show M + (N - M)=N by have:=Nat.le_of_ble_eq_true le;omega] at r
 have z1:((boot_heap w.params).isNs mainGlobals && (Array.mk []:Array GenState).size == 0)=true:=by kernel_rfl
 have z2:(boot_heap w.params).objs.size=11:=rfl
 have z3:(boot_heap w.params).nsMap mainGlobals "__annotations__"=some (.ref 6):=by
  rw[Zhv]
  kernel_rfl
 have t:topFrom treeTable p w N ⟨boot_heap w.params,Array.mk [],boot_drawn,boot_toks,os⟩=some s'.abs:=by
  unfold topFrom
  dsimp only
  rw[z1,z2,z3,r]
  show (match staticsOk (importedModules p.main.body) (boot_heap w.params) s'.abs.heap && namesBound p s'.abs.heap && gensDone s'.abs && laidKept (boot_heap w.params) s'.abs.heap with | true=>_ | false=>_)=_
  rw[l1]
 unfold openEnds
 rw[e1]
 show (topFrom treeTable p w N _).map _=_
 rw[t]
 exact congrArg some (Prod.ext l2 l3)
end HD
namespace HD
open PySem PySem.W
theorem ZlP: @stepOk= @PySem.W.Fast.tw6613529449190102663:=PySem.W.Fast.te6613529449190102663
theorem Zhw: @stepT= @PySem.W.Fast.tw10156331382660048174:=PySem.W.Fast.te10156331382660048174
theorem Zjx: @denote= @PySem.W.Fast.tw11892475500146522536:=PySem.W.Fast.te11892475500146522536
theorem Zjy: @treeTable= @PySem.W.Fast.tw14364793385576792824:=PySem.W.Fast.te14364793385576792824
theorem Zhx: @openSeen= @PySem.W.Fast.tw4187177175401517315:=PySem.W.Fast.te4187177175401517315
theorem Zjz: @importedModules= @PySem.W.Fast.tw5923862056798008813:=PySem.W.Fast.te5923862056798008813
end HD
end
section
namespace DL
open PySem PySem.Spec PyProof.Rows L2
noncomputable def wO {β:Type} (o:Out β) (Q:β->Sto->Prop) (E:Str->Sto->Prop):Prop:=match o with
 | .ok a M=>Q a M
 | .exc c M=>E c M
 | .bad=>False
noncomputable def wS (f:Fl) (N:Ro->Sto->Prop) (R:D->Sto->Prop) (B C:Ro->Sto->Prop) (E:Str->Sto->Prop):Prop:=match f with
 | .nx ρ M=>N ρ M
 | .ret d M=>R d M
 | .brk ρ M=>B ρ M
 | .cnt ρ M=>C ρ M
 | .exc c M=>E c M
 | .bad=>False
noncomputable def Br (k:Bool) (A B:Prop):Prop:=(k=true->A)/\(k=false->B)
noncomputable def wG {β:Type} (o:Option β) (N:β->Prop):Prop:=match o with | some ρ=>N ρ | none=>False
noncomputable def wV (o:Option (Option D)) (Q:D->Prop):Prop:=match o with | some (some d)=>Q d | _=>False
noncomputable def wI (x:D) (Q:Int->Prop):Prop:=match x with | .int i=>Q i | _=>False
noncomputable def wB (x:D) (Q:Bool->Prop):Prop:=match x with | .bl i=>Q i | _=>False
noncomputable def wR (x:D) (Q:Nat->Prop):Prop:=match x with | .ref i=>Q i | _=>False
noncomputable def w1 (x:List D) (Q:D->Prop):Prop:=match x with | [v]=>Q v | _=>False
noncomputable def w2 (x:List D) (Q:D->D->Prop):Prop:=match x with | [v,w]=>Q v w | _=>False
noncomputable def wL (o:Option SO) (Q:List D->Prop):Prop:=match o with | some (.lst xs)=>Q xs | none=>False
section
variable {β:Type} {o o':Option (Option D)} {x x':D} {Q:D->Prop} {QI:Int->Prop} {QB:Bool->Prop} {QR:Nat->Prop} {QL:List D->Prop} {l l':Option SO} {d:D} {i:Int} {k:Bool} {n:Nat} {xs:List D} {g g':Option β} {QG:β->Prop} {y:β}
theorem ZoH:w1 [d] Q=Q d:=rfl
theorem ZoI {Q2:D->D->Prop}:w2 [d,x] Q2=Q2 d x:=rfl
theorem ZoJ:wV (some (some d)) Q=Q d:=rfl
theorem ZoK:wI (.int i) QI=QI i:=rfl
theorem ZoL:wB (.bl k) QB=QB k:=rfl
theorem ZoM:wR (.ref n) QR=QR n:=rfl
theorem ZoN:wL (some (.lst xs)) QL=QL xs:=rfl
theorem ZoO:wG (some y) QG=QG y:=rfl
end
section
variable {β:Type} {Q:β->Sto->Prop} {E:Str->Sto->Prop} {N B C:Ro->Sto->Prop} {R:D->Sto->Prop} {ρ:Ro} {M:Sto} {A A':Prop}
theorem Zo {d:β}:wO (.ok d M) Q E=Q d M:=rfl
theorem ZjA {c:Str}:wO (.exc c M:Out β) Q E=E c M:=rfl
theorem ZlQ:Br true A A'=A:=by simp[Br]
theorem Znw:Br false A A'=A':=by simp[Br]
theorem brD {p:Prop} [Decidable p] (h1:p->A) (h2: ¬ p->A'):Br (decide p) A A':=⟨fun h=>h1 (of_decide_eq_true h),fun h=>h2 (of_decide_eq_false h)⟩
theorem brN {p:Prop} [Decidable p] (h1: ¬ p->A) (h2:p->A'):Br (!decide p) A A':=⟨fun h=>h1 (by simpa using h),fun h=>h2 (by simpa using h)⟩
theorem Zhy {o:Out β} {Q':β->Sto->Prop} {E':Str->Sto->Prop} (h:wO o Q E) (hq: ∀ d M,Q d M->Q' d M) (he: ∀ c M,E c M->E' c M):wO o Q' E':=by
 cases o with
 |ok d M=>exact hq d M h
 |exc c M=>exact he c M h
 |bad=>exact h
theorem ZeM {o:Out β} (h:wO o Q (fun _ _=>False)): ∃ d M',o= .ok d M'/\Q d M':=by
 cases o with
 |ok d M=>exact ⟨d,M,rfl,h⟩
 |exc c M=>exact h.elim
 |bad=>exact h.elim
theorem Zj {γ:Type} {o:Out γ} {f:γ->Sto->Out β}:wO (o.bind f) Q E=wO o (fun x M1=>wO (f x M1) Q E) E:=by cases o<;>rfl
end
section
variable {Q:D->Sto->Prop} {E:Str->Sto->Prop} {N B C:Ro->Sto->Prop} {R:D->Sto->Prop} {ρ:Ro} {M:Sto} {e f g:Ev} {fs:Av}
theorem ZlR {op:Bo}:wO (e2 op f g ρ M) Q E=wO (f ρ M) (fun x M1=>wO (g ρ M1) (fun y M2=>wO (op x y M2) Q E) E) E:=by
 unfold e2
 rw[Zj]
 congr 1
 funext x M1
 rw[Zj]
theorem ZoP {i:Nat}:wO (Zh i ρ M) Q E=wV ρ[i]? (fun d=>Q d M):=by
 unfold Zh
 cases ρ[i]? with
 |none=>rfl
 |some o=>cases o<;>rfl
theorem Zhz {F:List D->Sto->Out D}:wO (Zm F fs ρ M) Q E=wO (fs ρ M) (fun ds M1=>wO (F ds M1) Q E) E:=Zj
theorem ZhA {Q:List D->Sto->Prop}:wO (Zc f fs ρ M) Q E=wO (f ρ M) (fun x M1=>wO (fs ρ M1) (fun xs M2=>Q (x :: xs) M2) E) E:=by
 unfold Zc
 rw[Zj]
 congr 1
 funext x M1
 rw[Zj]
 congr 1
theorem ZjB:wO (Za3 fs ρ M) Q E=wO (fs ρ M) (fun xs M1=>xs.length<=1000/\Q (.tup xs) M1) E:=by
 unfold Za3
 rw[Zj]
 congr 1
 funext x M1
 by_cases h:x.length<=1000
 ·rw[if_pos h];simp[h,wO]
 ·rw[if_neg h];simp[h,wO]
theorem ZjC:wO (Ze5 fs ρ M) Q E=wO (fs ρ M) (fun xs M1=>xs.length<=1000/\Q (.ref M1.length) (M1 ++ [.lst xs])) E:=by
 unfold Ze5
 rw[Zj]
 congr 1
 funext x M1
 by_cases h:x.length<=1000
 ·rw[if_pos h];simp[h,wO]
 ·rw[if_neg h];simp[h,wO]
variable {t u:Tv}
theorem ZjD {Q:Bool->Sto->Prop}:wO (Zdn t ρ M) Q E=wO (t ρ M) (fun k M1=>Q (!k) M1) E:=by
 unfold Zdn
 rw[Zj]
 congr 1
variable {a b:Sv}
theorem ZjE:wS (Z4 a b ρ M) N R B C E=wS (a ρ M) (fun ρ1 M1=>wS (b ρ1 M1) N R B C E) R B C E:=by
 unfold Z4
 cases a ρ M<;>rfl
theorem ZI {β:Type} {o:Out β} {k:β->Sto->Fl}:wS (Zap o k) N R B C E=wO o (fun x M1=>wS (k x M1) N R B C E) E:=by cases o<;>rfl
theorem ZjF:wS (Zbj f ρ M) N R B C E=wO (f ρ M) R E:=ZI
theorem ZhB:wS (Zdp f ρ M) N R B C E=wO (f ρ M) (fun _ M1=>N ρ M1) E:=ZI
theorem ZjG {i:Nat}:wS (ZaG (gNm i) f ρ M) N R B C E=wO (f ρ M) (fun d M1=>N (ρ.set i (some d)) M1) E:=ZI
theorem ZhC {gs:Tgs}:wS (ZaG (gTp gs) f ρ M) N R B C E=wO (f ρ M) (fun d M1=>wG (gTp gs d ρ) (fun r=>N r M1)) E:=by
 unfold ZaG
 rw[ZI]
 congr 1
 funext d M1
 cases gTp gs d ρ<;>rfl
theorem ZjH {i j:Nat}:wS (Zdq i j fs ρ M) N R B C E=wO (fs ρ M) (fun ds M1=>w2 ds fun v w=>N ((ρ.set i (some v)).set j (some w)) M1) E:=by
 unfold Zdq
 rw[ZI]
 congr 1
 funext ds M1
 rcases ds with _ | ⟨v,_ | ⟨w,_ | ⟨z,r⟩⟩⟩<;>rfl
theorem ZjI {fo fi:Ev}:wS (Zic fo fi f ρ M) N R B C E=wO (f ρ M) (fun d M1=>wO (fo ρ M1) (fun o M2=>wO (fi ρ M2) (fun i M3=>wR o fun n=>wI i fun k=>wL M3[n]? fun xs=>wG (ixN xs.length k) fun j=>N ρ (M3.set n (.lst (xs.set j d)))) E) E) E:=by
 unfold Zic
 rw[ZI]
 congr 1
 funext d M1
 rw[ZI]
 congr 1
 funext o M2
 rw[ZI]
 congr 1
 funext i M3
 cases o<;>cases i<;>try rfl
 rename_i n k
 cases e:M3[n]? with
 |none=>simp only[e,wR,wI,wL,wS]
 |some s=>
  cases s with
  |lst xs=>
   cases e2:ixN xs.length k<;>simp only[e,e2,wR,wI,wL,wG,wS]
theorem ZfH {c:Str}:wS (Zb3 c fs ρ M) N R B C E=wO (fs ρ M) (fun ds M1=>ds.length<=1000/\E c M1) E:=by
 unfold Zb3
 rw[ZI]
 congr 1
 funext ds M1
 by_cases h:ds.length<=1000
 ·rw[if_pos h];simp[h,wS]
 ·rw[if_neg h];simp[h,wS]
theorem wF {n k:Nat} {ds:List D} (hl:ds.length=n):wO (fnF a n k ds M) Q E=wS (a (ds.map some ++ List.replicate k none) M) (fun _ M1=>Q .non M1) Q (fun _ _=>False) (fun _ _=>False) E:=by
 unfold fnF
 rw[if_pos hl]
 cases a (ds.map some ++ List.replicate k none) M<;>rfl
theorem ZeN {o:Fl} {N' B' C':Ro->Sto->Prop} {R':D->Sto->Prop} {E':Str->Sto->Prop} (h:wS o N R B C E) (hn: ∀ ρ M,N ρ M->N' ρ M) (hr: ∀ d M,R d M->R' d M) (hb: ∀ ρ M,B ρ M->B' ρ M) (hc: ∀ ρ M,C ρ M->C' ρ M) (he: ∀ c M,E c M->E' c M):wS o N' R' B' C' E':=by
 cases o with
 |nx ρ M=>exact hn _ _ h
 |ret ρ M=>exact hr _ _ h
 |brk ρ M=>exact hb _ _ h
 |cnt ρ M=>exact hc _ _ h
 |exc ρ M=>exact he _ _ h
 |bad=>exact h
variable {tg:Tg} {bd:Sv} {fi:Ro->Sto->Out Src}
theorem ZeO (I:Nat->Ro->Sto->Prop): ∀ (xs:List D) (k:Nat) (ρ:Ro) (M:Sto),I k ρ M->(∀ i ρ M (h:i < xs.length),I (k + i) ρ M->wG (tg xs[i] ρ) fun r=>wS (bd r M) (I (k + i + 1)) R N (I (k + i + 1)) E)->(∀ ρ M,I (k + xs.length) ρ M->N ρ M)->wS (ZaB tg bd xs ρ M) N R B C E
 | [],k,ρ,M,h,_,hn=>hn ρ M h
 |x :: xs,k,ρ,M,h,st,hn=>by
  have s:=st 0 ρ M (by simp) h
  unfold ZaB
  simp only[List.getElem_cons_zero,Nat.add_zero] at s
  cases e:tg x ρ with
  |none=>rw[e] at s;exact s.elim
  |some ρ1=>
   rw[e] at s
   simp only[wG] at s
   have rc: ∀ ρ2 M2,I (k + 1) ρ2 M2->wS (ZaB tg bd xs ρ2 M2) N R B C E:=fun ρ2 M2 h2=>ZeO I xs (k + 1) ρ2 M2 h2 (fun i ρ M hi hI=>by
    have z:=st (i + 1) ρ M (by simp;omega) (by rw[show k + (i + 1)=k + 1 + i by omega];exact hI)
    simp only[List.getElem_cons_succ] at z
    rw[show k + (i + 1) + 1=k + 1 + i + 1 by omega] at z
    exact z) (fun ρ M hI=>hn ρ M (by rw[show k + (x :: xs).length=k + 1 + xs.length by simp;omega];exact hI))
   cases eg:bd ρ1 M<;>rw[eg] at s<;>simp only[eg]
   ·exact rc _ _ s
   ·exact s
   ·exact s
   ·exact rc _ _ s
   ·exact s
   ·exact s
theorem ZhD:wS (ZbW tg fs bd ρ M) N R B C E=wO (fs ρ M) (fun ds M1=>w1 ds fun d=>wI d fun j=>(-(2 ^ 62)<=j/\j < 2 ^ 62)/\wS (ZaB tg bd (ZaI 0 j.toNat) ρ M1) N R B C E) E:=by
 unfold ZbW
 rw[ZI]
 congr 1
 funext ds M1
 rcases ds with _ | ⟨v,_ | ⟨w,r⟩⟩
 ·rfl
 ·cases v<;>try rfl
  rename_i j
  by_cases h: -(2 ^ 62)<=j/\j < 2 ^ 62
  ·simp only[w1,wI,eq_true h,true_and,if_true]
  ·simp only[w1,wI,eq_false h,false_and,if_false]
   rfl
 ·cases v<;>rfl
theorem ZeP (I:Nat->Ro->Sto->Prop) {n:Nat} {lo:Int} (h0:I 0 ρ M) (st: ∀ i ρ M,i < n->I i ρ M->wG (tg (.int (lo + i)) ρ) fun r=>wS (bd r M) (I (i + 1)) R N (I (i + 1)) E) (hn: ∀ ρ M,I n ρ M->N ρ M):wS (ZaB tg bd (ZaI lo n) ρ M) N R B C E:=by
 have hl:(ZaI lo n).length=n:=by simp[ZaI]
 refine ZeO I _ 0 ρ M h0 (fun i ρ M h hI=> ?_) (fun ρ M hI=>hn ρ M (by rw[hl,Nat.zero_add] at hI;exact hI))
 have:(ZaI lo n)[i]= .int (lo + i):=by simp[ZaI]
 rw[this]
 rw[Nat.zero_add] at *
 exact st i ρ M (by rw[hl] at h;exact h) hI
theorem ZjJ:wS (Zk8 tg f bd ρ M) N R B C E=wO (f ρ M) (fun d M1=>wS (Zgg tg bd d ρ M1) N R B C E) E:=ZI
theorem ZhE (I:Nat->Ro->Sto->Prop) {n:Nat} {xs:List D}: ∀ (f i:Nat) (ρ:Ro) (M:Sto),i + f=xs.length->I i ρ M->(∀ i ρ M,I i ρ M->M[n]?=some (.lst xs))->(∀ i ρ M (h:i < xs.length),I i ρ M->wG (tg xs[i] ρ) fun r=>wS (bd r M) (I (i + 1)) R N (I (i + 1)) E)->(∀ ρ M,I xs.length ρ M->N ρ M)->wS (ZdE tg bd n f i ρ M) N R B C E:=by
  intro f
  induction f with
  |zero=>
   intro i ρ M e h hm st hn
   have hx:=hm _ _ _ h
   unfold ZdE
   rw[hx]
   have:xs[i]?=none:=List.getElem?_eq_none (by omega)
   simp only[this]
   exact hn ρ M (by rw[show xs.length=i by omega];exact h)
  |succ f ih=>
   intro i ρ M e h hm st hn
   have hx:=hm _ _ _ h
   unfold ZdE
   rw[hx]
   have hi:i < xs.length:=by omega
   have:xs[i]?=some xs[i]:=List.getElem?_eq_getElem hi
   simp only[this]
   have s:=st i ρ M hi h
   cases e:tg xs[i] ρ with
   |none=>rw[e] at s;exact s.elim
   |some ρ1=>
    rw[e] at s
    simp only[wG] at s
    have rc: ∀ ρ2 M2,I (i + 1) ρ2 M2->wS (ZdE tg bd n f (i + 1) ρ2 M2) N R B C E:=fun ρ2 M2 h2=>ih (i + 1) ρ2 M2 (by omega) h2 hm st hn
    cases eg:bd ρ1 M<;>rw[eg] at s<;>simp only[eg]
    ·exact rc _ _ s
    ·exact s
    ·exact s
    ·exact rc _ _ s
    ·exact s
    ·exact s
theorem ZhF (I:Nat->Ro->Sto->Prop) {n:Nat} {xs:List D} (hM:M[n]?=some (.lst xs)) (h0:I 0 ρ M) (hm: ∀ i ρ M,I i ρ M->M[n]?=some (.lst xs)) (st: ∀ i ρ M (h:i < xs.length),I i ρ M->wG (tg xs[i] ρ) fun r=>wS (bd r M) (I (i + 1)) R N (I (i + 1)) E) (hn: ∀ ρ M,I xs.length ρ M->N ρ M):wS (Zgg tg bd (.ref n) ρ M) N R B C E:=by
 show wS (match M[n]? with | some (.lst xs)=>ZdE tg bd n xs.length 0 ρ M | none=> .bad) N R B C E
 rw[hM]
 exact ZhE I xs.length 0 ρ M (by omega) h0 hm st hn
theorem ZhG:wS (ZfC tg fi bd ρ M) N R B C E=wO (fi ρ M) (fun src M1=>wS (Zdt tg bd src (cnt src M1) 0 ρ M1) N R B C E) E:=ZI
theorem ZjK (I:Nat->Ro->Sto->Prop) {src:Src} {xs:List D}: ∀ (f i:Nat) (ρ:Ro) (M:Sto),i<=xs.length->xs.length<=i + f->I i ρ M->(∀ i ρ M,i<=xs.length->I i ρ M->nxt src i M=some xs[i]?)->(∀ i ρ M (h:i < xs.length),I i ρ M->wG (tg xs[i] ρ) fun r=>wS (bd r M) (I (i + 1)) R N (I (i + 1)) E)->(∀ ρ M,I xs.length ρ M->N ρ M)->wS (Zdt tg bd src f i ρ M) N R B C E:=by
  intro f
  induction f with
  |zero=>
   intro i ρ M le e h hm st hn
   have hx:=hm _ _ _ le h
   unfold Zdt
   rw[hx]
   have hi: ¬ i < xs.length:=by omega
   have:xs[i]?=none:=List.getElem?_eq_none (by omega)
   simp only[this]
   exact hn ρ M (by rw[show xs.length=i by omega];exact h)
  |succ f ih=>
   intro i ρ M le e h hm st hn
   have hx:=hm _ _ _ le h
   unfold Zdt
   rw[hx]
   by_cases hi:i < xs.length
   ·have:xs[i]?=some xs[i]:=List.getElem?_eq_getElem hi
    simp only[this]
    have s:=st i ρ M hi h
    cases e:tg xs[i] ρ with
    |none=>rw[e] at s;exact s.elim
    |some ρ1=>
     rw[e] at s
     simp only[wG] at s
     have rc: ∀ ρ2 M2,I (i + 1) ρ2 M2->wS (Zdt tg bd src f (i + 1) ρ2 M2) N R B C E:=fun ρ2 M2 h2=>ih (i + 1) ρ2 M2 (by omega) (by omega) h2 hm st hn
     cases eg:bd ρ1 M<;>rw[eg] at s<;>simp only[eg]
     ·exact rc _ _ s
     ·exact s
     ·exact s
     ·exact rc _ _ s
     ·exact s
     ·exact s
   ·have:xs[i]?=none:=List.getElem?_eq_none (by omega)
    simp only[this]
    exact hn ρ M (by rw[show xs.length=i by omega];exact h)
theorem ZfI {c:Tv} (I:Nat->Ro->Sto->Prop) (st: ∀ n ρ M,I n ρ M->wO (c ρ M) (fun k M1=>Br k (wS (bd ρ M1) (fun ρ2 M2=> ∃ m,m < n/\I m ρ2 M2) R N (fun ρ2 M2=> ∃ m,m < n/\I m ρ2 M2) E) (N ρ M1)) E): ∀ (n:Nat) (ρ:Ro) (M:Sto),I n ρ M->wS (sWh c bd ρ M) N R B C E:=by
 intro n
 induction n using Nat.strongRecOn with
 |ind n ih=>
  intro ρ M h
  have s:=st n ρ M h
  cases ec:c ρ M with
  |bad=>rw[ec] at s;exact s.elim
  |exc x M1=>rw[ec] at s;rw[ZaT (n:=1) (o:= .exc x M1) (by simp only[whN,ec])];exact s
  |ok k M1=>
   rw[ec] at s
   cases k with
   |false=>
    rw[Zo,Znw] at s
    rw[Zeo ec]
    exact s
   |true=>
    rw[Zo,ZlQ] at s
    cases eg:bd ρ M1 with
    |nx ρ2 M2=>
     rw[eg] at s
     obtain ⟨m,hm,hI⟩:=s
     have r:=ih m hm ρ2 M2 hI
     rw[Zfu ec eg (by intro z;rw[z] at r;exact r)]
     exact r
    |cnt ρ2 M2=>
     rw[eg] at s
     obtain ⟨m,hm,hI⟩:=s
     have r:=ih m hm ρ2 M2 hI
     have nb:sWh c bd ρ2 M2≠ .bad:=by intro z;rw[z] at r;exact r
     obtain ⟨j,ej⟩:=Zen nb
     rw[ZaT (n:=j + 1) (o:=sWh c bd ρ2 M2) (by simp only[whN,ec,eg];exact ej)]
     exact r
    |brk ρ2 M2=>rw[eg] at s;rw[ZaT (n:=1) (o:= .nx ρ2 M2) (by simp only[whN,ec,eg])];exact s
    |ret d M2=>rw[eg] at s;rw[ZaT (n:=1) (o:= .ret d M2) (by simp only[whN,ec,eg])];exact s
    |exc d M2=>rw[eg] at s;rw[ZaT (n:=1) (o:= .exc d M2) (by simp only[whN,ec,eg])];exact s
    |bad=>rw[eg] at s;exact s.elim
theorem ZhH {fi:Ro->Sto->Out Src} {k:Nat} {fr:List Nat} {c:Tv}:wO (Zdr fi k fr tg c f ρ M) Q E=wO (fi ρ M) (fun src M1=>wO (ZbI src tg c f M1.length (cnt src M1) 0 (roB k fr ρ) (M1 ++ [.lst []])) (fun _ M2=>Q (.ref M1.length) M2) (fun _ _=>False)) E:=by
 unfold Zdr
 rw[Zj]
 congr 1
 funext src M1
 cases ZbI src tg c f M1.length (cnt src M1) 0 (roB k fr ρ) (M1 ++ [.lst []])<;>rfl
theorem ZjL (I:Nat->Ro->Sto->Prop) {src:Src} {xs:List D} {c:Tv} {m:Nat} {Q:Sto->Prop}: ∀ (fu i:Nat) (ρ:Ro) (M:Sto),i<=xs.length->xs.length<=i + fu->I i ρ M->(∀ i ρ M,i<=xs.length->I i ρ M->nxt src i M=some xs[i]?)->
  (∀ i ρ M (h:i < xs.length),I i ρ M->wG (tg xs[i] ρ) fun r=>wO (c r M) (fun k M1=>Br k (wO (f r M1) (fun y M2=>wL M2[m]? fun ys=>ys.length < 10000000/\I (i + 1) r (M2.set m (.lst (ys ++ [y])))) (fun _ _=>False)) (I (i + 1) r M1)) (fun _ _=>False))->
  (∀ ρ M,I xs.length ρ M->Q M)->wO (ZbI src tg c f m fu i ρ M) (fun _ M2=>Q M2) (fun _ _=>False):=by
  intro fu
  induction fu with
  |zero=>
   intro i ρ M le e h hm st hn
   have hx:=hm _ _ _ le h
   unfold ZbI
   rw[hx]
   have hi: ¬ i < xs.length:=by omega
   have:xs[i]?=none:=List.getElem?_eq_none (by omega)
   simp only[this]
   exact hn ρ M (by rw[show xs.length=i by omega];exact h)
  |succ fu ih=>
   intro i ρ M le e h hm st hn
   have hx:=hm _ _ _ le h
   unfold ZbI
   rw[hx]
   by_cases hi:i < xs.length
   ·have:xs[i]?=some xs[i]:=List.getElem?_eq_getElem hi
    simp only[this]
    have s:=st i ρ M hi h
    cases e:tg xs[i] ρ with
    |none=>rw[e] at s;exact s.elim
    |some ρ1=>
     rw[e] at s
     simp only[wG] at s
     have rc: ∀ ρ2 M2,I (i + 1) ρ2 M2->wO (ZbI src tg c f m fu (i + 1) ρ2 M2) (fun _ M2=>Q M2) (fun _ _=>False):=fun ρ2 M2 h2=>ih (i + 1) ρ2 M2 (by omega) (by omega) h2 hm st hn
     cases ec:c ρ1 M with
     |bad=>rw[ec] at s;exact s.elim
     |exc _ _=>rw[ec] at s;exact s.elim
     |ok k M1=>
      rw[ec] at s
      rw[Zo] at s
      cases k with
      |false=>
       rw[Znw] at s
       simp only[ec]
       exact rc _ _ s
      |true=>
       rw[ZlQ] at s
       simp only[ec]
       cases ef:f ρ1 M1 with
       |bad=>rw[ef] at s;exact s.elim
       |exc _ _=>rw[ef] at s;exact s.elim
       |ok y M2=>
        rw[ef,Zo] at s
        simp only[ef]
        cases ey:M2[m]? with
        |none=>rw[ey] at s;exact s.elim
        |some o=>
         cases o with
         |lst ys=>
          rw[ey] at s
          simp only[wL,ey] at s ⊢
          rw[if_pos s.1]
          exact rc _ _ s.2
   ·have:xs[i]?=none:=List.getElem?_eq_none (by omega)
    simp only[this]
    exact hn ρ M (by rw[show xs.length=i by omega];exact h)
end
end DL
end
section
namespace DL
open PySem PySem.Spec PyProof.Rows L2
section
variable {Q:D->Sto->Prop} {E:Str->Sto->Prop} {N B C:Ro->Sto->Prop} {R:D->Sto->Prop} {ρ:Ro} {M:Sto} {f:Ev} {fs:Av} {i j:Int} {n m k:Nat} {x y d:D} {xs ys ds:List D} {lo hi:Ro->Sto->Out (Option Int)}
theorem Zch (h: -(18446744073709551616) < i/\i < 18446744073709551616):Zy i j:=ZeK h.1 h.2
theorem ZbC (h: -(18446744073709551616) < j/\j < 18446744073709551616):Zy i j:=ZeJ h.1 h.2
theorem Zci (h:0 < j/\j < 18446744073709551616):Z8 j:=by
 refine ⟨by omega,?_⟩
 have:j.natAbs.log2 < 64:=(Nat.log2_lt (by omega)).mpr (by omega)
 omega
theorem ZlS:wO (dAdd (.int i) (.int j) M) Q E=Q (.int (i + j)) M:=rfl
theorem ZlT:wO (dSub (.int i) (.int j) M) Q E=Q (.int (i - j)) M:=rfl
theorem Zc9 (h:Zy i j):wO (dMul (.int i) (.int j) M) Q E=Q (.int (i * j)) M:=by
 show wO (if Zy i j then _ else _) Q E=_
 rw[if_pos h];rfl
theorem ZlU (h: -(18446744073709551616) < i/\i < 18446744073709551616):wO (dMul (.int i) (.int j) M) Q E=Q (.int (i * j)) M:=Zc9 (Zch h)
theorem ZjM (h: -(18446744073709551616) < j/\j < 18446744073709551616):wO (dMul (.int i) (.int j) M) Q E=Q (.int (i * j)) M:=Zc9 (ZbC h)
theorem ZlV (h:0 < j/\j < 18446744073709551616):wO (dDiv (.int i) (.int j) M) Q E=Q (.int (i / j)) M:=by
 show wO (if Z8 j then _ else _) Q E=_
 rw[if_pos (Zci h),Int.fdiv_eq_ediv_of_nonneg _ (by omega)];rfl
theorem ZlW (h:0 < j):wO (dMod (.int i) (.int j) M) Q E=Q (.int (i % j)) M:=by
 show wO (if j≠0 then _ else _) Q E=_
 rw[if_pos (by omega),Int.fmod_eq_emod_of_nonneg _ (by omega)];rfl
theorem ZlX (h:0<=j/\j<=1000000/\i.natAbs < 18446744073709551616):wO (dPow (.int i) (.int j) M) Q E=Q (.int (i ^ j.toNat)) M:=by
 show wO (if 0<=j/\j<=1000000/\i.natAbs < 2 ^ 64 then _ else _) Q E=_
 rw[if_pos ⟨h.1,h.2.1,by omega⟩];rfl
theorem ZoQ:wO (dLt (.int i) (.int j) M) Q E=Q (.bl (decide (i < j))) M:=rfl
theorem ZoR:wO (dLe (.int i) (.int j) M) Q E=Q (.bl (decide (i<=j))) M:=rfl
theorem ZoS:wO (dGt (.int i) (.int j) M) Q E=Q (.bl (decide (j < i))) M:=rfl
theorem ZoT:wO (dGe (.int i) (.int j) M) Q E=Q (.bl (decide (j<=i))) M:=rfl
theorem ZlY:wO (dAdd (.ref n) (.ref m) M) Q E=wL M[n]? fun xs=>wL M[m]? fun ys=>xs.length + ys.length<=10000000/\Q (.ref M.length) (M ++ [.lst (xs ++ ys)]):=by
 show wO (match M[n]?,M[m]? with | some (.lst xs),some (.lst ys)=>_ | _,_=>_) Q E=_
 cases e1:M[n]? with
 |none=>rfl
 |some o=>
  cases o with
  |lst xs=>
   cases e2:M[m]? with
   |none=>rfl
   |some p=>
    cases p with
    |lst ys=>
     by_cases h:xs.length + ys.length<=10000000
     ·simp[wL,h,wO]
     ·simp[wL,h,wO]
theorem ZjN (h:xs.length + ys.length<=100000/\xs≠[]):wO (dAdd (.tup xs) (.tup ys) M) Q E=Q (.tup (xs ++ ys)) M:=by
 show wO (if xs.length + ys.length<=100000/\xs≠[] then _ else _) Q E=_
 rw[if_pos h];rfl
theorem ZoU:wO (dEq x y M) Q E=wG (eqF 12 M x y) fun b=>Q (.bl b) M:=by
 show wO (match eqF 12 M x y with | some b=>_ | none=>_) Q E=_
 cases eqF 12 M x y<;>rfl
theorem ZoV:wO (dNe x y M) Q E=wG (eqF 12 M x y) fun b=>Q (.bl (!b)) M:=by
 show wO (match eqF 12 M x y with | some b=>_ | none=>_) Q E=_
 cases eqF 12 M x y<;>rfl
theorem ZoW:wO (dIs x y M) Q E=wG (isP x y) fun b=>Q (.bl b) M:=by
 show wO (match isP x y with | some b=>_ | none=>_) Q E=_
 cases isP x y<;>rfl
theorem ZlZ:wO (Zga x y M) Q E=wG (isP x y) fun b=>Q (.bl (!b)) M:=by
 show wO (match isP x y with | some b=>_ | none=>_) Q E=_
 cases isP x y<;>rfl
theorem ZhI:wO (atD xs i M) Q E=wG (atI xs i) fun d=>Q d M:=by
 unfold atD
 cases atI xs i<;>rfl
theorem Zl0:wO (dIx (.tup xs) (.int i) M) Q E=wG (atI xs i) fun d=>Q d M:=ZhI
theorem Zl1:wO (dIx (.rol xs) (.int i) M) Q E=wG (atI xs i) fun d=>Q d M:=ZhI
theorem Zl2:wO (dIx (.ref n) (.int i) M) Q E=wL M[n]? fun xs=>wG (atI xs i) fun d=>Q d M:=by
 show wO (match M[n]? with | some (.lst xs)=>atD xs i M | _=> .bad) Q E=_
 cases e1:M[n]? with
 |none=>rfl
 |some o=>cases o with | lst xs=>exact ZhI
theorem ZjO:wO (bLen [.ref n] M) Q E=wL M[n]? fun xs=>Q (.int xs.length) M:=by
 show wO (match (match M[n]? with | some (.lst xs)=>some xs | _=>none) with | some xs=>_ | none=>_) Q E=_
 cases e1:M[n]? with
 |none=>rfl
 |some o=>cases o with | lst xs=>rfl
theorem ZjP:wO (bLen [.tup xs] M) Q E=Q (.int xs.length) M:=rfl
theorem ZjQ:wO (bLen [.rol xs] M) Q E=Q (.int xs.length) M:=rfl
theorem Zl3:wO (bAbs [.int i] M) Q E=Q (.int (i.natAbs:Int)) M:=by rw[<- Zhu];rfl
theorem Zl4:wO (bMax [.int i,.int j] M) Q E=Q (.int (max i j)) M:=by
 have:max i j=if j > i then j else i:=by split<;>omega
 rw[this];rfl
theorem Zl5:wO (bMin [.int i,.int j] M) Q E=Q (.int (min i j)) M:=by
 have:min i j=if j < i then j else i:=by split<;>omega
 rw[this];rfl
theorem ZjR {k:Bool}:wO (bInt [.bl k] M) Q E=Q (.int (if k then 1 else 0)) M:=rfl
theorem ZjS:wO (bInt [.int i] M) Q E=Q (.int i) M:=rfl
theorem ZhJ:wO (Zg8 [.ref n] M) Q E=wL M[n]? fun xs=>Q (.ref M.length) (M ++ [.lst xs]):=by
 show wO (match (match M[n]? with | some (.lst xs)=>some xs | _=>none) with | some xs=>_ | none=>_) Q E=_
 cases e1:M[n]? with
 |none=>rfl
 |some o=>cases o with | lst xs=>rfl
theorem ZhK:wO (Zg8 [.tup xs] M) Q E=Q (.ref M.length) (M ++ [.lst xs]):=rfl
theorem Zl6:wO (Znn [.ref n] M) Q E=wL M[n]? fun xs=>wG (ZU xs) fun bs=>Q (.bl (bs.all id)) M:=by
 show wO (match M[n]? with | some (.lst xs)=>(match ZU xs with | some bs=>Out.ok (.bl (bs.all id)) M | none=> .bad) | none=> .bad) Q E=_
 cases e1:M[n]? with
 |none=>rfl
 |some o=>
  cases o with
  |lst xs=>
   show wO (match ZU xs with | some bs=>Out.ok (.bl (bs.all id)) M | none=> .bad) Q E=wG (ZU xs) _
   cases ZU xs<;>rfl
theorem ZjT {g:List Int->Option Int}:wO (Zjg g [.ref n] M) Q E=wL M[n]? fun xs=>wG (Zb4 xs) fun ns=>wG (g ns) fun i=>Q (.int i) M:=by
 show wO (match (match M[n]? with | some (.lst xs)=>some xs | _=>none) with | some xs=>(match Zb4 xs with | some ns=>(match g ns with | some i=>Out.ok (.int i) M | none=> .bad) | none=> .bad) | none=> .bad) Q E=_
 cases e1:M[n]? with
 |none=>rfl
 |some o=>
  cases o with
  |lst xs=>
   show wO (match Zb4 xs with | some ns=>(match g ns with | some i=>Out.ok (.int i) M | none=> .bad) | none=> .bad) Q E=wG (Zb4 xs) _
   cases Zb4 xs with
   |none=>rfl
   |some ns=>
    show wO (match g ns with | some i=>Out.ok (.int i) M | none=> .bad) Q E=wG (g ns) _
    cases g ns<;>rfl
theorem ZoX {g:Me} {fo:Ev}:wO (Zgk g fo fs ρ M) Q E=wO (fo ρ M) (fun x M1=>Zhi x M1=true/\wO (fs ρ M1) (fun ds M2=>wO (g x ds M2) Q E) E) E:=by
 unfold Zgk
 rw[Zj]
 congr 1
 funext x M1
 by_cases h:Zhi x M1=true
 ·simp only[h,if_true,true_and];rw[Zj]
 ·simp[h,wO]
theorem ZjU:Zhi (.ref n) M=M[n]?.isSome:=rfl
theorem Zl7:wO (mApp (.ref n) [d] M) Q E=wL M[n]? fun xs=>xs.length < 10000000/\Q .non (M.set n (.lst (xs ++ [d]))):=by
 show wO (match M[n]? with | some (.lst xs)=>if xs.length < 10000000 then _ else _ | none=>_) Q E=_
 cases e1:M[n]? with
 |none=>rfl
 |some o=>
  cases o with
  |lst xs=>
   by_cases h:xs.length < 10000000
   ·simp[wL,h,wO]
   ·simp[wL,h,wO]
theorem Zl8:wO (Znr (.ref n) [] M) Q E=wL M[n]? fun xs=>Q .non (M.set n (.lst [])):=by
 show wO (match M[n]? with | some (.lst xs)=>_ | none=>_) Q E=_
 cases e1:M[n]? with
 |none=>rfl
 |some o=>cases o with | lst xs=>rfl
theorem Zl9:wO (Zns (.ref n) [.ref m] M) Q E=wL M[n]? fun xs=>wL M[m]? fun ys=>xs.length + ys.length<=10000000/\Q .non (M.set n (.lst (xs ++ ys))):=by
 show wO (match M[n]?,M[m]? with | some (.lst xs),some (.lst ys)=>if xs.length + ys.length<=10000000 then _ else _ | _,_=>_) Q E=_
 cases e1:M[n]? with
 |none=>rfl
 |some o=>
  cases o with
  |lst xs=>
   cases e2:M[m]? with
   |none=>rfl
   |some p=>
    cases p with
    |lst ys=>
     by_cases h:xs.length + ys.length<=10000000
     ·simp[wL,h,wO]
     ·simp[wL,h,wO]
noncomputable def slR (x:D) (l u:Option Int) (M3:Sto):Out D:=match x with
 | .ref n=>(match M3[n]? with | some (.lst xs)=> .ok (.ref M3.length) (M3 ++ [.lst (ZdF xs l u)]) | none=> .bad)
 | .rol xs=> .ok (.ref M3.length) (M3 ++ [.lst (ZdF xs l u)])
 | .tup xs=>if HT.sIx xs.length 0 l=0/\HT.sIx xs.length xs.length u=xs.length then .bad else .ok (.tup (ZdF xs l u)) M3
 |_=> .bad
theorem Zma:wO (eSl f lo hi ρ M) Q E=wO (f ρ M) (fun x M1=>wO (lo ρ M1) (fun l M2=>wO (hi ρ M2) (fun u M3=>wO (slR x l u M3) Q E) E) E) E:=by
 unfold eSl
 rw[Zj]
 congr 1
 funext x M1
 rw[Zj]
 congr 1
 funext l M2
 rw[Zj]
 congr 1
theorem Zmb {l u:Option Int}:wO (slR (.ref n) l u M) Q E=wL M[n]? fun xs=>Q (.ref M.length) (M ++ [.lst (ZdF xs l u)]):=by
 unfold slR
 cases e1:M[n]? with
 |none=>simp only[e1];rfl
 |some o=>cases o with | lst xs=>simp only[e1];rfl
theorem Zmc {Q:Option Int->Sto->Prop}:wO (oSo f ρ M) Q E=wO (f ρ M) (fun x M1=>wI x fun i=>Q (some i) M1) E:=by
 unfold oSo
 rw[Zj]
 congr 1
 funext x M1
 cases x<;>rfl
theorem ZjV (h:0<=i):ZdF xs none (some i)=xs.take i.toNat:=by
 unfold ZdF
 simp only[HT.sIx]
 rw[if_neg (by omega),List.drop_zero,Nat.sub_zero]
 by_cases c:i.toNat<=xs.length
 ·rw[Nat.min_eq_left c]
 ·rw[Nat.min_eq_right (by omega),List.take_of_length_le (Nat.le_refl _),List.take_of_length_le (by omega)]
theorem ZfJ (h:0<=i):ZdF xs (some i) none=xs.drop i.toNat:=by
 unfold ZdF
 simp only[HT.sIx]
 rw[if_neg (by omega)]
 by_cases c:i.toNat<=xs.length
 ·rw[Nat.min_eq_left c,List.take_of_length_le (by simp)]
 ·rw[Nat.min_eq_right (by omega),List.drop_eq_nil_of_le (Nat.le_refl _),List.drop_eq_nil_of_le (by omega),List.take_nil]
theorem ZfK {L:Sto}:(M ++ L)[M.length]?=L[0]?:=by rw[List.getElem?_append_right (Nat.le_refl _),Nat.sub_self]
theorem Zmd {L:Sto} {i:Nat}:(M ++ L)[M.length + i]?=L[i]?:=by rw[List.getElem?_append_right (by omega)];congr 1;omega
theorem ZcH {L:Sto} (h:n < M.length):(M ++ L)[n]?=M[n]?:=List.getElem?_append_left h
theorem Zgv {L:Sto} {o:SO}:(M ++ L).set M.length o=M ++ L.set 0 o:=by rw[List.set_append_right _ _ (Nat.le_refl _),Nat.sub_self]
theorem Zme {L:Sto} {o:SO} {i:Nat}:(M ++ L).set (M.length + i) o=M ++ L.set i o:=by rw[List.set_append_right _ _ (by omega)];congr 2;omega
theorem ZjW {o:SO} (h:k≠n):(M.set n o)[k]?=M[k]?:=List.getElem?_set_ne (Ne.symm h)
theorem ZjX {o:SO} (h:n < M.length):(M.set n o)[n]?=some o:=List.getElem?_set_self h
theorem Zan {o:SO} (h:M[n]?=some o):n < M.length:=(List.getElem?_eq_some_iff.mp h).1
noncomputable abbrev pr (x y:Int):D:= .tup [.int x,.int y]
noncomputable def prs (rs:List (Int × Int)):List D:=rs.map fun p=>pr p.1 p.2
noncomputable def nts (ns:List Int):List D:=ns.map D.int
theorem ZeQ {rs:List (Int × Int)}:(prs rs).length=rs.length:=List.length_map _
theorem ZbD {rs:List Int}:(nts rs).length=rs.length:=List.length_map _
theorem ZhL {a b:List (Int × Int)}:prs a ++ prs b=prs (a ++ b):=(List.map_append).symm
theorem ZhM {a b:List Int}:nts a ++ nts b=nts (a ++ b):=(List.map_append).symm
theorem ZfL {a:List (Int × Int)}:(prs a).take n=prs (a.take n):=List.map_take.symm
theorem ZfM {a:List (Int × Int)}:(prs a).drop n=prs (a.drop n):=List.map_drop.symm
theorem ZfN {a:List Int}:(nts a).take n=nts (a.take n):=List.map_take.symm
theorem ZfO {a:List Int}:(nts a).drop n=nts (a.drop n):=List.map_drop.symm
theorem ZfP {a b:Int} {r:List (Int × Int)}:pr a b :: prs r=prs ((a,b) :: r):=rfl
theorem ZhN {a:List (Int × Int)} {b c:Int}:(prs a).set n (pr b c)=prs (a.set n (b,c)):=by unfold prs;rw[List.map_set]
theorem ZhO {a:List Int} {b:Int}:(nts a).set n (.int b)=nts (a.set n b):=by unfold nts;rw[List.map_set]
noncomputable def cy (rs:List (Int × Int)) (i:Int):Int × Int:=rs.getD (i % rs.length).toNat (0,0)
theorem Zcj {rs:List (Int × Int)} {k:Nat} (h:k < rs.length):cy rs k=rs[k]:=by
 unfold cy
 rw[Int.emod_eq_of_lt (by omega) (by omega)]
 simp[List.getElem?_eq_getElem h]
theorem Zmf {a b:Int}:eqF (n + 1) M (.int a) (.int b)=some (decide (a=b)):=rfl
theorem ZoY {a b:Bool}:eqF (n + 1) M (.bl a) (.bl b)=some (a == b):=rfl
theorem Znx {a b c d:Int}:eqF (n + 2) M (pr a b) (pr c d)=some (decide ((a,b)=(c,d))):=by
 show some ((a == c) && ((b == d) && true))=_
 congr 1
 rw[Bool.eq_iff_iff]
 simp
theorem ZjY {rs ss:List (Int × Int)}:eqL (eqF (n + 2) M) (prs rs) (prs ss)=some (decide (rs=ss)):=by
 induction rs generalizing ss with
 |nil=>cases ss<;>rfl
 |cons r rs ih=>
  cases ss with
  |nil=>rfl
  |cons s ss=>
   show (match eqF (n + 2) M (pr r.1 r.2) (pr s.1 s.2) with | some a=>(match eqL _ (prs rs) (prs ss) with | some b=>some (a && b) | none=>none) | none=>none)=_
   rw[Znx,ih]
   simp only[]
   congr 1
   rw[Bool.eq_iff_iff]
   obtain ⟨r1,r2⟩:=r
   obtain ⟨s1,s2⟩:=s
   simp
theorem Zmg {xs ys:List D} (h1:M[n]?=some (.lst xs)) (h2:M[m]?=some (.lst ys)):eqF (k + 1) M (.ref n) (.ref m)=if xs.length=ys.length then eqL (eqF k M) xs ys else some false:=by
 show (match kd M (.ref n),kd M (.ref m) with | some a,some b=>eqK (eqF k M) a b | _,_=>none)=_
 have e1:kd M (.ref n)=some (.lst xs):=by show (match M[n]? with | some (.lst xs)=>some (Kd.lst xs) | _=>none)=_;rw[h1]
 have e2:kd M (.ref m)=some (.lst ys):=by show (match M[m]? with | some (.lst xs)=>some (Kd.lst xs) | _=>none)=_;rw[h2]
 rw[e1,e2]
 rfl
theorem ZjZ:Zad M (.int i)=some "int":=rfl
theorem Zmh {b:Bool}:Zad M (.bl b)=some "bool":=rfl
theorem Zj0:Zad M (.tup xs)=some "tuple":=rfl
theorem Zj1:Zad M .non=some "NoneType":=rfl
end
end DL
end
section
namespace DL
open PySem PySem.Spec PyProof.Rows L2
section
variable {Q:D->Sto->Prop} {E:Str->Sto->Prop} {N B C:Ro->Sto->Prop} {R:D->Sto->Prop} {ρ:Ro} {M:Sto} {f:Ev} {fs:Av} {i j:Int} {n m k:Nat} {x y z d:D} {xs ys ds:List D} {QS:Src->Sto->Prop} {tg:Tg} {bd:Sv} {b:Bool}
theorem ZhP:wS (Zbo tg fs bd ρ M) N R B C E=wO (fs ρ M) (fun ds M1=>w2 ds fun x y=>wI x fun i=>wI y fun j=>(-(2 ^ 62)<=i/\i < 2 ^ 62/\ -(2 ^ 62)<=j/\j < 2 ^ 62)/\wS (ZaB tg bd (ZaI i (j - i).toNat) ρ M1) N R B C E) E:=by
 unfold Zbo
 rw[ZI]
 congr 1
 funext ds M1
 rcases ds with _ | ⟨v,_ | ⟨w,_ | ⟨w',r⟩⟩⟩
 ·rfl
 ·cases v<;>rfl
 ·cases v<;>try rfl
  cases w<;>try rfl
  rename_i i j
  by_cases h: -(2 ^ 62)<=i/\i < 2 ^ 62/\ -(2 ^ 62)<=j/\j < 2 ^ 62
  ·simp only[w2,wI,eq_true h,true_and,if_true]
  ·simp only[w2,wI,eq_false h,false_and,if_false]
   rfl
 ·cases v<;>cases w<;>rfl
theorem ZoZ:wO (iR1 fs ρ M) QS E=wO (fs ρ M) (fun ds M1=>w1 ds fun d=>wI d fun j=>(-(2 ^ 62)<=j/\j < 2 ^ 62)/\QS (.pur (ZaI 0 j.toNat)) M1) E:=by
 unfold iR1
 rw[Zj]
 congr 1
 funext ds M1
 rcases ds with _ | ⟨v,_ | ⟨w,r⟩⟩
 ·rfl
 ·cases v<;>try rfl
  rename_i j
  by_cases h: -(2 ^ 62)<=j/\j < 2 ^ 62
  ·simp only[w1,wI,eq_true h,true_and,if_true,Zo]
  ·simp only[w1,wI,eq_false h,false_and,if_false]
   rfl
 ·cases v<;>rfl
theorem Zo0:wO (iR2 fs ρ M) QS E=wO (fs ρ M) (fun ds M1=>w2 ds fun x y=>wI x fun i=>wI y fun j=>(-(2 ^ 62)<=i/\i < 2 ^ 62/\ -(2 ^ 62)<=j/\j < 2 ^ 62)/\QS (.pur (ZaI i (j - i).toNat)) M1) E:=by
 unfold iR2
 rw[Zj]
 congr 1
 funext ds M1
 rcases ds with _ | ⟨v,_ | ⟨w,_ | ⟨w',r⟩⟩⟩
 ·rfl
 ·cases v<;>rfl
 ·cases v<;>try rfl
  cases w<;>try rfl
  rename_i i j
  by_cases h: -(2 ^ 62)<=i/\i < 2 ^ 62/\ -(2 ^ 62)<=j/\j < 2 ^ 62
  ·simp only[w2,wI,eq_true h,true_and,if_true,Zo]
  ·simp only[w2,wI,eq_false h,false_and,if_false]
   rfl
 ·cases v<;>cases w<;>rfl
theorem Zo1:wO (iEn fs ρ M) QS E=wO (fs ρ M) (fun ds M1=>w1 ds fun d=>wR d fun n=>QS (.enu n) M1) E:=by
 unfold iEn
 rw[Zj]
 congr 1
 funext ds M1
 rcases ds with _ | ⟨v,_ | ⟨w,r⟩⟩<;>try rfl
 ·cases v<;>rfl
 ·cases v<;>rfl
theorem Zo2:wO (iZp fs ρ M) QS E=wO (fs ρ M) (fun ds M1=>w2 ds fun x y=>wR x fun n=>wR y fun m=>QS (.zip n m) M1) E:=by
 unfold iZp
 rw[Zj]
 congr 1
 funext ds M1
 rcases ds with _ | ⟨v,_ | ⟨w,_ | ⟨w',r⟩⟩⟩<;>try rfl
 ·cases v<;>rfl
 ·cases v<;>cases w<;>rfl
 ·cases v<;>cases w<;>rfl
theorem Zo3:wO (iRv fs ρ M) QS E=wO (fs ρ M) (fun ds M1=>w1 ds fun d=>wR d fun n=>wL M1[n]? fun xs=>QS (.rev n xs.length) M1) E:=by
 unfold iRv
 rw[Zj]
 congr 1
 funext ds M1
 rcases ds with _ | ⟨v,_ | ⟨w,r⟩⟩<;>try rfl
 ·cases v<;>try rfl
  rename_i n
  cases e:M1[n]? with
  |none=>simp only[e];simp only[w1,wR,e];rfl
  |some o=>cases o with | lst xs=>simp only[e,w1,wR];rfl
 ·cases v<;>rfl
noncomputable def Zj2 (Q:D->Sto->Prop) (ρ:Ro) (M:Sto):Prop:=Q .non M
theorem wF1:wO (fnF bd 1 k [x] M) Q E=wS (bd (some x :: List.replicate k none) M) (Zj2 Q) Q (fun _ _=>False) (fun _ _=>False) E:=wF rfl
theorem wF2:wO (fnF bd 2 k [x,y] M) Q E=wS (bd (some x :: some y :: List.replicate k none) M) (Zj2 Q) Q (fun _ _=>False) (fun _ _=>False) E:=wF rfl
theorem wF3:wO (fnF bd 3 k [x,y,z] M) Q E=wS (bd (some x :: some y :: some z :: List.replicate k none) M) (Zj2 Q) Q (fun _ _=>False) (fun _ _=>False) E:=wF rfl
theorem wF4:wO (fnF bd 4 k [x,y,z,d] M) Q E=wS (bd (some x :: some y :: some z :: some d :: List.replicate k none) M) (Zj2 Q) Q (fun _ _=>False) (fun _ _=>False) E:=wF rfl
theorem ZfQ {a:List (Int × Int)} {b c:Int}:prs a ++ [pr b c]=prs (a ++ [(b,c)]):=by simp[prs]
theorem ZfR {a:List Int} {b:Int}:nts a ++ [D.int b]=nts (a ++ [b]):=by simp[nts]
theorem ZfS {b:Int} {r:List Int}:D.int b :: nts r=nts (b :: r):=rfl
theorem Zmi:isP .non .non=some true:=rfl
theorem Zmj:isP (.int i) .non=some false:=rfl
theorem Zmk:isP (.tup xs) .non=some false:=rfl
theorem Zml:isP (.ref n) .non=some false:=rfl
theorem at2 {r:List D}:atI (x :: y :: z :: r) 2=some z:=by
 show (ixN (r.length + 3) 2).bind _=_
 unfold ixN
 rw[if_pos (by decide),if_pos (by omega)]
 rfl
theorem at3 {r:List D}:atI (x :: y :: z :: d :: r) 3=some d:=by
 show (ixN (r.length + 4) 3).bind _=_
 unfold ixN
 rw[if_pos (by decide),if_pos (by omega)]
 rfl
theorem Zj3:Za6 "int" "int"=true:=rfl
theorem Zj4:Za6 "int" "bool"=false:=rfl
theorem Zj5:Za6 "bool" "int"=true:=rfl
theorem Zj6:Za6 "bool" "bool"=true:=rfl
theorem Zj7:Za6 "tuple" "tuple"=true:=rfl
theorem Zj8:Za6 "list" "list"=true:=rfl
theorem Zj9:Za6 "tuple" "int"=false:=rfl
theorem Zka:Za6 "tuple" "list"=false:=rfl
theorem Zkb:Za6 "list" "tuple"=false:=rfl
theorem Zkc:Za6 "list" "int"=false:=rfl
theorem Zkd:Za6 "NoneType" "tuple"=false:=rfl
theorem Zke:Za6 "NoneType" "list"=false:=rfl
section
variable {g:Jv} {bb:Nat}
end
theorem ZhQ {src:Src} (Inv:Ro->Prop) (F:Nat->D) {Q:Sto->Prop} (hl:xs.length < 10000000) (hcnt:xs.length<=cnt src M) (h0:Inv ρ) (hs: ∀ (L:Sto) (i:Nat),i<=xs.length->nxt src i (M ++ L)=some xs[i]?)
  (st: ∀ (i:Nat) (h:i < xs.length) (ρ:Ro) (L:Sto),Inv ρ->wG (tg xs[i] ρ) fun r=>Inv r/\wO (f r (M ++ L)) (fun y M2=>y=F i/\M2=M ++ L) (fun _ _=>False)) (hq:Q (M ++ [.lst ((List.range xs.length).map F)])):
  wO (ZbI src tg (fun _ M=> .ok true M) f M.length (cnt src M) 0 ρ (M ++ [.lst []])) (fun _ M2=>Q M2) (fun _ _=>False):=by
 refine ZjL (fun i ρ M'=>Inv ρ/\M'=M ++ [.lst ((List.range i).map F)]) (xs:=xs) _ 0 ρ _ (by simp) (by omega) ⟨h0,rfl⟩ (fun i ρ M' hi hI=>by rw[hI.2];exact hs _ i hi) (fun i ρ M' h hI=> ?_) (fun ρ M' hI=>by rw[hI.2];exact hq)
 obtain ⟨hI,rfl⟩:=hI
 have s:=st i h ρ [.lst ((List.range i).map F)] hI
 cases e:tg xs[i] ρ with
 |none=>rw[e] at s;exact s.elim
 |some r=>
  rw[e] at s
  obtain ⟨hr,s⟩:=s
  show Br true _ _
  rw[ZlQ]
  refine Zhy s (fun y M2 ⟨h1,h2⟩=> ?_) (fun _ _ z=>z)
  subst h1 h2
  rw[ZfK]
  refine ⟨by simp;omega,hr,?_⟩
  rw[Zgv,List.range_succ,List.map_append]
  rfl
end
end DL
end
section
namespace DL
open PySem PySem.Spec PyProof.Rows L2
section
variable {Q:D->Sto->Prop} {E:Str->Sto->Prop} {N B C:Ro->Sto->Prop} {R:D->Sto->Prop} {ρ:Ro} {M:Sto} {f g:Ev} {fs:Av} {i j:Int} {n m k:Nat} {x y z d:D} {xs ys ds:List D} {QL:List D->Sto->Prop} {QB:Bool->Sto->Prop} {QS:Src->Sto->Prop} {tg:Tg} {a bd:Sv} {b:Bool} {t u:Tv}
noncomputable def kU {β γ:Type} (u:β->Sto->Out γ) (Q:γ->Sto->Prop) (E:Str->Sto->Prop) (x:β) (M:Sto):Prop:=wO (u x M) Q E
noncomputable def kQ {β γ:Type} (Q:γ->Sto->Prop) (c:β->γ) (M:Sto) (x:β):Prop:=Q (c x) M
noncomputable def kB2 (op:Bo) (x:D) (Q:D->Sto->Prop) (E:Str->Sto->Prop) (y:D) (M:Sto):Prop:=wO (op x y M) Q E
noncomputable def kB1 (op:Bo) (g:Ev) (ρ:Ro) (Q:D->Sto->Prop) (E:Str->Sto->Prop) (x:D) (M:Sto):Prop:=wO (g ρ M) (kB2 op x Q E) E
theorem Zo4 {op:Bo}:wO (e2 op f g ρ M) Q E=wO (f ρ M) (kB1 op g ρ Q E) E:=ZlR
theorem y_c:wO (eC d ρ M) Q E=Q d M:=rfl
theorem y_v:wO (Zh k ρ M) Q E=wV ρ[k]? (kQ Q id M):=ZoP
theorem Zkf {F:List D->Sto->Out D}:wO (Zm F fs ρ M) Q E=wO (fs ρ M) (kU F Q E) E:=Zhz
noncomputable def kA2 (x:D) (Q:List D->Sto->Prop) (xs:List D) (M:Sto):Prop:=Q (x :: xs) M
noncomputable def kA1 (fs:Av) (ρ:Ro) (Q:List D->Sto->Prop) (E:Str->Sto->Prop) (x:D) (M:Sto):Prop:=wO (fs ρ M) (kA2 x Q) E
theorem Zmm:wO (aNil ρ M) QL E=QL [] M:=rfl
theorem Zkg:wO (Zc f fs ρ M) QL E=wO (f ρ M) (kA1 fs ρ QL E) E:=ZhA
noncomputable def kTu (Q:D->Sto->Prop) (xs:List D) (M:Sto):Prop:=xs.length<=1000/\Q (.tup xs) M
noncomputable def kLs (Q:D->Sto->Prop) (xs:List D) (M:Sto):Prop:=xs.length<=1000/\Q (.ref M.length) (M ++ [.lst xs])
theorem Zmn:wO (Za3 fs ρ M) Q E=wO (fs ρ M) (kTu Q) E:=ZjB
theorem Zmo:wO (Ze5 fs ρ M) Q E=wO (fs ρ M) (kLs Q) E:=ZjC
noncomputable def Zny (x:D) (M:Sto):Out D:=match x with | .int i=> .ok (.int (-i)) M | _=> .bad
theorem Zmp:wO (Zib f ρ M) Q E=wO (f ρ M) (kU Zny Q E) E:=by unfold Zib;exact Zj
theorem Zkh:wO (Zny (.int i) M) Q E=Q (.int (-i)) M:=rfl
noncomputable def Zmq (T:String) (x:D) (M:Sto):Out D:=match Zad M x with | some t=> .ok (.bl (Za6 t T)) M | none=> .bad
theorem Zmr {T:String}:wO (Zk7 T f ρ M) Q E=wO (f ρ M) (kU (Zmq T) Q E) E:=by unfold Zk7;exact Zj
noncomputable def kTy (T:String) (Q:D->Sto->Prop) (M:Sto) (t:String):Prop:=Q (.bl (Za6 t T)) M
theorem Zki {T:String}:wO (Zmq T x M) Q E=wG (Zad M x) (kTy T Q M):=by unfold Zmq;cases Zad M x<;>rfl
noncomputable def tC (b:Bool):Tv:=fun _ M=> .ok b M
noncomputable def BrO {β:Type} (k:Bool) (f g:Ro->Sto->Out β) (ρ:Ro) (M:Sto) (Q:β->Sto->Prop) (E:Str->Sto->Prop):Prop:=wO ((if k=true then f else g) ρ M) Q E
theorem Zo5 {β:Type} {fO gO:Ro->Sto->Out β} {QO:β->Sto->Prop}:BrO true fO gO ρ M QO E=wO (fO ρ M) QO E:=rfl
theorem Zo6 {β:Type} {fO gO:Ro->Sto->Out β} {QO:β->Sto->Prop}:BrO false fO gO ρ M QO E=wO (gO ρ M) QO E:=rfl
theorem brO {β:Type} {fO gO:Ro->Sto->Out β} {QO:β->Sto->Prop} {p:Prop} [Decidable p] (h1:p->wO (fO ρ M) QO E) (h2: ¬ p->wO (gO ρ M) QO E):BrO (decide p) fO gO ρ M QO E:=by
 by_cases h:p
 ·rw[decide_eq_true h];exact h1 h
 ·rw[decide_eq_false h];exact h2 h
noncomputable def kIf (f g:Ev) (ρ:Ro) (Q:D->Sto->Prop) (E:Str->Sto->Prop) (k:Bool) (M:Sto):Prop:=BrO k f g ρ M Q E
theorem Zo7:wO (eIf t f g ρ M) Q E=wO (t ρ M) (kIf f g ρ Q E) E:=by unfold eIf;rw[Zj];congr 1;funext k M1;cases k<;>rfl
noncomputable def Znz (g:Ev) (ρ:Ro) (x:D) (M:Sto):Out D:=match x with | .bl k=>if k=true then g ρ M else .ok (.bl false) M | _=> .bad
noncomputable def oOr (g:Ev) (ρ:Ro) (x:D) (M:Sto):Out D:=match x with | .bl k=>if k=true then .ok (.bl true) M else g ρ M | _=> .bad
noncomputable def ZnA (x:D) (M:Sto):Out D:=match x with | .bl k=> .ok (.bl (!k)) M | _=> .bad
noncomputable def oTv (x:D) (M:Sto):Out Bool:=match x with | .bl k=> .ok k M | _=> .bad
theorem Zms:wO (Zcz f g ρ M) Q E=wO (f ρ M) (kU (Znz g ρ) Q E) E:=by unfold Zcz;exact Zj
theorem Zo8:wO (Znl f g ρ M) Q E=wO (f ρ M) (kU (oOr g ρ) Q E) E:=by unfold Znl;exact Zj
theorem Zmt:wO (ZiT f ρ M) Q E=wO (f ρ M) (kU ZnA Q E) E:=by unfold ZiT;exact Zj
theorem Zkj:wO (Znz g ρ (.bl b) M) Q E=BrO b g (eC (.bl false)) ρ M Q E:=by cases b<;>rfl
theorem Zmu:wO (oOr g ρ (.bl b) M) Q E=BrO b (eC (.bl true)) g ρ M Q E:=by cases b<;>rfl
theorem Zkk:wO (ZnA (.bl b) M) Q E=Q (.bl (!b)) M:=rfl
theorem Zo9:wO (tv f ρ M) QB E=wO (f ρ M) (kU oTv QB E) E:=by unfold tv;exact Zj
theorem Zmv:wO (oTv (.bl b) M) QB E=QB b M:=rfl
noncomputable def kTA (u:Tv) (ρ:Ro) (Q:Bool->Sto->Prop) (E:Str->Sto->Prop) (k:Bool) (M:Sto):Prop:=BrO k u (tC false) ρ M Q E
noncomputable def kTO (u:Tv) (ρ:Ro) (Q:Bool->Sto->Prop) (E:Str->Sto->Prop) (k:Bool) (M:Sto):Prop:=BrO k (tC true) u ρ M Q E
noncomputable def kTN (Q:Bool->Sto->Prop) (k:Bool) (M:Sto):Prop:=Q (!k) M
theorem Zpa:wO (tC b ρ M) QB E=QB b M:=rfl
theorem Zkl:wO (Zed t u ρ M) QB E=wO (t ρ M) (kTA u ρ QB E) E:=by unfold Zed;rw[Zj];congr 1;funext k M1;cases k<;>rfl
theorem Zmw:wO (Zk5 t u ρ M) QB E=wO (t ρ M) (kTO u ρ QB E) E:=by unfold Zk5;rw[Zj];congr 1;funext k M1;cases k<;>rfl
theorem Zkm:wO (Zdn t ρ M) QB E=wO (t ρ M) (kTN QB) E:=ZjD
noncomputable def kSq (b:Sv) (N:Ro->Sto->Prop) (R:D->Sto->Prop) (B C:Ro->Sto->Prop) (E:Str->Sto->Prop) (ρ:Ro) (M:Sto):Prop:=wS (b ρ M) N R B C E
theorem Zmx:wS (Z4 a bd ρ M) N R B C E=wS (a ρ M) (kSq bd N R B C E) R B C E:=ZjE
theorem Zkn:wS (sNil ρ M) N R B C E=N ρ M:=rfl
theorem Zmy:wS (ZoA ρ M) N R B C E=B ρ M:=rfl
theorem Zmz:wS (ZoB ρ M) N R B C E=C ρ M:=rfl
theorem ZmA:wS (Zbj f ρ M) N R B C E=wO (f ρ M) R E:=ZjF
theorem Zko:wS (ZlD ρ M) N R B C E=R .non M:=rfl
noncomputable def kDr (ρ:Ro) (N:Ro->Sto->Prop) (d:D) (M:Sto):Prop:=N ρ M
theorem Zkp:wS (Zdp f ρ M) N R B C E=wO (f ρ M) (kDr ρ N) E:=ZhB
noncomputable def BrS (k:Bool) (a b:Sv) (ρ:Ro) (M:Sto) (N:Ro->Sto->Prop) (R:D->Sto->Prop) (B C:Ro->Sto->Prop) (E:Str->Sto->Prop):Prop:=wS ((if k=true then a else b) ρ M) N R B C E
theorem Zpb:BrS true a bd ρ M N R B C E=wS (a ρ M) N R B C E:=rfl
theorem Zpc:BrS false a bd ρ M N R B C E=wS (bd ρ M) N R B C E:=rfl
theorem brS {p:Prop} [Decidable p] (h1:p->wS (a ρ M) N R B C E) (h2: ¬ p->wS (bd ρ M) N R B C E):BrS (decide p) a bd ρ M N R B C E:=by
 by_cases h:p
 ·rw[decide_eq_true h];exact h1 h
 ·rw[decide_eq_false h];exact h2 h
theorem Zpd (h1:b=true->wS (a ρ M) N R B C E) (h2:b=false->wS (bd ρ M) N R B C E):BrS b a bd ρ M N R B C E:=by
 cases b
 ·exact h2 rfl
 ·exact h1 rfl
theorem ZnB (P:Ro->Sto->Prop) (h:BrS b a bd ρ M P R B C E) (hn: ∀ ρ M,P ρ M->N ρ M):BrS b a bd ρ M N R B C E:=by
 cases b
 ·exact ZeN h hn (fun _ _ z=>z) (fun _ _ z=>z) (fun _ _ z=>z) (fun _ _ z=>z)
 ·exact ZeN h hn (fun _ _ z=>z) (fun _ _ z=>z) (fun _ _ z=>z) (fun _ _ z=>z)
noncomputable def kSi (a b:Sv) (ρ:Ro) (N:Ro->Sto->Prop) (R:D->Sto->Prop) (B C:Ro->Sto->Prop) (E:Str->Sto->Prop) (k:Bool) (M:Sto):Prop:=BrS k a b ρ M N R B C E
theorem ZmB:wS (sIf t a bd ρ M) N R B C E=wO (t ρ M) (kSi a bd ρ N R B C E) E:=by unfold sIf;rw[ZI];congr 1;funext k M1;cases k<;>rfl
noncomputable def kAs (i:Nat) (ρ:Ro) (N:Ro->Sto->Prop) (d:D) (M:Sto):Prop:=N (ρ.set i (some d)) M
theorem ZmC:wS (ZaG (gNm k) f ρ M) N R B C E=wO (f ρ M) (kAs k ρ N) E:=ZjG
noncomputable def kAt (gs:Tgs) (ρ:Ro) (N:Ro->Sto->Prop) (d:D) (M:Sto):Prop:=wG (gTp gs d ρ) (kQ N id M)
theorem Zkq {gs:Tgs}:wS (ZaG (gTp gs) f ρ M) N R B C E=wO (f ρ M) (kAt gs ρ N) E:=ZhC
noncomputable def ZnC (i j:Nat) (ρ:Ro) (N:Ro->Sto->Prop) (M:Sto) (v w:D):Prop:=N ((ρ.set i (some v)).set j (some w)) M
noncomputable def kPa (i j:Nat) (ρ:Ro) (N:Ro->Sto->Prop) (ds:List D) (M:Sto):Prop:=w2 ds (ZnC i j ρ N M)
theorem ZmD:wS (Zdq k m fs ρ M) N R B C E=wO (fs ρ M) (kPa k m ρ N) E:=ZjH
noncomputable def ZnD (n:Nat) (d:D) (xs:List D) (ρ:Ro) (N:Ro->Sto->Prop) (M:Sto) (j:Nat):Prop:=N ρ (M.set n (.lst (xs.set j d)))
noncomputable def ZnE (n:Nat) (k:Int) (d:D) (ρ:Ro) (N:Ro->Sto->Prop) (M:Sto) (xs:List D):Prop:=wG (ixN xs.length k) (ZnD n d xs ρ N M)
noncomputable def ZnF (n:Nat) (d:D) (ρ:Ro) (N:Ro->Sto->Prop) (M:Sto) (k:Int):Prop:=wL M[n]? (ZnE n k d ρ N M)
noncomputable def ZnG (i:D) (d:D) (ρ:Ro) (N:Ro->Sto->Prop) (M:Sto) (n:Nat):Prop:=wI i (ZnF n d ρ N M)
noncomputable def ZnH (o:D) (d:D) (ρ:Ro) (N:Ro->Sto->Prop) (i:D) (M:Sto):Prop:=wR o (ZnG i d ρ N M)
noncomputable def ZnI (fi:Ev) (d:D) (ρ:Ro) (N:Ro->Sto->Prop) (E:Str->Sto->Prop) (o:D) (M:Sto):Prop:=wO (fi ρ M) (ZnH o d ρ N) E
noncomputable def kPu (fo fi:Ev) (ρ:Ro) (N:Ro->Sto->Prop) (E:Str->Sto->Prop) (d:D) (M:Sto):Prop:=wO (fo ρ M) (ZnI fi d ρ N E) E
theorem ZmE {fo fi:Ev}:wS (Zic fo fi f ρ M) N R B C E=wO (f ρ M) (kPu fo fi ρ N E) E:=ZjI
noncomputable def kRa (c:Str) (E:Str->Sto->Prop) (ds:List D) (M:Sto):Prop:=ds.length<=1000/\E c M
theorem ZhR {c:Str}:wS (Zb3 c fs ρ M) N R B C E=wO (fs ρ M) (kRa c E) E:=ZfH
noncomputable def ZnJ (tg:Tg) (bd:Sv) (ρ:Ro) (N:Ro->Sto->Prop) (R:D->Sto->Prop) (B C:Ro->Sto->Prop) (E:Str->Sto->Prop) (M:Sto) (j:Int):Prop:=(-(2 ^ 62)<=j/\j < 2 ^ 62)/\wS (ZaB tg bd (ZaI 0 j.toNat) ρ M) N R B C E
noncomputable def ZnK (tg:Tg) (bd:Sv) (ρ:Ro) (N:Ro->Sto->Prop) (R:D->Sto->Prop) (B C:Ro->Sto->Prop) (E:Str->Sto->Prop) (M:Sto) (d:D):Prop:=wI d (ZnJ tg bd ρ N R B C E M)
noncomputable def kR1 (tg:Tg) (bd:Sv) (ρ:Ro) (N:Ro->Sto->Prop) (R:D->Sto->Prop) (B C:Ro->Sto->Prop) (E:Str->Sto->Prop) (ds:List D) (M:Sto):Prop:=w1 ds (ZnK tg bd ρ N R B C E M)
theorem Zkr:wS (ZbW tg fs bd ρ M) N R B C E=wO (fs ρ M) (kR1 tg bd ρ N R B C E) E:=ZhD
noncomputable def ZnL (tg:Tg) (bd:Sv) (ρ:Ro) (N:Ro->Sto->Prop) (R:D->Sto->Prop) (B C:Ro->Sto->Prop) (E:Str->Sto->Prop) (M:Sto) (i:Int) (j:Int):Prop:=(-(2 ^ 62)<=i/\i < 2 ^ 62/\ -(2 ^ 62)<=j/\j < 2 ^ 62)/\wS (ZaB tg bd (ZaI i (j - i).toNat) ρ M) N R B C E
noncomputable def ZnM (tg:Tg) (bd:Sv) (ρ:Ro) (N:Ro->Sto->Prop) (R:D->Sto->Prop) (B C:Ro->Sto->Prop) (E:Str->Sto->Prop) (M:Sto) (y:D) (i:Int):Prop:=wI y (ZnL tg bd ρ N R B C E M i)
noncomputable def ZnN (tg:Tg) (bd:Sv) (ρ:Ro) (N:Ro->Sto->Prop) (R:D->Sto->Prop) (B C:Ro->Sto->Prop) (E:Str->Sto->Prop) (M:Sto) (x y:D):Prop:=wI x (ZnM tg bd ρ N R B C E M y)
noncomputable def kR2 (tg:Tg) (bd:Sv) (ρ:Ro) (N:Ro->Sto->Prop) (R:D->Sto->Prop) (B C:Ro->Sto->Prop) (E:Str->Sto->Prop) (ds:List D) (M:Sto):Prop:=w2 ds (ZnN tg bd ρ N R B C E M)
theorem Zks:wS (Zbo tg fs bd ρ M) N R B C E=wO (fs ρ M) (kR2 tg bd ρ N R B C E) E:=ZhP
noncomputable def kFo (tg:Tg) (bd:Sv) (ρ:Ro) (N:Ro->Sto->Prop) (R:D->Sto->Prop) (B C:Ro->Sto->Prop) (E:Str->Sto->Prop) (d:D) (M:Sto):Prop:=wS (Zgg tg bd d ρ M) N R B C E
theorem ZmF:wS (Zk8 tg f bd ρ M) N R B C E=wO (f ρ M) (kFo tg bd ρ N R B C E) E:=ZjJ
theorem Zkt:wS (Zgg tg bd (.tup xs) ρ M) N R B C E=wS (ZaB tg bd xs ρ M) N R B C E:=rfl
theorem Zku:wS (Zgg tg bd (.rol xs) ρ M) N R B C E=wS (ZaB tg bd xs ρ M) N R B C E:=rfl
noncomputable def kFs (tg:Tg) (bd:Sv) (ρ:Ro) (N:Ro->Sto->Prop) (R:D->Sto->Prop) (B C:Ro->Sto->Prop) (E:Str->Sto->Prop) (src:Src) (M:Sto):Prop:=wS (Zdt tg bd src (cnt src M) 0 ρ M) N R B C E
theorem Zkv {fi:Ro->Sto->Out Src}:wS (ZfC tg fi bd ρ M) N R B C E=wO (fi ρ M) (kFs tg bd ρ N R B C E) E:=ZhG
noncomputable def hT (cs:List Str) (gh:Sv) (i:Nat) (ρ:Ro) (c:Str) (M:Sto):Fl:=if cs.contains c=true then (match gh ((List.replicate ρ.length none).set i (some (.err c []))) M with | .ret d M2=> .ret d M2 | .nx _ M2=> .nx (List.replicate ρ.length none) M2 | _=> .bad) else .bad
noncomputable def kTr (cs:List Str) (gh:Sv) (i:Nat) (ρ:Ro) (N:Ro->Sto->Prop) (R:D->Sto->Prop) (B C:Ro->Sto->Prop) (E:Str->Sto->Prop) (c:Str) (M:Sto):Prop:=cs.contains c=true/\wS (gh ((List.replicate ρ.length none).set i (some (.err c []))) M) (fun _ M2=>N (List.replicate ρ.length none) M2) R (fun _ _=>False) (fun _ _=>False) (fun _ _=>False)
theorem ZmG {cs:List Str} {gh:Sv}:wS (Znq a cs k gh ρ M) N R B C E=wS (a ρ M) N R B C (kTr cs gh k ρ N R B C E):=by
 unfold Znq
 cases e:a ρ M<;>try rfl
 rename_i c M1
 show wS (if cs.contains c=true then _ else _) N R B C E=kTr cs gh k ρ N R B C E c M1
 unfold kTr
 by_cases h:cs.contains c=true
 ·rw[if_pos h]
  simp only[h,true_and]
  cases gh ((List.replicate ρ.length none).set k (some (.err c []))) M1<;>rfl
 ·rw[if_neg h]
  simp only[h,Bool.false_eq_true,false_and]
  rfl
noncomputable def Zpe (Q:D->Sto->Prop) (M1:Sto) (u:Unit) (M:Sto):Prop:=Q (.ref M1.length) M
noncomputable def kCo (tg:Tg) (c:Tv) (f:Ev) (k:Nat) (fr:List Nat) (ρ:Ro) (Q:D->Sto->Prop) (src:Src) (M:Sto):Prop:=wO (ZbI src tg c f M.length (cnt src M) 0 (roB k fr ρ) (M ++ [.lst []])) (Zpe Q M) (fun _ _=>False)
theorem Zkw {fi:Ro->Sto->Out Src} {fr:List Nat}:wO (Zdr fi k fr tg t f ρ M) Q E=wO (fi ρ M) (kCo tg t f k fr ρ Q) E:=ZhH
noncomputable def ZnO (QS:Src->Sto->Prop) (M:Sto) (j:Int):Prop:=(-(2 ^ 62)<=j/\j < 2 ^ 62)/\QS (.pur (ZaI 0 j.toNat)) M
noncomputable def ZnP (QS:Src->Sto->Prop) (M:Sto) (d:D):Prop:=wI d (ZnO QS M)
noncomputable def kS1 (QS:Src->Sto->Prop) (ds:List D) (M:Sto):Prop:=w1 ds (ZnP QS M)
theorem Zpf:wO (iR1 fs ρ M) QS E=wO (fs ρ M) (kS1 QS) E:=ZoZ
noncomputable def ZnQ (QS:Src->Sto->Prop) (M:Sto) (i:Int) (j:Int):Prop:=(-(2 ^ 62)<=i/\i < 2 ^ 62/\ -(2 ^ 62)<=j/\j < 2 ^ 62)/\QS (.pur (ZaI i (j - i).toNat)) M
noncomputable def ZnR (QS:Src->Sto->Prop) (M:Sto) (y:D) (i:Int):Prop:=wI y (ZnQ QS M i)
noncomputable def ZnS (QS:Src->Sto->Prop) (M:Sto) (x y:D):Prop:=wI x (ZnR QS M y)
noncomputable def kS2 (QS:Src->Sto->Prop) (ds:List D) (M:Sto):Prop:=w2 ds (ZnS QS M)
theorem Zpg:wO (iR2 fs ρ M) QS E=wO (fs ρ M) (kS2 QS) E:=Zo0
noncomputable def oSq (d:D) (M:Sto):Out Src:=match d with | .tup ds=> .ok (.pur ds) M | .rol ds=> .ok (.pur ds) M | .con ds=> .ok (.pur ds) M | .ref n=> .ok (.sto n) M | _=> .bad
theorem Zph:wO (iSq f ρ M) QS E=wO (f ρ M) (kU oSq QS E) E:=by unfold iSq;exact Zj
theorem ZmH:wO (oSq (.tup xs) M) QS E=QS (.pur xs) M:=rfl
theorem ZmI:wO (oSq (.rol xs) M) QS E=QS (.pur xs) M:=rfl
theorem ZmJ:wO (oSq (.ref n) M) QS E=QS (.sto n) M:=rfl
noncomputable def ZnT (QS:Src->Sto->Prop) (M:Sto) (d:D):Prop:=wR d (kQ QS .enu M)
noncomputable def kEn (QS:Src->Sto->Prop) (ds:List D) (M:Sto):Prop:=w1 ds (ZnT QS M)
theorem Zpi:wO (iEn fs ρ M) QS E=wO (fs ρ M) (kEn QS) E:=Zo1
noncomputable def ZnU (QS:Src->Sto->Prop) (M:Sto) (y:D) (n:Nat):Prop:=wR y (kQ QS (.zip n) M)
noncomputable def ZnV (QS:Src->Sto->Prop) (M:Sto) (x y:D):Prop:=wR x (ZnU QS M y)
noncomputable def kZp (QS:Src->Sto->Prop) (ds:List D) (M:Sto):Prop:=w2 ds (ZnV QS M)
theorem Zpj:wO (iZp fs ρ M) QS E=wO (fs ρ M) (kZp QS) E:=Zo2
noncomputable def ZnW (QS:Src->Sto->Prop) (n:Nat) (M:Sto) (xs:List D):Prop:=QS (.rev n xs.length) M
noncomputable def ZnX (QS:Src->Sto->Prop) (M:Sto) (n:Nat):Prop:=wL M[n]? (ZnW QS n M)
noncomputable def ZnY (QS:Src->Sto->Prop) (M:Sto) (d:D):Prop:=wR d (ZnX QS M)
noncomputable def kRv (QS:Src->Sto->Prop) (ds:List D) (M:Sto):Prop:=w1 ds (ZnY QS M)
theorem Zpk:wO (iRv fs ρ M) QS E=wO (fs ρ M) (kRv QS) E:=Zo3
noncomputable def Zkx (xs:List D) (M:Sto) (Q:D->Sto->Prop) (ys:List D):Prop:=xs.length + ys.length<=10000000/\Q (.ref M.length) (M ++ [.lst (xs ++ ys)])
noncomputable def ZnZ (m:Nat) (M:Sto) (Q:D->Sto->Prop) (xs:List D):Prop:=wL M[m]? (Zkx xs M Q)
theorem ZmK:wO (dAdd (.ref n) (.ref m) M) Q E=wL M[n]? (ZnZ m M Q):=ZlY
noncomputable def Zlb (i:Int) (M:Sto) (Q:D->Sto->Prop) (xs:List D):Prop:=((-9223372036854775808<=i/\i < 9223372036854775808)/\xs.length * i.toNat<=100000)/\Q (.ref M.length) (M ++ [.lst (List.replicate i.toNat xs).flatten])
theorem ZmL:wO (ZoG (.ref n) (.int i) M) Q E=wL M[n]? (Zlb i M Q):=by
 show wO (match M[n]? with | some (.lst xs)=>if (-9223372036854775808<=i/\i < 9223372036854775808)/\xs.length * i.toNat<=100000 then Out.ok (.ref M.length) (M ++ [.lst (List.replicate i.toNat xs).flatten]) else .bad | none=> .bad) Q E=_
 cases e1:M[n]? with
 |none=>rfl
 |some o=>
  cases o with
  |lst xs=>
   show wO (if (-9223372036854775808<=i/\i < 9223372036854775808)/\xs.length * i.toNat<=100000 then Out.ok (.ref M.length) (M ++ [.lst (List.replicate i.toNat xs).flatten]) else .bad) Q E=Zlb i M Q xs
   unfold Zlb
   by_cases h:(-9223372036854775808<=i/\i < 9223372036854775808)/\xs.length * i.toNat<=100000
   ·rw[if_pos h];simp only[eq_true h,true_and];rfl
   ·rw[if_neg h];simp only[eq_false h,false_and];rfl
noncomputable def kEq (Q:D->Sto->Prop) (M:Sto) (b:Bool):Prop:=Q (.bl b) M
noncomputable def kNe (Q:D->Sto->Prop) (M:Sto) (b:Bool):Prop:=Q (.bl (!b)) M
theorem Zpl:wO (dEq x y M) Q E=wG (eqF 12 M x y) (kEq Q M):=ZoU
theorem Zpm:wO (dNe x y M) Q E=wG (eqF 12 M x y) (kNe Q M):=ZoV
theorem Zpn:wO (dIs x y M) Q E=wG (isP x y) (kEq Q M):=ZoW
theorem ZmM:wO (Zga x y M) Q E=wG (isP x y) (kNe Q M):=ZlZ
theorem ZmN:wO (Znt x y M) Q E=wG (inE x y M) (kEq Q M):=by unfold Znt;cases inE x y M<;>rfl
theorem ZfT:wO (Zer x y M) Q E=wG (inE x y M) (kNe Q M):=by unfold Zer;cases inE x y M<;>rfl
theorem ZmO:wO (dIx (.tup xs) (.int i) M) Q E=wG (atI xs i) (kQ Q id M):=Zl0
theorem ZmP:wO (dIx (.rol xs) (.int i) M) Q E=wG (atI xs i) (kQ Q id M):=Zl1
noncomputable def kIx (i:Int) (Q:D->Sto->Prop) (M:Sto) (xs:List D):Prop:=wG (atI xs i) (kQ Q id M)
theorem ZmQ:wO (dIx (.ref n) (.int i) M) Q E=wL M[n]? (kIx i Q M):=Zl2
noncomputable def Zn0 (Q:D->Sto->Prop) (M:Sto) (xs:List D):Prop:=Q (.int xs.length) M
theorem Zky:wO (bLen [.ref n] M) Q E=wL M[n]? (Zn0 Q M):=ZjO
noncomputable def kLi (Q:D->Sto->Prop) (M:Sto) (xs:List D):Prop:=Q (.ref M.length) (M ++ [.lst xs])
theorem ZhS:wO (Zg8 [.ref n] M) Q E=wL M[n]? (kLi Q M):=ZhJ
noncomputable def Zn1 (Q:D->Sto->Prop) (M:Sto) (bs:List Bool):Prop:=Q (.bl (bs.all id)) M
noncomputable def kAl (Q:D->Sto->Prop) (M:Sto) (xs:List D):Prop:=wG (ZU xs) (Zn1 Q M)
theorem ZmR:wO (Znn [.ref n] M) Q E=wL M[n]? (kAl Q M):=Zl6
noncomputable def Zn2 (g:List Int->Option Int) (Q:D->Sto->Prop) (M:Sto) (ns:List Int):Prop:=wG (g ns) (kQ Q .int M)
noncomputable def Zn3 (g:List Int->Option Int) (Q:D->Sto->Prop) (M:Sto) (xs:List D):Prop:=wG (Zb4 xs) (Zn2 g Q M)
theorem Zkz {gi:List Int->Option Int}:wO (Zjg gi [.ref n] M) Q E=wL M[n]? (Zn3 gi Q M):=ZjT
noncomputable def kMt (g:Me) (fs:Av) (ρ:Ro) (Q:D->Sto->Prop) (E:Str->Sto->Prop) (x:D) (M:Sto):Prop:=Zhi x M=true/\wO (fs ρ M) (kU (g x) Q E) E
theorem Zpo {me:Me} {fo:Ev}:wO (Zgk me fo fs ρ M) Q E=wO (fo ρ M) (kMt me fs ρ Q E) E:=ZoX
noncomputable def Zn4 (n:Nat) (d:D) (Q:D->Sto->Prop) (M:Sto) (xs:List D):Prop:=xs.length < 10000000/\Q .non (M.set n (.lst (xs ++ [d])))
theorem ZmS:wO (mApp (.ref n) [d] M) Q E=wL M[n]? (Zn4 n d Q M):=Zl7
noncomputable def Zn5 (n:Nat) (Q:D->Sto->Prop) (M:Sto) (xs:List D):Prop:=Q .non (M.set n (.lst []))
theorem ZmT:wO (Znr (.ref n) [] M) Q E=wL M[n]? (Zn5 n Q M):=Zl8
noncomputable def ZkA (n:Nat) (xs:List D) (Q:D->Sto->Prop) (M:Sto) (ys:List D):Prop:=xs.length + ys.length<=10000000/\Q .non (M.set n (.lst (xs ++ ys)))
noncomputable def Zn6 (n m:Nat) (Q:D->Sto->Prop) (M:Sto) (xs:List D):Prop:=wL M[m]? (ZkA n xs Q M)
theorem ZmU:wO (Zns (.ref n) [.ref m] M) Q E=wL M[n]? (Zn6 n m Q M):=Zl9
noncomputable def ZhT (Q:D->Sto->Prop) (M:Sto) (bs:List Bool):Prop:=wG (bs.findIdx? id) (kQ Q (fun (j:Nat)=> .int j) M)
noncomputable def Zn7 (d:D) (Q:D->Sto->Prop) (M:Sto) (xs:List D):Prop:=wG (eqs M d xs) (ZhT Q M)
theorem ZmV:wO (ZoE (.ref n) [d] M) Q E=wL M[n]? (Zn7 d Q M):=by
 show wO (match M[n]? with | some (.lst xs)=>(match eqs M d xs with | some bs=>(match bs.findIdx? id with | some j=>Out.ok (.int (j:Nat)) M | none=> .bad) | none=> .bad) | none=> .bad) Q E=_
 cases e1:M[n]? with
 |none=>rfl
 |some o=>
  cases o with
  |lst xs=>
   show wO (match eqs M d xs with | some bs=>(match bs.findIdx? id with | some j=>Out.ok (.int (j:Nat)) M | none=> .bad) | none=> .bad) Q E=wG (eqs M d xs) (ZhT Q M)
   cases eqs M d xs with
   |none=>rfl
   |some bs=>
    show wO (match bs.findIdx? id with | some j=>Out.ok (.int (j:Nat)) M | none=> .bad) Q E=wG (bs.findIdx? id) _
    cases bs.findIdx? id<;>rfl
noncomputable def kCn (Q:D->Sto->Prop) (M:Sto) (bs:List Bool):Prop:=Q (.int (bs.countP id:Nat)) M
noncomputable def Zn8 (d:D) (Q:D->Sto->Prop) (M:Sto) (xs:List D):Prop:=wG (eqs M d xs) (kCn Q M)
theorem ZkB:wO (ZoF (.ref n) [d] M) Q E=wL M[n]? (Zn8 d Q M):=by
 show wO (match M[n]? with | some (.lst xs)=>(match eqs M d xs with | some bs=>Out.ok (.int (bs.countP id:Nat)) M | none=> .bad) | none=> .bad) Q E=_
 cases e1:M[n]? with
 |none=>rfl
 |some o=>
  cases o with
  |lst xs=>
   show wO (match eqs M d xs with | some bs=>Out.ok (.int (bs.countP id:Nat)) M | none=> .bad) Q E=wG (eqs M d xs) (kCn Q M)
   cases eqs M d xs<;>rfl
noncomputable def Zn9 (l u:Option Int) (Q:D->Sto->Prop) (M:Sto) (xs:List D):Prop:=Q (.ref M.length) (M ++ [.lst (ZdF xs l u)])
noncomputable def Zoa (x:D) (l:Option Int) (Q:D->Sto->Prop) (E:Str->Sto->Prop) (u:Option Int) (M:Sto):Prop:=wO (slR x l u M) Q E
noncomputable def Zob (x:D) (hi:Ro->Sto->Out (Option Int)) (ρ:Ro) (Q:D->Sto->Prop) (E:Str->Sto->Prop) (l:Option Int) (M:Sto):Prop:=wO (hi ρ M) (Zoa x l Q E) E
noncomputable def Zoc (lo hi:Ro->Sto->Out (Option Int)) (ρ:Ro) (Q:D->Sto->Prop) (E:Str->Sto->Prop) (x:D) (M:Sto):Prop:=wO (lo ρ M) (Zob x hi ρ Q E) E
theorem Zpp {lo hi:Ro->Sto->Out (Option Int)}:wO (eSl f lo hi ρ M) Q E=wO (f ρ M) (Zoc lo hi ρ Q E) E:=Zma
theorem ZmW {l u':Option Int}:wO (slR (.ref n) l u' M) Q E=wL M[n]? (Zn9 l u' Q M):=Zmb
theorem ZmX {QI:Option Int->Sto->Prop}:wO (oNo ρ M) QI E=QI none M:=rfl
noncomputable def Zod (Q:Option Int->Sto->Prop) (x:D) (M:Sto):Prop:=wI x (kQ Q some M)
theorem ZmY {QI:Option Int->Sto->Prop}:wO (oSo f ρ M) QI E=wO (f ρ M) (Zod QI) E:=Zmc
noncomputable def oRv (x:D) (M1:Sto):Out D:=match x with | .tup xs=> .ok (.tup xs.reverse) M1 | .ref n=>(match M1[n]? with | some (.lst xs)=> .ok (.ref M1.length) (M1 ++ [.lst xs.reverse]) | none=> .bad) | .rol xs=> .ok (.ref M1.length) (M1 ++ [.lst xs.reverse]) | _=> .bad
theorem Zpq:wO (eRv f ρ M) Q E=wO (f ρ M) (kU oRv Q E) E:=by unfold eRv;exact Zj
noncomputable def Zoe (Q:D->Sto->Prop) (M:Sto) (xs:List D):Prop:=Q (.ref M.length) (M ++ [.lst xs.reverse])
theorem ZmZ:wO (oRv (.ref n) M) Q E=wL M[n]? (Zoe Q M):=by show wO (match M[n]? with | some (.lst xs)=>Out.ok (.ref M.length) (M ++ [.lst xs.reverse]) | none=> .bad) Q E=_;cases M[n]? with | none=>rfl | some o=>cases o with | lst xs=>rfl
theorem Zm0:wO (oRv (.tup xs) M) Q E=Q (.tup xs.reverse) M:=rfl
noncomputable def Zof (tab:List (Str × Bool)) (x:D) (M:Sto):Out D:=match x with | .err c _=>(match tab.lookup c with | some b=> .ok (.bl b) M | none=> .bad) | _=> .bad
theorem Zm1 {tab:List (Str × Bool)}:wO (Znp tab f ρ M) Q E=wO (f ρ M) (kU (Zof tab) Q E) E:=by unfold Znp;exact Zj
theorem ZkC {tab:List (Str × Bool)} {c:Str}:wO (Zof tab (.err c xs) M) Q E=wG (tab.lookup c) (kEq Q M):=by show wO (match tab.lookup c with | some b=>Out.ok (.bl b) M | none=> .bad) Q E=_;cases tab.lookup c<;>rfl
noncomputable def kWh (bd:Sv) (ρ:Ro) (I:Ro->Sto->Prop) (N:Ro->Sto->Prop) (R:D->Sto->Prop) (B C:Ro->Sto->Prop) (E:Str->Sto->Prop) (k:Bool) (M:Sto):Prop:=Br k (wS (bd ρ M) I R N I E) (N ρ M)
theorem ZhU {c:Tv} (I:Nat->Ro->Sto->Prop) (st: ∀ n ρ M,I n ρ M->wO (c ρ M) (kWh bd ρ (fun ρ2 M2=> ∃ m,m < n/\I m ρ2 M2) N R B C E) E) (n:Nat) (ρ:Ro) (M:Sto) (h:I n ρ M):wS (sWh c bd ρ M) N R B C E:=ZfI I st n ρ M h
theorem ZkD {I:Ro->Sto->Prop} {p:Prop} [Decidable p] (h1: ¬ p->wS (bd ρ M) I R N I E) (h2:p->N ρ M):kWh bd ρ I N R B C E (!decide p) M:=brN h1 h2
theorem Zm2 {I:Ro->Sto->Prop} {p:Prop} [Decidable p] (h1:p->wS (bd ρ M) I R N I E) (h2: ¬ p->N ρ M):kWh bd ρ I N R B C E (decide p) M:=brD h1 h2
theorem Zpr {src:Src} {fr:List Nat} (Inv:Ro->Prop) (F:Nat->D) (hl:xs.length < 10000000) (hcnt:xs.length<=cnt src M) (h0:Inv (roB k fr ρ)) (hs: ∀ (L:Sto) (i:Nat),i<=xs.length->nxt src i (M ++ L)=some xs[i]?)
  (st: ∀ (i:Nat) (h:i < xs.length) (ρ:Ro) (L:Sto),Inv ρ->wG (tg xs[i] ρ) fun r=>Inv r/\wO (f r (M ++ L)) (fun y M2=>y=F i/\M2=M ++ L) (fun _ _=>False)) (hq:Q (.ref M.length) (M ++ [.lst ((List.range xs.length).map F)])):
  kCo tg (fun _ M=> .ok true M) f k fr ρ Q src M:=ZhQ (Q:=fun M2=>Q (.ref M.length) M2) Inv F hl hcnt h0 hs st hq
end
end DL
end
section
namespace DL
noncomputable abbrev Pt:=Int × Int
noncomputable def X (p q:Pt):Int:=p.1 * q.2 - p.2 * q.1
section
variable {rs:List Pt} {i j:Int} {k n:Nat} {p:Pt}
theorem Zda {α:Type} {l:List α} {n:Nat} {d:α} (h:n < l.length):l.getD n d=l[n]:=by simp[List.getElem?_eq_getElem h]
theorem ZeR {m:Nat} (h:m≠0):(i % m).toNat < m/\0<=i % m:=by
 have:=Int.emod_lt_of_pos i (show (0:Int) < m by omega)
 have:=Int.emod_nonneg i (show (m:Int)≠0 by omega)
 omega
theorem Zgw {f:Pt->Pt} (h:rs≠[]):cy (rs.map f) i=f (cy rs i):=by
 have hl:rs.length≠0:=by simpa using h
 unfold cy
 rw[List.length_map,Zda (by rw[List.length_map];exact (ZeR hl).1),Zda (ZeR hl).1,List.getElem_map]
noncomputable def cc (f:Pt->Pt->Nat):List Pt->Nat
 |a :: b :: r=>f a b + cc f (b :: r)
 |_=>0
noncomputable def cyc (f:Pt->Pt->Nat) (rs:List Pt):Nat:=cc f (rs ++ rs.take 1)
theorem Zgx {f:Pt->Pt->Nat} {g:Pt->Pt}: ∀ (L:List Pt),cc f (L.map g)=cc (fun a b=>f (g a) (g b)) L
 | []=>rfl
 | [_]=>rfl
 |a :: b :: L=>by
  have:=Zgx (f:=f) (g:=g) (b :: L)
  simp only[List.map_cons,cc] at this ⊢
  omega
theorem ZeS {f:Pt->Pt->Nat} {g:Pt->Pt} (L:List Pt):cyc f (L.map g)=cyc (fun a b=>f (g a) (g b)) L:=by
 unfold cyc
 rw[<- List.map_take,<- List.map_append,Zgx]
noncomputable def in1 (w a b:Pt):Nat:=if 0<=X a w/\0 < X w b then 1 else 0
noncomputable def in2 (w a b:Pt):Nat:=if 0 < X a w/\0<=X w b then 1 else 0
noncomputable def Fan (rs:List Pt):Prop:= ∀ w:Pt,w≠(0,0)->cyc (in1 w) rs=1/\cyc (in2 w) rs=1
theorem Zlc {p q:Pt}:X p q=0 - X q p:=by unfold X;grind
theorem ZkE {f:Pt->Pt} {s:Int} (hs:s=1\/s= -1) (hf: ∀ p q,X (f p) (f q)=s * X p q) (w:Pt) (hw:w≠(0,0)): ∃ w':Pt,w'≠(0,0)/\ ∀ a,X (f a) w=s * X a w':=by
 have d:=hf (1,0) (0,1)
 have d1:X (f (1,0)) (f (0,1))=s:=by rw[d];simp[X]
 have lin: ∀ a,(f a).1=a.1 * (f (1,0)).1 + a.2 * (f (0,1)).1/\(f a).2=a.1 * (f (1,0)).2 + a.2 * (f (0,1)).2:=by
  intro a
  have h1:=hf a (1,0)
  have h2:=hf a (0,1)
  generalize f a=u at *
  generalize f (1,0)=e1 at *
  generalize f (0,1)=e2 at *
  unfold X at *
  rcases hs with rfl | rfl<;>constructor<;>grind
 refine ⟨(X w (f (0,1)) * s,X (f (1,0)) w * s),?_,?_⟩
 ·intro z
  apply hw
  have z1:=congrArg Prod.fst z
  have z2:=congrArg Prod.snd z
  simp only at z1 z2
  generalize f (1,0)=e1 at *
  generalize f (0,1)=e2 at *
  unfold X at *
  apply Prod.ext
  ·rcases hs with rfl | rfl<;>simp only[]<;>grind
  ·rcases hs with rfl | rfl<;>simp only[]<;>grind
 ·intro a
  obtain ⟨l1,l2⟩:=lin a
  unfold X
  rw[l1,l2]
  rcases hs with rfl | rfl<;>simp only[]<;>grind
theorem Fan.map (h:Fan rs) {f:Pt->Pt} (hf: ∀ p q,X (f p) (f q)=X p q):Fan (rs.map f):=fun w hw=>by
 obtain ⟨w',hw',e⟩:=ZkE (s:=1) (.inl rfl) (fun p q=>by rw[hf,Int.one_mul]) w hw
 have e2: ∀ a,X w (f a)=X w' a:=fun a=>by rw[Zlc,e,Zlc (p:=w')];omega
 have c1: ∀ a b,in1 w (f a) (f b)=in1 w' a b:=fun a b=>by unfold in1;rw[e,e2,Int.one_mul]
 have c2: ∀ a b,in2 w (f a) (f b)=in2 w' a b:=fun a b=>by unfold in2;rw[e,e2,Int.one_mul]
 rw[ZeS,ZeS,show (fun a b=>in1 w (f a) (f b))=in1 w' from funext fun a=>funext fun b=>c1 a b,show (fun a b=>in2 w (f a) (f b))=in2 w' from funext fun a=>funext fun b=>c2 a b]
 exact h w' hw'
structure Smo (rs:List Pt):Prop where
 len:3<=rs.length
 one: ∀ i:Int,X (cy rs i) (cy rs (i + 1))=1
 fan:Fan rs
theorem Smo.ne (h:Smo rs):rs≠[]:=by
 intro z
 have:=h.len
 rw[z] at this
 simp at this
theorem Smo.map (h:Smo rs) {f:Pt->Pt} (hf: ∀ p q,X (f p) (f q)=X p q):Smo (rs.map f):=by
 refine ⟨by have:=h.len;simp;omega,fun i=> ?_,h.fan.map hf⟩
 rw[Zgw h.ne,Zgw h.ne,hf]
 exact h.one i
end
end DL
end
section
namespace CC
open PySem PySem.Spec L2 DL
noncomputable def Zae:Sv:=(Zbj (e2 dSub (e2 dMul (e2 dIx (Zh 0) (eC (.int 0))) (e2 dIx (Zh 1) (eC (.int 1)))) (e2 dMul (e2 dIx (Zh 0) (eC (.int 1))) (e2 dIx (Zh 1) (eC (.int 0))))))
noncomputable def F_crossed:List D->Sto->Out D:=fnF Zae 2 0
end CC
end
open PySem PySem.Spec L2 DL
set_option hygiene false
set_option compiler.extract_closed false
local macro_rules | `(tactic| simp! [$ls,*]) => `(tactic| simp (implicitDefEqProofs := false) (disch := omega) only [Zo4, y_c, y_v, Zkf, Zmm, Zkg, Zmn, Zmo, Zmp, Zkh, Zmr, Zki, Zo5, Zo6, Zo7, Zms, Zo8, Zmt, Zkj, Zmu, Zkk, Zo9, Zmv, Zpa, Zkl, Zmw, Zkm, Zmx, Zkn, Zmy, Zmz, ZmA, Zko, Zkp, Zpb, Zpc, ZmB, ZmC, Zkq, ZmD, ZmE, ZhR, Zkr, Zks, ZmF, Zkt, Zku, Zkv, ZmG, Zkw, Zpf, Zpg, Zph, ZmH, ZmI, ZmJ, Zpi, Zpj, Zpk, ZmK, ZmL, Zpl, Zpm, Zpn, ZmM, ZmN, ZfT, ZmO, ZmP, ZmQ, Zky, ZhS, ZmR, Zkz, Zpo, ZmS, ZmT, ZmU, ZmV, ZkB, Zpp, ZmW, ZmX, ZmY, Zpq, ZmZ, Zm0, Zm1, ZkC, kU, kQ, kB2, kB1, kA2, kA1, kTu, kLs, kTy, kIf, kTA, kTO, kTN, kSq, kDr, kSi, kAs, kAt, ZnC, kPa, ZnD, ZnE, ZnF, ZnG, ZnH, ZnI, kPu, kRa, ZnJ, ZnK, kR1, ZnL, ZnM, ZnN, kR2, kFo, kFs, kTr, ZnO, ZnP, kS1, ZnQ, ZnR, ZnS, kS2, ZnT, kEn, ZnU, ZnV, kZp, ZnW, ZnX, ZnY, kRv, Zkx, ZnZ, Zlb, kEq, kNe, kIx, Zn0, kLi, Zn1, kAl, Zn2, Zn3, kMt, Zn4, Zn5, ZkA, Zn6, ZhT, Zn7, kCn, Zn8, Zn9, Zoa, Zob, Zoc, Zod, Zoe, ZfL, ZfM, ZhL, ZfP, ZfQ, ZfN, ZfO, ZhM, ZfS, ZfR, ZhO, ZhN, Zj2, decide_eq_true, decide_eq_false, wF1, wF2, wF3, wF4, Zo, ZjA, ZoJ, ZoK, ZoL, ZoM, ZoN, ZoO, ZoH, ZoI, ZlS, ZlT, ZlU, ZjM, ZlV, ZlW, ZlX, ZoQ, ZoR, ZoS, ZoT, ZjN, ZjP, ZjQ, Zl3, Zl4, Zl5, ZjR, ZjS, ZhK, ZjU, ZjV, ZfJ, Zmi, Zmj, Zmk, Zml, id, roB, at0, at1, at2, at3, gTp, gCs, gNl, gNm, List.set_cons_zero, List.set_cons_succ, List.getElem?_cons_zero, List.getElem?_cons_succ, List.length_cons, List.length_nil, List.length_append, List.length_map, List.map_cons, List.map_nil, List.cons_append, List.nil_append, List.append_assoc, List.append_nil, List.replicate_succ, List.replicate_zero, Option.join_some, Option.isSome_some, ZfK, Zmd, ZcH, Zgv, Zme, ZjW, ZjX, ZeQ, ZbD, Zmf, ZoY, Znx, ZjZ, Zmh, Zj0, Zj1, Zj3, Zj4, Zj5, Zj6, Zj7, Zj8, Zj9, Zka, Zkb, Zkc, Zkd, Zke, true_and, and_true, Bool.not_true, Bool.not_false, decide_true, decide_false, Nat.reduceAdd, Nat.reduceLeDiff, Nat.reduceLT, Nat.add_zero, Nat.zero_add, Int.reducePow, Int.reduceToNat, Int.reduceNeg, Int.reduceMod, Int.reduceDiv, Int.reduceAdd, Int.reduceSub, Int.reduceMul, Int.cast_ofNat_Int, Int.reduceEq, Int.reduceLT, Int.reduceLE, $ls,*])
set_option hygiene true
section
namespace CC
open PySem PySem.Spec L2 DL
section
variable {Q:D->Sto->Prop} {E:Str->Sto->Prop} {M:Sto} {a b c d i:Int} {n:Nat} {rs:List Pt}
theorem ZeT {rs:List Pt} {i:Nat} (h:i < (prs rs).length):(prs rs)[i]=pr (cy rs i).1 (cy rs i).2:=by
 have h':i < rs.length:=by rw[ZeQ] at h;exact h
 rw[Zcj h']
 simp[prs]
end
end CC
end
section
namespace DL
noncomputable def T (rs:List Pt) (i:Int):Int:=0 - X (cy rs (i - 1)) (cy rs (i + 1))
section
variable {rs:List Pt} {k:Nat} {p:Pt} {j:Int}
end
end DL
namespace CC
open PySem PySem.Spec L2 DL
section
variable {Q:D->Sto->Prop} {E:Str->Sto->Prop} {M:Sto} {a b c d i:Int} {n:Nat} {rs:List Pt}
end
end CC
end
section
namespace DL
section
variable {rs:List Pt} {k:Nat} {p:Pt} {j:Int}
end
end DL
end
section
namespace DL
noncomputable def nm (p:Pt):Int:=p.1 * p.1 + p.2 * p.2
end DL
namespace DL
section
variable {rs:List Pt} {k:Nat}
end
end DL
end
section
namespace CE
open PySem PySem.Spec L2 DL
end CE
end
section
namespace CE
open PySem PySem.Spec L2 DL
section
variable {Q:D->Sto->Prop} {E:Str->Sto->Prop} {M:Sto} {a b c d i:Int} {n:Nat} {rs:List Pt}
end
end CE
end
section
namespace CF
open PySem PySem.Spec L2 DL CC
end CF
end
section
namespace CF
open PySem PySem.Spec L2 DL
section
variable {Q:D->Sto->Prop} {E:Str->Sto->Prop} {M:Sto} {a b c d i:Int} {n:Nat} {rs:List Pt}
end
end CF
end
section
namespace DL
open PySem PySem.Spec L2 DL
section
variable {M:Sto}
end
end DL
end
section
namespace CB
open PySem PySem.Spec L2 DL
noncomputable def Zae:Sv:=(Zbj (e2 dSub (e2 dMul (e2 dIx (Zh 0) (eC (.int 0))) (e2 dIx (Zh 1) (eC (.int 1)))) (e2 dMul (e2 dIx (Zh 0) (eC (.int 1))) (e2 dIx (Zh 1) (eC (.int 0))))))
noncomputable def F_crossed:List D->Sto->Out D:=fnF Zae 2 0
noncomputable def Zau:Sv:=(Z4 (ZaG (gNm 5) (e2 dDiv (Zh 1) (Zh 2)))
 (Z4 (Zdq 1 2 (Zc (Zh 2) (Zc (e2 dSub (Zh 1) (e2 dMul (Zh 5) (Zh 2))) aNil)))
 (Zdq 3 4 (Zc (Zh 4) (Zc (Za3 (Zc (e2 dSub (e2 dIx (Zh 3) (eC (.int 0))) (e2 dMul (Zh 5) (e2 dIx (Zh 4) (eC (.int 0))))) (Zc (e2 dSub (e2 dIx (Zh 3) (eC (.int 1))) (e2 dMul (Zh 5) (e2 dIx (Zh 4) (eC (.int 1))))) aNil))) aNil)))))
noncomputable def Zbd:Sv:=(Z4 (ZaG (gTp (gCs (gNm 1) (gCs (gNm 2) gNl))) (Zh 0))
 (Z4 (ZaG (gTp (gCs (gNm 3) (gCs (gNm 4) gNl))) (Za3 (Zc (Za3 (Zc (eC (.int 0)) (Zc (eC (.int 1)) aNil))) (Zc (Za3 (Zc (Zib (eC (.int 1))) (Zc (eC (.int 0)) aNil))) aNil))))
 (Z4 (sWh (tv (e2 dNe (Zh 2) (eC (.int 0)))) Zau)
 (Zbj (Za3 (Zc (e2 dMul (Zh 1) (e2 dIx (Zh 3) (eC (.int 0)))) (Zc (e2 dMul (Zh 1) (e2 dIx (Zh 3) (eC (.int 1)))) aNil)))))))
noncomputable def F_partner:List D->Sto->Out D:=fnF Zbd 1 5
noncomputable def Zaa:Sv:=(Z4 (ZaG (gNm 2) (Zm F_partner (Zc (Zh 0) aNil)))
 (Z4 (ZaG (gNm 3) (e2 dDiv (Zm F_crossed (Zc (Zh 2) (Zc (Zh 1) aNil))) (Zm F_crossed (Zc (Zh 0) (Zc (Zh 1) aNil)))))
 (Zbj (Za3 (Zc (e2 dSub (e2 dIx (Zh 2) (eC (.int 0))) (e2 dMul (Zh 3) (e2 dIx (Zh 0) (eC (.int 0))))) (Zc (e2 dSub (e2 dIx (Zh 2) (eC (.int 1))) (e2 dMul (Zh 3) (e2 dIx (Zh 0) (eC (.int 1))))) aNil))))))
noncomputable def F_first_behind:List D->Sto->Out D:=fnF Zaa 2 2
noncomputable def Zak:Sv:=(Z4 (ZaG (gNm 3) (Zib (e2 dDiv (Zib (Zh 0)) (Zh 1))))
 (Z4 (Zdp (Zgk mApp (Zh 2) (Zc (Zh 3) aNil)))
 (Zdq 0 1 (Zc (Zh 1) (Zc (e2 dSub (e2 dMul (Zh 3) (Zh 1)) (Zh 0)) aNil)))))
noncomputable def ZaQ:Sv:=(Z4 (ZaG (gNm 2) (Ze5 aNil))
 (Z4 (sWh (tv (e2 dNe (Zh 1) (eC (.int 0)))) Zak)
 (Zbj (Zh 2))))
noncomputable def F_expanded:List D->Sto->Out D:=fnF ZaQ 2 2
noncomputable def ZhV:Sv:=(Z4 (sIf (tv (e2 dLe (Zm F_crossed (Zc (Zh 0) (Zc (Zh 1) aNil))) (eC (.int 0)))) (Zb3 (PySem.Str.ofString "NoWedge") (Zc (eC (.str (PySem.Str.ofString "the two rays of a wedge, crossed, come to more than 0"))) aNil)) sNil)
 (Zbj (Zm F_expanded (Zc (Zm F_crossed (Zc (Zh 0) (Zc (Zh 1) aNil))) (Zc (Zm F_crossed (Zc (Zm F_first_behind (Zc (Zh 0) (Zc (Zh 1) aNil))) (Zc (Zh 1) aNil))) aNil)))))
noncomputable def F_row:List D->Sto->Out D:=fnF ZhV 2 0
noncomputable def Zav:Sv:=(Z4 (Zdp (Zgk mApp (Zh 3) (Zc (Zh 5) aNil)))
 (Zdq 4 5 (Zc (Zh 5) (Zc (Za3 (Zc (e2 dSub (e2 dMul (Zh 6) (e2 dIx (Zh 5) (eC (.int 0)))) (e2 dIx (Zh 4) (eC (.int 0)))) (Zc (e2 dSub (e2 dMul (Zh 6) (e2 dIx (Zh 5) (eC (.int 1)))) (e2 dIx (Zh 4) (eC (.int 1)))) aNil))) aNil))))
noncomputable def Zbe:Sv:=(Z4 (ZaG (gNm 2) (Zm F_row (Zc (Zh 0) (Zc (Zh 1) aNil))))
 (Z4 (ZaG (gNm 3) (Ze5 aNil))
 (Z4 (Zdq 4 5 (Zc (Zh 0) (Zc (Zm F_first_behind (Zc (Zh 0) (Zc (Zh 1) aNil))) aNil)))
 (Z4 (Zk8 (gNm 6) (Zh 2) Zav)
 (Zbj (Zh 3))))))
noncomputable def F_between:List D->Sto->Out D:=fnF Zbe 2 5
noncomputable def ZaD:Sv:=(Z4 (ZaG (gNm 2) (eC (.int 0)))
 (Z4 (sIf (tv (e2 dLt (Zh 1) (Zm bLen (Zc (Zh 0) aNil)))) (ZaG (gNm 2) (e2 dIx (Zh 0) (Zh 1))) sNil)
 (Z4 (ZaG (gNm 3) (e2 dMod (Zh 2) (e2 dMul (e2 dPow (eC (.int 10)) (eC (.int 60))) (e2 dPow (eC (.int 10)) (eC (.int 30))))))
 (Zbj (Ze5 (Zc (e2 dMul (Zh 3) (Zm bInt (Zc (e2 dGe (Zh 3) (e2 dPow (eC (.int 10)) (eC (.int 18)))) aNil))) (Zc (e2 dAdd (e2 dAdd (e2 dMod (Zh 2) (eC (.int 2147483647))) (e2 dMul (eC (.int 7919)) (Zh 1))) (eC (.int 1))) aNil)))))))
noncomputable def F_law_purse:List D->Sto->Out D:=fnF ZaD 2 2
noncomputable def ZaR:Sv:=(Z4 (sIf (tv (e2 dGt (e2 dIx (Zh 0) (eC (.int 0))) (eC (.int 0)))) (Z4 (ZaG (gNm 2) (e2 dMod (e2 dIx (Zh 0) (eC (.int 0))) (Zh 1)))
 (Z4 (Zic (Zh 0) (eC (.int 0)) (e2 dDiv (e2 dIx (Zh 0) (eC (.int 0))) (Zh 1)))
 (Zbj (Zh 2)))) sNil)
 (Z4 (Zic (Zh 0) (eC (.int 1)) (e2 dMod (e2 dAdd (e2 dMul (e2 dIx (Zh 0) (eC (.int 1))) (eC (.int 48271))) (eC (.int 12345))) (eC (.int 2147483647))))
 (Zbj (e2 dMod (e2 dDiv (e2 dMod (e2 dMul (e2 dIx (Zh 0) (eC (.int 1))) (eC (.int 69621))) (eC (.int 2147483629))) (eC (.int 5))) (Zh 1)))))
noncomputable def F_law_take:List D->Sto->Out D:=fnF ZaR 2 1
noncomputable def ZaM:Sv:=(Zbj (e2 dSub (e2 dMul (e2 dIx (Zh 0) (eC (.int 0))) (e2 dIx (Zh 1) (eC (.int 1)))) (e2 dMul (e2 dIx (Zh 0) (eC (.int 1))) (e2 dIx (Zh 1) (eC (.int 0))))))
noncomputable def F_law_crossed:List D->Sto->Out D:=fnF ZaM 2 0
noncomputable def Zab:Sv:=(Zdq 1 2 (Zc (Zh 2) (Zc (e2 dMod (Zh 1) (Zh 2)) aNil)))
noncomputable def ZaE:Sv:=(Z4 (Zdq 1 2 (Zc (Zm bAbs (Zc (e2 dIx (Zh 0) (eC (.int 0))) aNil)) (Zc (Zm bAbs (Zc (e2 dIx (Zh 0) (eC (.int 1))) aNil)) aNil)))
 (Z4 (sWh (tv (e2 dGt (Zh 2) (eC (.int 0)))) Zab)
 (Z4 (sIf (tv (e2 dEq (Zh 1) (eC (.int 0)))) (Zbj (Za3 (Zc (eC (.int 1)) (Zc (eC (.int 0)) aNil)))) sNil)
 (Zbj (Za3 (Zc (e2 dDiv (e2 dIx (Zh 0) (eC (.int 0))) (Zh 1)) (Zc (e2 dDiv (e2 dIx (Zh 0) (eC (.int 1))) (Zh 1)) aNil)))))))
noncomputable def F_law_short:List D->Sto->Out D:=fnF ZaE 1 2
end CB
end
section
namespace DL
theorem ZeU {a b:Int} (h:b≠0):(a - a.fdiv b * b).natAbs < b.natAbs:=by
 have e:a - a.fdiv b * b=a.fmod b:=by rw[Int.fmod_def,Int.mul_comm]
 rw[e]
 by_cases c:0 < b
 ·have h1:=Int.fmod_lt_of_pos a c
  have h2:0<=a.fmod b:=by rw[Int.fmod_eq_emod_of_nonneg _ (by omega)];exact Int.emod_nonneg _ h
  omega
 ·have e2:a.fmod b= -((-a).fmod (-b)):=by rw[Int.neg_fmod_neg];omega
  have h1:=Int.fmod_lt_of_pos (-a) (show 0 < -b by omega)
  have h2:0<=(-a).fmod (-b):=by rw[Int.fmod_eq_emod_of_nonneg _ (by omega)];exact Int.emod_nonneg _ (by omega)
  omega
theorem ZhW {a b:Int} (h:b≠0):(a.fdiv b).natAbs<=a.natAbs + 1:=by
 have h1:=ZeU (a:=a) h
 generalize hr:a - a.fdiv b * b=r at h1
 have h2:(a.fdiv b * b).natAbs<=a.natAbs + r.natAbs:=by omega
 rw[Int.natAbs_mul] at h2
 apply Classical.byContradiction
 intro c
 have h3:(a.natAbs + 2) * b.natAbs<=(a.fdiv b).natAbs * b.natAbs:=Nat.mul_le_mul_right _ (by omega)
 have h4:a.natAbs * 1<=a.natAbs * b.natAbs:=Nat.mul_le_mul_left _ (by omega)
 rw[Nat.add_mul] at h3
 omega
noncomputable def hj (t b:Int):List Int:=if h:0 < b then -((-t) / b) :: hj b (-((-t) / b) * b - t) else []
termination_by b.toNat
decreasing_by
 have h1:=Int.emod_nonneg (-t) (show b≠0 by omega)
 have h2:=Int.emod_lt_of_pos (-t) h
 have h3:=Int.emod_add_mul_ediv (-t) b
 rw[Int.neg_mul,Int.mul_comm]
 omega
theorem Zaw {t b:Int} (h:0 < b):0<= -((-t) / b) * b - t/\ -((-t) / b) * b - t < b:=by
 have h1:=Int.emod_nonneg (-t) (show b≠0 by omega)
 have h2:=Int.emod_lt_of_pos (-t) h
 have h3:=Int.emod_add_mul_ediv (-t) b
 rw[Int.neg_mul,Int.mul_comm]
 omega
theorem ZeV {t b:Int} (h:0 < b) (ht:b < t):2<= -((-t) / b):=by
 have:=(Zaw (t:=t) h).1
 apply Classical.byContradiction
 intro c
 have: -((-t) / b) * b<=1 * b:=Int.mul_le_mul_of_nonneg_right (by omega) (by omega)
 omega
theorem ZkF: ∀ (n:Nat) (t b:Int),b.toNat=n->(hj t b).length<=n:=by
 intro n
 induction n using Nat.strongRecOn with
 |ind n ih=>
  intro t b hb
  unfold hj
  by_cases h:0 < b
  ·rw[dif_pos h]
   have:=Zaw (t:=t) h
   have:=ih (-((-t) / b) * b - t).toNat (by omega) b _ rfl
   simp only[List.length_cons]
   omega
  ·rw[dif_neg h]
   simp
end DL
namespace CB
open PySem PySem.Spec L2 DL
section
variable {Q:D->Sto->Prop} {E:Str->Sto->Prop} {M:Sto} {a b c d i:Int} {n m:Nat} {u v w:Pt}
noncomputable abbrev Bd (b:Int) (p:Pt):Prop:=(-b<=p.1/\p.1<=b)/\ -b<=p.2/\p.2<=b
theorem ZkG {j:Int} (h:j≠0/\ -(18446744073709551616) < j/\j < 18446744073709551616):wO (dDiv (.int i) (.int j) M) Q E=Q (.int (i.fdiv j)) M:=by
 have:Z8 j:=by
  refine ⟨h.1,?_⟩
  have:j.natAbs.log2 < 65:=(Nat.log2_lt (by omega)).mpr (by omega)
  omega
 show wO (if Z8 j then _ else _) Q E=_
 rw[if_pos this];rfl
theorem ZeW (hg:Int.gcd u.1 u.2=1) (hb:Bd 1000000 u) (q: ∀ w:Pt,X u w=1->Q (pr w.1 w.2) M):wO (F_partner [pr u.1 u.2] M) Q E:=by
 simp![F_partner,Zbd]
 refine ZhU (fun k ρ M'=>M'=M/\ ∃ (h l:Int) (f s:Pt) (x:Option D),ρ=[some (pr u.1 u.2),some (.int h),some (.int l),some (pr f.1 f.2),some (pr s.1 s.2),x]/\k=l.natAbs/\Int.gcd h l=1/\(-1000000<=h/\h<=1000000)/\(-1000000<=l/\l<=1000000)/\X u f=h/\X u s=l) ?_ u.2.natAbs _ _ ⟨rfl,u.1,u.2,(0,1),(-1,0),_,rfl,rfl,hg,hb.1,hb.2,by simp[X],by simp[X]⟩
 rintro k ρ M ⟨rfl,h,l,f,s,x,rfl,rfl,g,hh,hl,e1,e2⟩
 simp![Zo]
 refine ZkD (fun hl0=> ?_) (fun hl0=> ?_)
 ·have f1:=ZeU (a:=h) hl0
  have f2:=ZhW (a:=h) hl0
  simp![Zau,ZkG]
  refine ⟨(h - h.fdiv l * l).natAbs,f1,l,h - h.fdiv l * l,s,(f.1 - h.fdiv l * s.1,f.2 - h.fdiv l * s.2),_,rfl,rfl,?_,hl,by omega,e2,?_⟩
  ·rw[Int.gcd_sub_mul_right_right,Int.gcd_comm]
   exact g
  ·unfold X at *
   simp only
   grind
 ·subst hl0
  rw[Int.gcd_zero_right] at g
  simp![Zo]
  have:=q (h * f.1,h * f.2) (by
   have hh2:h * h=1:=by
    have:h=1\/h= -1:=by omega
    rcases this with z | z<;>rw[z]<;>rfl
   unfold X at *
   simp only
   grind)
  exact this
theorem Zax (h:Bd 1000000 u\/Bd 1000000 v):wO (F_crossed [pr u.1 u.2,pr v.1 v.2] M) Q E=Q (.int (X u v)) M:=by
 rcases h with h | h
 ·simp![F_crossed,Zae]
  rfl
 ·simp![F_crossed,Zae]
  rfl
structure Wg (u v:Pt):Prop where
 gu:Int.gcd u.1 u.2=1
 gv:Int.gcd v.1 v.2=1
 bu:Bd 1000 u
 bv:Bd 1000 v
 pos:0 < X u v
theorem Wg.le (h:Wg u v):X u v<=2000000:=by
 obtain ⟨_,_,⟨⟨a1,a2⟩,a3,a4⟩,⟨⟨b1,b2⟩,b3,b4⟩,_⟩:=h
 have m: ∀ x y:Int,-1000<=x->x<=1000-> -1000<=y->y<=1000->(x * y).natAbs<=1000 * 1000:=by
  intro x y _ _ _ _
  rw[Int.natAbs_mul]
  exact Nat.mul_le_mul (by omega) (by omega)
 have p1:=m u.1 v.2 a1 a2 b3 b4
 have p2:=m u.2 v.1 a3 a4 b1 b2
 unfold X
 omega
theorem ZaC (h:Wg u v) (q: ∀ w:Pt,X u w=1->0<=X w v->X w v < X u v->Q (pr w.1 w.2) M):wO (F_first_behind [pr u.1 u.2,pr v.1 v.2] M) Q E:=by
 have bu:Bd 1000000 u:=by have:=h.bu;unfold Bd at *;omega
 have bv:Bd 1000000 v:=by have:=h.bv;unfold Bd at *;omega
 have hp:=h.pos
 have hl:=h.le
 simp![F_first_behind,Zaa]
 refine ZeW h.gu bu fun w e=> ?_
 simp![Zax (u:=w) (v:=v) (.inr bv),Zax (u:=u) (v:=v) (.inr bv)]
 have m1:=Int.emod_nonneg (X w v) (show X u v≠0 by omega)
 have m2:=Int.emod_lt_of_pos (X w v) hp
 have m3:=Int.emod_add_mul_ediv (X w v) (X u v)
 generalize X w v / X u v=k at *
 have e3:X (w.1 - k * u.1,w.2 - k * u.2) v=X w v % X u v:=by
  have:X (w.1 - k * u.1,w.2 - k * u.2) v=X w v - X u v * k:=by unfold X;simp only;grind
  omega
 exact q (w.1 - k * u.1,w.2 - k * u.2) (by unfold X at *;simp only;grind) (by omega) (by omega)
structure Fb (u v w:Pt):Prop where
 one:X u w=1
 lo:0<=X w v
 hi:X w v < X u v
theorem Fb.uniq {w w':Pt} (h:Fb u v w) (k:Fb u v w'):w=w':=by
 obtain ⟨h1,a1,a2⟩:=h
 obtain ⟨h2,b1,b2⟩:=k
 have e1:w'.1=X w' w * u.1 + w.1/\w'.2=X w' w * u.2 + w.2:=by unfold X at *;constructor<;>grind
 have e2:X w' v=X w' w * X u v + X w v:=by
  have:X w' v=X (X w' w * u.1 + w.1,X w' w * u.2 + w.2) v:=by rw[<- e1.1,<- e1.2]
  rw[this]
  unfold X
  simp only
  grind
 generalize X w' w=k at *
 have k0:k=0:=by
  apply Classical.byContradiction
  intro c
  by_cases p:1<=k
  ·have:1 * X u v<=k * X u v:=Int.mul_le_mul_of_nonneg_right p (by omega)
   omega
  ·have:k * X u v<=(-1) * X u v:=Int.mul_le_mul_of_nonneg_right (by omega) (by omega)
   omega
 rw[k0] at e1
 apply Prod.ext<;>omega
theorem ZkH (h:Wg u v): ∃ w,Fb u v w:=by
 obtain ⟨d,M',_,w,hw⟩:=ZeM (ZaC (M:=[]) (Q:=fun _ _=> ∃ w,Fb u v w) h fun w a b c=>⟨w,a,b,c⟩)
 exact ⟨w,hw⟩
theorem ZkI (h:Wg u v) (hw:Fb u v w):wO (F_first_behind [pr u.1 u.2,pr v.1 v.2] M) Q E=Q (pr w.1 w.2) M:=by
 obtain ⟨d,M',e,e1,e2⟩:=ZeM (ZaC (M:=M) (Q:=fun d M'=>d=pr w.1 w.2/\M'=M) h fun w' a b c=>⟨by rw[hw.uniq ⟨a,b,c⟩],rfl⟩)
 rw[e,e1,e2]
 rfl
theorem Zdx {t b:Int} (hb:0<=b) (hl:b<=90000) (q:Q (.ref M.length) (M ++ [.lst (nts (hj t b))])):wO (F_expanded [.int t,.int b] M) Q E:=by
 simp![F_expanded,ZaQ]
 refine ZhU (fun k ρ M'=> ∃ (t' b':Int) (xs:List Int) (x:Option D),ρ=[some (.int t'),some (.int b'),some (.ref M.length),x]/\M'=M ++ [.lst (nts xs)]/\0<=b'/\b'<=90000/\k=b'.toNat/\xs ++ hj t' b'=hj t b/\xs.length + b'.toNat<=90000) ?_ b.toNat _ _ ⟨t,b,[],_,rfl,rfl,hb,hl,rfl,rfl,by simp;omega⟩
 rintro k ρ M' ⟨t',b',xs,x,rfl,rfl,h0,h1,rfl,e,hx⟩
 simp![Zo]
 refine ZkD (fun hl0=> ?_) (fun hl0=> ?_)
 ·have n1:=Zaw (t:=t') (show 0 < b' by omega)
  simp![Zak]
  refine ⟨by omega,(-(-t' / b') * b' - t').toNat,by omega,_,_,xs ++ [-(-t' / b')],_,rfl,rfl,n1.1,by omega,rfl,?_,by simp;omega⟩
  rw[<- e]
  conv=>rhs;rw[hj,dif_pos (show 0 < b' by omega)]
  simp
 ·subst hl0
  simp![Zo]
  have:hj t' 0=[]:=by rw[hj,dif_neg (by omega)]
  rw[this,List.append_nil] at e
  rw[e]
  exact q
theorem Zm3 (h:Wg u v) (hw:Fb u v w) (hl:X u v<=90000) (q:Q (.ref M.length) (M ++ [.lst (nts (hj (X u v) (X w v)))])):wO (F_row [pr u.1 u.2,pr v.1 v.2] M) Q E:=by
 have bv:Bd 1000000 v:=by have:=h.bv;unfold Bd at *;omega
 have hp:=h.pos
 simp![F_row,ZhV,Zax (u:=u) (v:=v) (.inr bv),Zax (u:=w) (v:=v) (.inr bv),ZkI h hw]
 exact Zdx hw.lo (by have:=hw.hi;omega) q
noncomputable def btw:Pt->Pt->List Int->List Pt
 |_,_,[]=>[]
 |a,r,k :: ks=>r :: btw r (k * r.1 - a.1,k * r.2 - a.2) ks
theorem ZfU: ∀ (n:Nat) (t b:Int),b.toNat=n->0<=b->b < t-> ∀ k∈hj t b,2<=k/\k<=t:=by
 intro n
 induction n using Nat.strongRecOn with
 |ind n ih=>
  intro t b hb h0 ht k hk
  unfold hj at hk
  by_cases h:0 < b
  ·rw[dif_pos h] at hk
   have nx:=Zaw (t:=t) h
   rcases List.mem_cons.mp hk with z | z
   ·rw[z]
    refine ⟨ZeV h ht,?_⟩
    apply Classical.byContradiction
    intro c
    have:(t + 1) * b<= -((-t) / b) * b:=Int.mul_le_mul_of_nonneg_right (by omega) (by omega)
    have:t * 1<=t * b:=Int.mul_le_mul_of_nonneg_left (by omega) (by omega)
    rw[Int.add_mul] at *
    omega
   ·have:=ih (-((-t) / b) * b - t).toNat (by omega) b _ rfl nx.1 nx.2 k z
    omega
  ·rw[dif_neg h] at hk
   simp at hk
theorem Zck (h:Wg u v) (hw:Fb u v w) (hl:X u v<=90000) (q:Q (.ref (M.length + 1)) (M ++ [.lst (nts (hj (X u v) (X w v))),.lst (prs (btw u w (hj (X u v) (X w v))))])):wO (F_between [pr u.1 u.2,pr v.1 v.2] M) Q E:=by
 simp![F_between,Zbe]
 refine Zm3 h hw hl ?_
 have sm:=ZfU _ (X u v) (X w v) rfl hw.lo hw.hi
 have ln:=ZkF _ (X u v) (X w v) rfl
 have hi:=hw.hi
 generalize hj (X u v) (X w v)=ks at *
 simp![ZkI h hw]
 refine ZhF (fun i ρ M'=> ∃ (a r:Pt) (pre suf:List Int) (dn:List Pt) (x:Option D),ρ=[some (pr u.1 u.2),some (pr v.1 v.2),some (.ref M.length),some (.ref (M.length + 1)),some (pr a.1 a.2),some (pr r.1 r.2),x]/\M'=M ++ [.lst (nts ks),.lst (prs dn)]/\ks=pre ++ suf/\pre.length=i/\btw u w ks=dn ++ btw a r suf/\dn.length=i) (n:=M.length) (xs:=nts ks) (by rw[ZfK];rfl) ⟨u,w,[],ks,[],_,rfl,rfl,rfl,rfl,rfl,rfl⟩ (fun i ρ M' ⟨_,_,_,_,_,_,_,e,_⟩=>by rw[e,ZfK];rfl) ?_ ?_
 ·rintro i ρ M' hi' ⟨a,r,pre,suf,dn,x,rfl,rfl,e1,e2,e3,e4⟩
  rw[ZbD] at hi'
  obtain ⟨k,suf,rfl⟩: ∃ k s,suf=k :: s:=by
   cases suf with
   |nil=>rw[e1] at hi';simp at hi';omega
   |cons k s=>exact ⟨k,s,rfl⟩
  have ek:(nts ks)[i]'(by rw[ZbD];exact hi')= .int k:=by
   subst e1 e2
   simp[nts]
  rw[ek]
  have hk:=sm k (by rw[e1];simp)
  simp![Zav]
  refine ⟨by omega,r,(k * r.1 - a.1,k * r.2 - a.2),pre ++ [k],suf,dn ++ [(r.1,r.2)],_,rfl,rfl,by rw[e1];simp,by simp;omega,?_,by simp;omega⟩
  rw[e3,btw]
  simp
 ·rintro ρ M' ⟨a,r,pre,suf,dn,x,rfl,rfl,e1,e2,e3,e4⟩
  have:suf=[]:=by
   have:=congrArg List.length e1
   rw[ZbD] at e2
   simp at this
   cases suf with
   |nil=>rfl
   |cons _ _=>simp at this;omega
  subst this
  rw[btw,List.append_nil] at e3
  simp![Zo]
  rw[<- e3]
  exact q
end
end CB
end
section
namespace CB
open PySem PySem.Spec L2 DL
section
variable {Q:D->Sto->Prop} {E:Str->Sto->Prop} {M:Sto} {a b c d i:Int} {n m:Nat} {u v w:Pt}
theorem ZeX {ns:List Int} {k:Nat} (hk:k < 1000) (q: ∀ a b:Int,0<=a->Q (.ref M.length) (M ++ [.lst [.int a,.int b]])):wO (F_law_purse [.rol (ns.map D.int),.int k] M) Q E:=by
 have big:Zy 1000000000000000000000000000000000000000000000000000000000000 1000000000000000000000000000000:=Zdo 300 300 (by decide +kernel) (by decide +kernel) (by decide) (by decide)
 simp![F_law_purse,ZaD]
 refine brS (fun h1=> ?_) (fun h1=> ?_)
 ·have h2:k < ns.length:=by simpa using h1
  simp![ZfF h2,Zc9 big]
  obtain ⟨l,hl,l0⟩: ∃ l:Int,ns[k] % 1000000000000000000000000000000000000000000000000000000000000000000000000000000000000000000=l/\0<=l:=⟨_,rfl,by omega⟩
  rw[hl]
  refine q _ _ ?_
  split<;>omega
 ·simp![Zc9 big]
  exact q _ _ (by omega)
theorem Zbr {t:Int} (hb:Bag n M) (ht:0 < t/\t < 18446744073709551616) (q: ∀ r M',0<=r->r < t->Gr n M M'->Q (.int r) M'):wO (F_law_take [.ref n,.int t] M) Q E:=by
 obtain ⟨a,b,ha,e⟩:=hb
 have hl:n < M.length:=Zan e
 have hs: ∀ x,(M.set n x)[n]?=some x:=fun x=>List.getElem?_set_self hl
 have gr: ∀ a' b',0<=a'->Gr n M (M.set n (.lst [.int a',.int b'])):=fun a' b' h=>⟨by simp,⟨a',b',h,hs _⟩,fun k hk _=>by rw[List.getElem?_set_ne (Ne.symm hk)]⟩
 have m1:=Int.emod_nonneg a (show t≠0 by omega)
 have m2:=Int.emod_lt_of_pos a ht.1
 simp![F_law_take,ZaR,e]
 refine brS (fun h1=> ?_) (fun h1=> ?_)
 ·simp![e,ix0]
  exact q _ _ m1 m2 (gr _ _ (Int.ediv_nonneg ha (by omega)))
 ·simp![e,ix1]
  exact q _ _ (Int.emod_nonneg _ (by omega)) (Int.emod_lt_of_pos _ ht.1) (gr _ _ ha)
theorem ZcI {x y B:Int} (hB:1<=B/\B<=1000) (hx: -B<=x/\x<=B) (hy: -B<=y/\y<=B) (q: ∀ w:Pt,Int.gcd w.1 w.2=1->Bd B w->Q (pr w.1 w.2) M):wO (F_law_short [pr x y] M) Q E:=by
 simp![F_law_short,ZaE]
 refine ZhU (fun k ρ M'=>M'=M/\ ∃ a b:Nat,ρ=[some (pr x y),some (.int a),some (.int b)]/\k=b/\Nat.gcd a b=Int.gcd x y/\a<=1000/\b<=1000) ?_ y.natAbs _ _ ⟨rfl,x.natAbs,y.natAbs,rfl,rfl,rfl,by omega,by omega⟩
 rintro k ρ M ⟨rfl,a,b,rfl,rfl,g,ha,hk'⟩
 simp![Zo]
 refine Zm2 (fun h=> ?_) (fun h=> ?_)
 ·simp![Zab]
  have hb:0 < k:=by omega
  have hm:=Nat.mod_lt a hb
  refine ⟨a % k,hm,k,a % k,by rw[Int.natCast_emod],rfl,?_,?_⟩
  ·rw[<- g,Nat.gcd_comm k,<- Nat.gcd_rec,Nat.gcd_comm]
  ·omega
 ·have k0:k=0:=by omega
  subst k0
  rw[Nat.gcd_zero_right] at g
  simp![Zo]
  refine brS (fun hz=> ?_) (fun hz=> ?_)
  ·simp![Zo]
   exact q (1,0) rfl ⟨by simp;omega,by simp;omega⟩
  ·simp![Zo]
   have b1:=Int.natAbs_ediv_le_natAbs x a
   have b2:=Int.natAbs_ediv_le_natAbs y a
   refine q (x / a,y / a) ?_ ⟨by simp only;omega,by simp only;omega⟩
   rw[g]
   exact Int.gcd_ediv_gcd_ediv_gcd (by omega)
theorem sq0 (x:Int):0<=x * x:=by
 by_cases c:0<=x
 ·exact Int.mul_nonneg c c
 ·have:=Int.mul_nonneg (show 0<= -x by omega) (show 0<= -x by omega)
  rw[Int.neg_mul_neg] at this
  exact this
theorem Zld (hu:Bd 200 u) (hv:Bd 200 v): -80000<=X u v/\X u v<=80000:=by
 obtain ⟨⟨a1,a2⟩,a3,a4⟩:=hu
 obtain ⟨⟨b1,b2⟩,b3,b4⟩:=hv
 have m: ∀ x y:Int,-200<=x->x<=200-> -200<=y->y<=200->(x * y).natAbs<=200 * 200:=by
  intro x y _ _ _ _
  rw[Int.natAbs_mul]
  exact Nat.mul_le_mul (by omega) (by omega)
 have p1:=m u.1 v.2 a1 a2 b3 b4
 have p2:=m u.2 v.1 a3 a4 b1 b2
 unfold X
 omega
theorem ZW (h:Bd 1000000 u\/Bd 1000000 v):wO (F_law_crossed [pr u.1 u.2,pr v.1 v.2] M) Q E=Q (.int (X u v)) M:=Zax h
noncomputable def Ch:List Pt->Prop
 |a :: b :: r=>X a b=1/\Ch (b :: r)
 |_=>True
theorem Zm4: ∀ (n:Nat) (t b:Int) (a r v:Pt),b.toNat=n->0<=b->b < t->X a r=1->X a v=t->X r v=b->Int.gcd v.1 v.2=1->Ch (a :: (btw a r (hj t b) ++ [v])):=by
 intro n
 induction n using Nat.strongRecOn with
 |ind n ih=>
  intro t b a r v hb h0 ht h1 h2 h3 gv
  unfold hj
  by_cases h:0 < b
  ·rw[dif_pos h]
   have nx:=Zaw (t:=t) h
   generalize hk: -((-t) / b)=k at *
   have q:=ih (k * b - t).toNat (by omega) b (k * b - t) r (k * r.1 - a.1,k * r.2 - a.2) v rfl nx.1 nx.2 (by unfold X at *;simp only;grind) h3 (by unfold X at *;simp only;grind) gv
   rw[btw]
   exact ⟨h1,q⟩
  ·rw[dif_neg h,btw]
   have b0:b=0:=by omega
   have e1:v.1=t * r.1/\v.2=t * r.2:=by unfold X at *;constructor<;>grind
   rw[e1.1,e1.2,Int.gcd_mul_left] at gv
   have t1:t.natAbs=1:=Nat.eq_one_of_mul_eq_one_right gv
   refine ⟨by rw[h2];omega,trivial⟩
theorem ZhX (h:Wg u v) (hw:Fb u v w):Ch (u :: (btw u w (hj (X u v) (X w v)) ++ [v])):=Zm4 _ _ _ u w v rfl hw.lo hw.hi hw.one rfl rfl h.gv
noncomputable def Tr (a b d:Pt):Prop:= ∃ k:Int,2<=k/\a.1 + d.1=k * b.1/\a.2 + d.2=k * b.2
noncomputable def Cv:List Pt->Prop
 |a :: b :: d :: r=>Tr a b d/\Cv (b :: d :: r)
 |_=>True
theorem Zgy: ∀ (n:Nat) (t b:Int) (a r v:Pt),b.toNat=n->0<=b->b < t->X a r=1->X a v=t->X r v=b->Int.gcd v.1 v.2=1->Cv (a :: (btw a r (hj t b) ++ [v]))/\ ∃ rest,btw a r (hj t b) ++ [v]=r :: rest:=by
 intro n
 induction n using Nat.strongRecOn with
 |ind n ih=>
  intro t b a r v hb h0 ht h1 h2 h3 gv
  unfold hj
  by_cases h:0 < b
  ·rw[dif_pos h]
   have nx:=Zaw (t:=t) h
   have k2:=ZeV h ht
   generalize hk: -((-t) / b)=k at *
   obtain ⟨q,rest,e⟩:=ih (k * b - t).toNat (by omega) b (k * b - t) r (k * r.1 - a.1,k * r.2 - a.2) v rfl nx.1 nx.2 (by unfold X at *;simp only;grind) h3 (by unfold X at *;simp only;grind) gv
   rw[btw]
   refine ⟨?_,_,rfl⟩
   show Cv (a :: r :: (btw r (k * r.1 - a.1,k * r.2 - a.2) (hj b (k * b - t)) ++ [v]))
   rw[e] at q ⊢
   exact ⟨⟨k,k2,by simp only;omega,by simp only;omega⟩,q⟩
  ·rw[dif_neg h,btw]
   have b0:b=0:=by omega
   have e1:v.1=t * r.1/\v.2=t * r.2:=by unfold X at *;constructor<;>grind
   have gv':=gv
   rw[e1.1,e1.2,Int.gcd_mul_left] at gv'
   have t1:t.natAbs=1:=Nat.eq_one_of_mul_eq_one_right gv'
   have tt:t=1:=by omega
   rw[tt] at e1
   have:v=r:=by apply Prod.ext<;>omega
   rw[this]
   exact ⟨trivial,[],rfl⟩
theorem ZfV: ∀ (L:List Pt) {a b d:Pt} {R:List Pt},Cv (L ++ a :: b :: d :: R)->Tr a b d
 | [],_,_,_,_,h=>h.1
 | [x],_,_,_,_,h=>ZfV [] h.2
 | [x,y],_,_,_,_,h=>ZfV [y] h.2
 |x :: y :: z :: L,_,_,_,_,h=>ZfV (y :: z :: L) h.2
theorem ZkJ: ∀ (l:List Pt),(∀ L a b d R,l=L ++ a :: b :: d :: R->Tr a b d)->Cv l
 | [],_=>trivial
 | [_],_=>trivial
 | [_,_],_=>trivial
 |a :: b :: d :: r,h=>⟨h [] a b d r rfl,ZkJ (b :: d :: r) fun L x y z R e=>h (a :: L) x y z R (by rw[e];rfl)⟩
theorem ZkK {l:List Pt} (h:Cv l):Cv l.reverse:=by
 refine ZkJ _ fun L a b d R e=> ?_
 have:l=R.reverse ++ d :: b :: a :: L.reverse:=by
  have:=congrArg List.reverse e
  rw[List.reverse_reverse] at this
  rw[this]
  simp
 rw[this] at h
 obtain ⟨k,k2,e1,e2⟩:=ZfV _ h
 exact ⟨k,k2,by omega,by omega⟩
noncomputable def dt (f p:Pt):Int:=f.1 * p.1 + f.2 * p.2
theorem Zm5 {f a b d:Pt} (h:Tr a b d) (h1:1<=dt f a) (h2:dt f a<=dt f b):dt f b<=dt f d:=by
 obtain ⟨k,k2,e1,e2⟩:=h
 have e:dt f d=k * dt f b - dt f a:=by
  have d1:d.1=k * b.1 - a.1:=by omega
  have d2:d.2=k * b.2 - a.2:=by omega
  unfold dt
  rw[d1,d2]
  grind
 have:2 * dt f b<=k * dt f b:=Int.mul_le_mul_of_nonneg_right k2 (by omega)
 omega
theorem ZbE {f:Pt}: ∀ (r:List Pt) (a b:Pt),Cv (a :: b :: r)->1<=dt f a->dt f a<=dt f b-> ∀ x∈a :: b :: r,1<=dt f x
 | [],a,b,_,h1,h2,x,hx=>by
  simp at hx
  rcases hx with rfl | rfl<;>omega
 |d :: r,a,b,h,h1,h2,x,hx=>by
  rcases List.mem_cons.mp hx with rfl | hx
  ·exact h1
  ·exact ZbE r b d h.2 (by omega) (Zm5 h.1 h1 h2) x hx
theorem ZkL {f a b:Pt} {L R l:List Pt} (e:l=L ++ a :: b :: R) (h:Cv l) (ha:dt f a=1) (hb:dt f b=1): ∀ x∈l,1<=dt f x:=by
 intro x hx
 have suf: ∀ (L:List Pt) (m:List Pt),Cv (L ++ m)->Cv m:=by
  intro L
  induction L with
  |nil=>intro m h;exact h
  |cons y L ih=>
   intro m h
   refine ih m ?_
   show Cv (L ++ m)
   have h':Cv (y :: (L ++ m)):=h
   generalize L ++ m=z at h'
   match z,h' with
   | [],_=>trivial
   | [_],_=>trivial
   |_ :: _ :: _,h'=>exact h'.2
 rw[e] at hx
 rcases List.mem_append.mp hx with z | z
 ·have hr:=ZkK h
  rw[e] at hr
  have e2:(L ++ a :: b :: R).reverse=R.reverse ++ (b :: a :: L.reverse):=by simp
  rw[e2] at hr
  exact ZbE _ b a (suf _ _ hr) (by omega) (by omega) x (by simp[z])
 ·exact ZbE _ a b (suf _ _ (e ▸ h)) (by omega) (by omega) x z
end
section
variable {u v w:Pt}
theorem ZkM: ∀ (n:Nat) (t b:Int) (a r v:Pt),b.toNat=n->0<=b->b < t->X r v=b->X a v=t-> ∀ x∈btw a r (hj t b),0<=X x v/\X x v<=t:=by
 intro n
 induction n using Nat.strongRecOn with
 |ind n ih=>
  intro t b a r v hb h0 ht h3 h2 x hx
  unfold hj at hx
  by_cases h:0 < b
  ·rw[dif_pos h] at hx
   have nx:=Zaw (t:=t) h
   generalize -((-t) / b)=k at *
   rw[btw] at hx
   rcases List.mem_cons.mp hx with z | z
   ·rw[z,h3];omega
   ·have:=ih (k * b - t).toNat (by omega) b (k * b - t) r (k * r.1 - a.1,k * r.2 - a.2) v rfl nx.1 nx.2 (by unfold X at *;simp only;grind) h3 x z
    omega
  ·rw[dif_neg h,btw] at hx
   simp at hx
theorem ZkN {u:Pt}: ∀ (n:Nat) (t b:Int) (a r v:Pt),b.toNat=n->0<=b->b < t->X a r=1->X a v=t->X r v=b->Int.gcd v.1 v.2=1->0<=X u a->X u a<=X u r->X u r<=X u v/\ ∀ x∈btw a r (hj t b),0<=X u x/\X u x<=X u v:=by
 intro n
 induction n using Nat.strongRecOn with
 |ind n ih=>
  intro t b a r v hb h0 ht h1 h2 h3 gv p1 p2
  unfold hj
  by_cases h:0 < b
  ·rw[dif_pos h]
   have nx:=Zaw (t:=t) h
   have k2:=ZeV h ht
   generalize -((-t) / b)=k at *
   have e:X u (k * r.1 - a.1,k * r.2 - a.2)=k * X u r - X u a:=by unfold X;simp only;grind
   have m:2 * X u r<=k * X u r:=Int.mul_le_mul_of_nonneg_right k2 (by omega)
   obtain ⟨q1,q2⟩:=ih (k * b - t).toNat (by omega) b (k * b - t) r (k * r.1 - a.1,k * r.2 - a.2) v rfl nx.1 nx.2 (by unfold X at *;simp only;grind) h3 (by unfold X at *;simp only;grind) gv (by omega) (by omega)
   refine ⟨by omega,fun x hx=> ?_⟩
   rw[btw] at hx
   rcases List.mem_cons.mp hx with z | z
   ·rw[z];omega
   ·exact q2 x z
  ·rw[dif_neg h,btw]
   have b0:b=0:=by omega
   have e1:v.1=t * r.1/\v.2=t * r.2:=by unfold X at *;constructor<;>grind
   have gv':=gv
   rw[e1.1,e1.2,Int.gcd_mul_left] at gv'
   have t1:t.natAbs=1:=Nat.eq_one_of_mul_eq_one_right gv'
   have tt:t=1:=by omega
   rw[tt] at e1
   have:v=r:=by apply Prod.ext<;>omega
   rw[this]
   exact ⟨Int.le_refl _,fun x hx=>by simp at hx⟩
end
end CB
end
section
end
section
end
section
end
section
end
section
end
section
end
section
end
section
end
section
end
section
end
section
end
section
end
section
end
section
end
section
end
section
end
section
end
section
end
section
end
section
namespace CB
open PySem PySem.Spec L2 DL
noncomputable def fbv (u v:Pt):Pt:= @dite _ (∃ w,Fb u v w) (Classical.propDecidable _) (fun h=>h.choose) (fun _=>(0,0))
theorem Zgz {u v:Pt} (h:Wg u v):Fb u v (fbv u v):=by
 have e:=ZkH h
 unfold fbv
 rw[dif_pos e]
 exact e.choose_spec
noncomputable def seg (u v:Pt):List Pt:=u :: btw u (fbv u v) (hj (X u v) (X (fbv u v) v))
noncomputable def Zii:List Pt->List Pt
 |a :: b :: r=>seg a b ++ Zii (b :: r)
 |_=>[]
noncomputable def Wgs:List Pt->Prop
 |a :: b :: r=>Wg a b/\Wgs (b :: r)
 |_=>True
theorem ZkO {f:Pt}: ∀ (r:List Pt) (a b:Pt),Cv (a :: b :: r)->(∀ x∈a :: b :: r,0<=dt f x)->dt f a < dt f b-> ∀ x∈r,dt f b < dt f x
 | [],_,_,_,_,_=>by simp
 |d :: r,a,b,h,hp,hl=>by
  obtain ⟨k,k2,e1,e2⟩:=h.1
  have eq:dt f a + dt f d=k * dt f b:=by
   unfold dt
   have:f.1 * a.1 + f.2 * a.2 + (f.1 * d.1 + f.2 * d.2)=f.1 * (a.1 + d.1) + f.2 * (a.2 + d.2):=by grind
   rw[this,e1,e2]
   grind
  have h0:=hp b (by simp)
  have:2 * dt f b<=k * dt f b:=Int.mul_le_mul_of_nonneg_right k2 h0
  have lt:dt f b < dt f d:=by omega
  intro x hx
  rcases List.mem_cons.mp hx with rfl | hx
  ·exact lt
  ·have:=ZkO r b d h.2 (fun y hy=>hp y (by simp[hy])) lt x hx
   omega
theorem ZkP {f:Pt} {c:Int}: ∀ (l:List Pt) (a z:Pt),Cv (a :: (l ++ [z]))->(∀ x∈a :: (l ++ [z]),0<=dt f x)->dt f a<=c->dt f z<=c-> ∀ x∈l,dt f x<=c
 | [],_,_,_,_,_,_=>by simp
 |b :: l,a,z,h,hp,ha,hz=>by
  by_cases k:dt f b<=c
  ·intro x hx
   rcases List.mem_cons.mp hx with rfl | hx
   ·exact k
   ·refine ZkP l b z ?_ (fun y hy=>hp y (by simp at hy ⊢;simp[hy])) k hz x hx
    cases l with
    |nil=>exact h.2
    |cons d l=>exact h.2
  ·have:=ZkO (l ++ [z]) a b h (fun y hy=>hp y (by simpa using hy)) (by omega) z (by simp)
   omega
theorem ZhY {u v w:Pt} (h:Wg u v) (hw:Fb u v w) {B:Int} (hB:0<=B) (hu:Bd B u) (hv:Bd B v): ∀ x∈btw u w (hj (X u v) (X w v)),Bd B x:=by
 intro x hx
 have a1:=fun x hx=>ZkM _ _ _ u w v rfl hw.lo hw.hi rfl rfl x hx
 have uu:X u u=0:=by unfold X;grind
 have vv:X v v=0:=by unfold X;grind
 have a2:=(ZkN (u:=u) _ _ _ u w v rfl hw.lo hw.hi hw.one rfl rfl h.gv (by omega) (by have:=hw.one;omega)).2
 have cv:=(Zgy _ _ _ u w v rfl hw.lo hw.hi hw.one rfl rfl h.gv).1
 have hp:=h.pos
 have df: ∀ y:Pt,dt (v.2 - u.2,u.1 - v.1) y=X y v + X u y:=by intro y;unfold dt X;simp only;grind
 have le:=ZkP (f:=(v.2 - u.2,u.1 - v.1)) (c:=X u v) _ u v cv (by
  intro y hy
  rw[df]
  rcases List.mem_cons.mp hy with rfl | hy
  ·omega
  ·rcases List.mem_append.mp hy with hy | hy
   ·have:=a1 y hy;have:=a2 y hy;omega
   ·simp at hy;subst hy;omega) (by rw[df];omega) (by rw[df];omega) x hx
 rw[df] at le
 have b1:=a1 x hx
 have b2:=a2 x hx
 have e1:X u v * x.1=X x v * u.1 + X u x * v.1:=by unfold X;grind
 have e2:X u v * x.2=X x v * u.2 + X u x * v.2:=by unfold X;grind
 have mb: ∀ y z:Int,-B<=y->y<=B-> -B<=z->z<=B-> -(X u v * B)<=X x v * y + X u x * z/\X x v * y + X u x * z<=X u v * B:=by
  intro y z y0 y1 z0 z1
  have q1:X x v * y<=X x v * B:=Int.mul_le_mul_of_nonneg_left y1 b1.1
  have q2:X u x * z<=X u x * B:=Int.mul_le_mul_of_nonneg_left z1 b2.1
  have q3:X x v * -B<=X x v * y:=Int.mul_le_mul_of_nonneg_left y0 b1.1
  have q4:X u x * -B<=X u x * z:=Int.mul_le_mul_of_nonneg_left z0 b2.1
  have q5:(X x v + X u x) * B<=X u v * B:=Int.mul_le_mul_of_nonneg_right le hB
  rw[Int.add_mul] at q5
  rw[Int.mul_neg] at q3 q4
  omega
 have fin: ∀ y:Int,-(X u v * B)<=X u v * y->X u v * y<=X u v * B-> -B<=y/\y<=B:=by
  intro y h1 h2
  refine ⟨?_,Int.le_of_mul_le_mul_left h2 hp⟩
  rw[<- Int.mul_neg] at h1
  exact Int.le_of_mul_le_mul_left h1 hp
 obtain ⟨⟨u1,u2⟩,u3,u4⟩:=hu
 obtain ⟨⟨v1,v2⟩,v3,v4⟩:=hv
 have m1:=mb u.1 v.1 u1 u2 v1 v2
 have m2:=mb u.2 v.2 u3 u4 v3 v4
 rw[<- e1] at m1
 rw[<- e2] at m2
 exact ⟨fin _ m1.1 m1.2,fin _ m2.1 m2.2⟩
theorem ZeY {B:Int} (hB:0<=B): ∀ (L:List Pt),Wgs L->(∀ x∈L,Bd B x)-> ∀ x∈Zii L,Bd B x
 | [],_,_=>by simp[Zii]
 | [_],_,_=>by simp[Zii]
 |a :: b :: r,h,hb=>by
  intro x hx
  simp only[Zii,seg] at hx
  rcases List.mem_append.mp hx with hx | hx
  ·rcases List.mem_cons.mp hx with rfl | hx
   ·exact hb x (by simp)
   ·exact ZhY h.1 (Zgz h.1) hB (hb a (by simp)) (hb b (by simp)) x hx
  ·exact ZeY hB (b :: r) h.2 (fun y hy=>hb y (by simp at hy ⊢;simp[hy])) x hx
end CB
end
section
end
section
end
section
end
section
end
section
end
section
end
section
end
section
end
section
end
section
end
section
end
section
namespace CB
open DL
section
variable {u v w:Pt}
noncomputable def kl:List Pt->List Int
 |a :: b :: d :: r=>X a d :: kl (b :: d :: r)
 |_=>[]
theorem Xvv (p:Pt):X p p=0:=by unfold X;grind
theorem Zle: ∀ (r:List Pt) (a b:Pt) (v:Pt),Ch (a :: b :: r)->Cv (a :: b :: r)->(b :: r).getLast (by simp)=v->0<=X b v/\X b v < X a v
 | [],a,b,v,h,_,e=>by
  have:b=v:=e
  subst this
  rw[Xvv,h.1]
  omega
 |c :: r,a,b,v,h,k,e=>by
  have ih:=Zle r b c v h.2 k.2 (by rw[<- e];simp[List.getLast_cons])
  obtain ⟨m,m2,e1,e2⟩:=k.1
  have ex:X a v + X c v=m * X b v:=by unfold X;grind
  have:2 * X b v<=m * X b v:=Int.mul_le_mul_of_nonneg_right m2 (by omega)
  omega
theorem ZhZ {t b k c:Int} (hb:0 < b) (h0:0<=c) (h1:c < b) (e:t + c=k * b): -((-t) / b)=k:=by
 have: -t=c + b * (-k):=by grind
 rw[this,Int.add_mul_ediv_left _ _ (by omega),Int.ediv_eq_zero_of_lt h0 h1]
 omega
theorem only: ∀ (ws:List Pt) (u v w:Pt),Ch (u :: (ws ++ [v]))->Cv (u :: (ws ++ [v]))->Fb u v w->ws=btw u w (hj (X u v) (X w v))/\kl (u :: (ws ++ [v]))=hj (X u v) (X w v)
 | [],u,v,w,h,k,f=>by
  have h1:X u v=1:=h.1
  have l:=f.lo
  have l2:=f.hi
  have w0:X w v=0:=by omega
  rw[w0]
  unfold hj
  rw[dif_neg (by decide)]
  exact ⟨rfl,rfl⟩
 |x :: ws,u,v,w,h,k,f=>by
  have hl:(x :: (ws ++ [v])).getLast (by simp)=v:=by simp[List.getLast_cons]
  have d:=Zle (ws ++ [v]) u x v h k hl
  have fx:Fb u v x:=⟨h.1,d.1,d.2⟩
  have ew:=fx.uniq f
  subst ew
  obtain ⟨y,R,eR⟩: ∃ y R,ws ++ [v]=y :: R:=by
   cases ws with
   |nil=>exact ⟨v,[],rfl⟩
   |cons y R=>exact ⟨y,R ++ [v],rfl⟩
  have h':Ch (x :: y :: R):=by rw[<- eR];exact h.2
  have kk:Cv (u :: x :: y :: R):=by rw[<- eR];exact k
  have hl2:(y :: R).getLast (by simp)=v:=by
   have:(ws ++ [v]).getLast (by simp)=v:=by simp
   simpa [eR] using this
  have d2:=Zle R x y v h' kk.2 hl2
  obtain ⟨m,m2,e1,e2⟩:=kk.1
  have ex:X u v + X y v=m * X x v:=by unfold X;grind
  have hc:=ZhZ (by omega) d2.1 d2.2 ex
  have ey:(m * x.1 - u.1,m * x.2 - u.2)=y:=by apply Prod.ext<;>simp only<;>omega
  have m3:X u y=m:=by
   have:=h.1
   rw[<- ey]
   unfold X at *
   simp only
   grind
  have fy:Fb x v y:=⟨h'.1,d2.1,d2.2⟩
  have ih:=only ws x v y (by rw[eR];exact h') (by rw[eR];exact kk.2) fy
  have ej:hj (X u v) (X x v)=m :: hj (X x v) (X y v):=by
   rw[hj,dif_pos (by omega),hc]
   congr 2
   omega
  rw[ej]
  constructor
  ·rw[btw,ey,<- ih.1]
  ·show kl (u :: x :: (ws ++ [v]))=_
   rw[eR,kl,m3,<- eR,ih.2]
theorem ZeZ: ∀ (L:List Pt) {a b:Pt} {R:List Pt},Ch (L ++ a :: b :: R)->X a b=1
 | [],_,_,_,h=>h.1
 | [x],_,_,_,h=>ZeZ [] h.2
 |x :: y :: L,_,_,_,h=>ZeZ (y :: L) h.2
end
end CB
end
namespace CB
open DL
section
variable {u v w:Pt} {l:List Pt}
noncomputable def Sd (u v p:Pt):Prop:=(0<=X u p/\X u p<=X u v)/\(0<=X p v/\X p v<=X u v)/\0 < X u p + X p v
theorem Zog: ∀ (r:List Pt) (a b p:Pt),0<=X a p->0<=X p ((b :: r).getLast (by simp))-> ∃ L x y R,a :: b :: r=L ++ x :: y :: R/\0<=X x p/\0<=X p y
 | [],a,b,p,h1,h2=>⟨[],a,b,[],rfl,h1,h2⟩
 |c :: r,a,b,p,h1,h2=>by
  by_cases h:0<=X p b
  ·exact ⟨[],a,b,c :: r,rfl,h1,h⟩
  ·have hb:0<=X b p:=by rw[Zlc];omega
   obtain ⟨L,x,y,R,e,h3,h4⟩:=Zog r b c p hb (by rw[List.getLast_cons (by simp)] at h2;exact h2)
   exact ⟨a :: L,x,y,R,by rw[e];rfl,h3,h4⟩
theorem lin {x y p:Pt} (h:X x y=1) (g:Pt):dt g p=X p y * dt g x + X x p * dt g y:=by
 unfold X at *
 unfold dt
 grind
theorem Zoh {x y p:Pt} (h:X x y=1):X u p=X p y * X u x + X x p * X u y:=by
 have:=lin (p:=p) h (-u.2,u.1)
 unfold dt at this
 unfold X at *
 simp only at this
 grind
theorem Zoi {x y p:Pt} (h:X x y=1):X p v=X p y * X x v + X x p * X y v:=by
 have:=lin (p:=p) h (v.2,-v.1)
 unfold dt at this
 unfold X at *
 simp only at this
 grind
theorem ZkQ {p q:Pt}:X u (p.1 - q.1,p.2 - q.2)=X u p - X u q/\X (p.1 - q.1,p.2 - q.2) v=X p v - X q v:=by
 unfold X
 simp only
 constructor<;>grind
structure Hc (u v:Pt) (l:List Pt):Prop where
 ch:Ch l
 cv:Cv l
 ends: ∃ b r,l=u :: b :: r/\(b :: r).getLast (by simp)=v
 ins: ∀ x∈l,Sd u v x
theorem Hc.two (h:Hc u v l) {p:Pt} (hp:Sd u v p): ∃ L x y R,l=L ++ x :: y :: R/\x∈l/\y∈l/\X x y=1/\0<=X x p/\0<=X p y:=by
 obtain ⟨b,r,rfl,hl⟩:=h.ends
 obtain ⟨L,x,y,R,e,h1,h2⟩:=Zog r u b p hp.1.1 (by rw[hl];exact hp.2.1.1)
 refine ⟨L,x,y,R,e,?_,?_,?_,h1,h2⟩
 ·rw[e];simp
 ·rw[e];simp
 ·have:=h.ch
  rw[e] at this
  exact ZeZ L this
theorem mn {a b:Int} (h:0<=a) (k:0<=b):0<=a * b:=Int.mul_nonneg h k
theorem big {a s:Int} (h:0<=a) (k:1<=s):a<=a * s:=by
 have:=mn h (show 0<=s - 1 by omega)
 rw[Int.mul_sub,Int.mul_one] at this
 omega
theorem Hc.alone (h:Hc u v l) {p:Pt} (hp:Sd u v p) (al: ∀ q,Sd u v q-> ¬ Sd u v (p.1 - q.1,p.2 - q.2)):p∈l:=by
 obtain ⟨L,x,y,R,-,mx,my,h1,h2,h3⟩:=h.two hp
 have sx:=h.ins x mx
 have sy:=h.ins y my
 have eu:=Zoh (u:=u) (p:=p) h1
 have ev:=Zoi (v:=v) (p:=p) h1
 have ex:=lin (p:=p) h1 (1,0)
 have ey:=lin (p:=p) h1 (0,1)
 simp only[dt,Int.one_mul,Int.zero_mul,Int.add_zero,Int.zero_add] at ex ey
 obtain ⟨⟨p1,p2⟩,⟨p3,p4⟩,p5⟩:=hp
 obtain ⟨⟨x1,x2⟩,⟨x3,x4⟩,x5⟩:=id sx
 obtain ⟨⟨y1,y2⟩,⟨y3,y4⟩,y5⟩:=id sy
 obtain ⟨qu,qv⟩:=ZkQ (u:=u) (v:=v) (p:=p) (q:=x)
 obtain ⟨ru,rv⟩:=ZkQ (u:=u) (v:=v) (p:=p) (q:=y)
 generalize X p y=a at *
 generalize X x p=b at *
 have b1:=mn h2 y1
 have b2:=mn h2 y3
 have b3:=big h2 (show 1<=X u y + X y v by omega)
 have a3:=big h3 (show 1<=X u x + X x v by omega)
 rw[Int.mul_add] at a3 b3
 by_cases ca:1<=a
 ·by_cases cb:a + b=1
  ·have:a=1:=by omega
   have hb:b=0:=by omega
   rw[this,hb,Int.one_mul,Int.zero_mul,Int.add_zero] at ex ey
   rw[show p=x from Prod.ext ex ey]
   exact mx
  ·refine (al x sx ?_).elim
   have c1:=mn (show 0<=a - 1 by omega) x1
   have c2:=mn (show 0<=a - 1 by omega) x3
   have c3:=big (show 0<=a - 1 by omega) (show 1<=X u x + X x v by omega)
   rw[Int.mul_add] at c3
   rw[Int.sub_mul,Int.one_mul] at c1 c2
   rw[Int.sub_mul,Int.sub_mul,Int.one_mul,Int.one_mul] at c3
   refine ⟨⟨?_,?_⟩,⟨?_,?_⟩,?_⟩<;>first | (rw[qu,qv];omega) | (rw[qu];omega) | (rw[qv];omega)
 ·have ha:a=0:=by omega
  rw[ha] at eu ev ex ey
  simp only[Int.zero_mul,Int.zero_add] at eu ev ex ey
  by_cases cb:b=1
  ·rw[cb,Int.one_mul] at ex ey
   rw[show p=y from Prod.ext ex ey]
   exact my
  ·have b0:b≠0:=fun z=>by
    rw[z,Int.zero_mul] at eu ev
    omega
   refine (al y sy ?_).elim
   have c1:=mn (show 0<=b - 1 by omega) y1
   have c2:=mn (show 0<=b - 1 by omega) y3
   have c3:=big (show 0<=b - 1 by omega) (show 1<=X u y + X y v by omega)
   rw[Int.mul_add] at c3
   rw[Int.sub_mul,Int.one_mul] at c1 c2
   rw[Int.sub_mul,Int.sub_mul,Int.one_mul,Int.one_mul] at c3
   refine ⟨⟨?_,?_⟩,⟨?_,?_⟩,?_⟩<;>first | (rw[ru,rv];omega) | (rw[ru];omega) | (rw[rv];omega)
theorem nbr: ∀ (r:List Pt) (a b p:Pt),p∈a :: b :: r-> ∃ L x y R,a :: b :: r=L ++ x :: y :: R/\(p=x\/p=y)
 | [],a,b,p,h=>⟨[],a,b,[],rfl,by simpa using h⟩
 |c :: r,a,b,p,h=>by
  rcases List.mem_cons.mp h with h | h
  ·exact ⟨[],a,b,c :: r,rfl,.inl h⟩
  ·obtain ⟨L,x,y,R,e,k⟩:=nbr r b c p h
   exact ⟨a :: L,x,y,R,by rw[e];rfl,k⟩
theorem Hc.not_sum (h:Hc u v l) {p q:Pt} (hp:p∈l) (hq:Sd u v q): ¬ Sd u v (p.1 - q.1,p.2 - q.2):=by
 intro hr
 have H:=h
 obtain ⟨b,r,el,hl⟩:=h.ends
 obtain ⟨L,x,y,R,e,k⟩:=nbr r u b p (by rw[<- el];exact hp)
 rw[<- el] at e
 have xy:X x y=1:=by
  have:=h.ch
  rw[e] at this
  exact ZeZ L this
 have fx:dt (y.2 - x.2,x.1 - y.1) x=1:=by unfold X at xy;unfold dt;simp only;grind
 have fy:dt (y.2 - x.2,x.1 - y.1) y=1:=by unfold X at xy;unfold dt;simp only;grind
 have all:=ZkL e h.cv fx fy
 have ge: ∀ z,Sd u v z->1<=dt (y.2 - x.2,x.1 - y.1) z:=fun z hz=>by
  obtain ⟨_,x',y',_,-,mx,my,k1,k2,k3⟩:=H.two hz
  have e1:=lin (p:=z) k1 (y.2 - x.2,x.1 - y.1)
  have eu:=Zoh (u:=u) (p:=z) k1
  have ev:=Zoi (v:=v) (p:=z) k1
  have c1:=big k3 (all x' mx)
  have c2:=big k2 (all y' my)
  have:=hz.2.2
  by_cases g:0 < X z y'
  ·omega
  ·by_cases g':0 < X x' z
   ·omega
   ·rw[show X z y'=0 by omega,show X x' z=0 by omega,Int.zero_mul,Int.zero_mul] at eu ev
    omega
 have e2:dt (y.2 - x.2,x.1 - y.1) p=dt (y.2 - x.2,x.1 - y.1) q + dt (y.2 - x.2,x.1 - y.1) (p.1 - q.1,p.2 - q.2):=by unfold dt;simp only;grind
 have g1:=ge q hq
 have g2:=ge _ hr
 rcases k with rfl | rfl<;>omega
theorem Zh0 {p:Pt} (h:0 < X u v) (h1:X u p=0) (h2:X p v=0):p=(0,0):=by
 have e1:X u v * p.1=X p v * u.1 + X u p * v.1:=by unfold X;grind
 have e2:X u v * p.2=X p v * u.2 + X u p * v.2:=by unfold X;grind
 rw[h1,h2,Int.zero_mul,Int.zero_mul] at e1 e2
 refine Prod.ext ?_ ?_
 ·rcases Int.mul_eq_zero.mp (show X u v * p.1=0 by omega) with z | z
  ·omega
  ·exact z
 ·rcases Int.mul_eq_zero.mp (show X u v * p.2=0 by omega) with z | z
  ·omega
  ·exact z
theorem ZkR (h:Wg u v) (hw:Fb u v w):Hc u v (u :: (btw u w (hj (X u v) (X w v)) ++ [v])):=by
 have c:=ZhX h hw
 obtain ⟨cv,rest,er⟩:=Zgy _ _ _ u w v rfl hw.lo hw.hi hw.one rfl rfl h.gv
 have n0:=h.pos
 have nz: ∀ x∈u :: (btw u w (hj (X u v) (X w v)) ++ [v]),x≠(0,0):=fun x hx z=>by
  obtain ⟨L,a,b,R,e,k⟩:=nbr rest u w x (by rw[<- er];exact hx)
  rw[<- er] at e
  rw[e] at c
  have:=ZeZ L c
  rcases k with rfl | rfl<;>rw[z] at this<;>unfold X at this<;>simp at this
 refine ⟨c,cv,⟨w,rest,by rw[er],?_⟩,fun x hx=> ?_⟩
 ·have:(w :: rest).getLast (by simp)=(btw u w (hj (X u v) (X w v)) ++ [v]).getLast (by simp):=by simp only[er]
  rw[this,List.getLast_append]
  simp
 ·have hz:=nz x hx
  rcases List.mem_cons.mp hx with rfl | hx
  ·exact ⟨⟨by rw[Xvv];omega,by rw[Xvv];omega⟩,⟨by omega,by omega⟩,by rw[Xvv];omega⟩
  ·rcases List.mem_append.mp hx with hx | hx
   ·obtain ⟨-,bu⟩:=ZkN (u:=u) _ _ _ u w v rfl hw.lo hw.hi hw.one rfl rfl h.gv (by rw[Xvv];omega) (by rw[Xvv,hw.one];omega)
    have b1:=bu x hx
    have b2:=ZkM _ _ _ u w v rfl hw.lo hw.hi rfl rfl x hx
    refine ⟨b1,b2,?_⟩
    by_cases c:0 < X u x + X x v
    ·exact c
    ·exact (hz (Zh0 n0 (by omega) (by omega))).elim
   ·rw[List.mem_singleton.mp hx,Sd,Xvv]
    omega
noncomputable def Cz:List Int->Prop
 |a :: b :: d :: r=>(∃ k:Int,2<=k/\a + d=k * b)/\Cz (b :: d :: r)
 |_=>True
theorem ZkS: ∀ (l:List Pt),Cv l->Cz (l.map (·.1))/\Cz (l.map (·.2))
 | [],_=>⟨trivial,trivial⟩
 | [_],_=>⟨trivial,trivial⟩
 | [_,_],_=>⟨trivial,trivial⟩
 |a :: b :: d :: r,⟨⟨k,h1,h2,h3⟩,t⟩=>by
  obtain ⟨t1,t2⟩:=ZkS (b :: d :: r) t
  exact ⟨⟨⟨k,h1,h2⟩,t1⟩,⟨k,h1,h3⟩,t2⟩
theorem dbl {k b:Int} (hk:2<=k) (hb:0<=b):2 * b<=k * b:=Int.mul_le_mul_of_nonneg_right hk hb
theorem up: ∀ (r:List Int) (a b:Int),Cz (a :: b :: r)->0<=b->a < b->(∀ x∈b :: r,x<=7)->(r.length:Int)<=7 - b
 | [],a,b,_,_,_,hx=>by have:=hx b (by simp);simp;omega
 |d :: r,a,b,⟨⟨k,hk,e⟩,t⟩,h0,h1,hx=>by
  have:=dbl hk h0
  have:=up r b d t (by omega) (by omega) (fun x h=>hx x (List.mem_cons_of_mem _ h))
  rw[List.length_cons]
  omega
theorem dn: ∀ (r:List Int) (a b:Int),Cz (a :: b :: r)->b<=0->b < a->(∀ x∈b :: r,-7<=x)->(r.length:Int)<=7 + b
 | [],a,b,_,_,_,hx=>by have:=hx b (by simp);simp;omega
 |d :: r,a,b,⟨⟨k,hk,e⟩,t⟩,h0,h1,hx=>by
  have:=dbl (b:= -b) hk (by omega)
  rw[Int.mul_neg,Int.mul_neg] at this
  have:=dn r b d t (by omega) (by omega) (fun x h=>hx x (List.mem_cons_of_mem _ h))
  rw[List.length_cons]
  omega
noncomputable def chg:List Int->Nat
 |a :: b :: r=>(if a=b then 0 else 1) + chg (b :: r)
 |_=>0
theorem Ze0: ∀ (r:List Int) (a:Int),chg (a :: r)<=r.length
 | [],_=>Nat.le_refl _
 |b :: r,a=>by
  have:=Ze0 r b
  rw[chg,List.length_cons]
  split<;>omega
theorem Ze1: ∀ (r:List Int) (a:Int),Cz (a :: r)->(∀ x∈a :: r,-7<=x/\x<=7)->chg (a :: r)<=a.natAbs + 8
 | [],_,_,_=>by simp[chg]
 |b :: r,a,h,hx=>by
  have tl:Cz (b :: r):=by
   cases r with
   |nil=>trivial
   |cons d r=>exact h.2
  have ih:=Ze1 r b tl fun x h=>hx x (List.mem_cons_of_mem _ h)
  have cl:=Ze0 r b
  rw[chg]
  by_cases e:a=b
  ·rw[if_pos e,e];omega
  ·rw[if_neg e]
   by_cases c:a < b
   ·by_cases c0:0<=b
    ·have:=up r a b h c0 c fun x h=>(hx x (List.mem_cons_of_mem _ h)).2
     omega
    ·omega
   ·by_cases c0:b<=0
    ·have:=dn r a b h c0 (by omega) fun x h=>(hx x (List.mem_cons_of_mem _ h)).1
     omega
    ·omega
theorem Zdb: ∀ (r:List Pt) (a:Pt),Ch (a :: r)->r.length<=chg ((a :: r).map (·.1)) + chg ((a :: r).map (·.2))
 | [],_,_=>Nat.zero_le _
 |b :: r,a,h=>by
  have ih:=Zdb r b h.2
  have ne:a≠b:=fun z=>by
   have:=h.1
   rw[z,Xvv] at this
   omega
  simp only[List.map_cons,chg,List.length_cons] at ih ⊢
  by_cases e1:a.1=b.1
  ·by_cases e2:a.2=b.2
   ·exact (ne (Prod.ext e1 e2)).elim
   ·rw[if_neg e2];omega
  ·rw[if_neg e1];omega
theorem Hc.len (h:Hc u v l) (hb: ∀ x∈l,Bd 7 x):l.length<=31:=by
 obtain ⟨b,r,rfl,_⟩:=h.ends
 have st:=Zdb _ _ h.ch
 obtain ⟨c1,c2⟩:=ZkS _ h.cv
 have b0:=hb u (by simp)
 have k1:=Ze1 _ _ c1 fun x hx=>by
  obtain ⟨p,hp,rfl⟩:=List.mem_map.mp (show x∈(u :: b :: r).map (·.1) from hx)
  exact (hb p hp).1
 have k2:=Ze1 _ _ c2 fun x hx=>by
  obtain ⟨p,hp,rfl⟩:=List.mem_map.mp (show x∈(u :: b :: r).map (·.2) from hx)
  exact (hb p hp).2
 obtain ⟨⟨_,_⟩,_,_⟩:=b0
 rw[List.length_cons]
 simp only[List.map_cons] at k1 k2 st
 omega
end
end CB
section
end
section
end
section
end
section
end
section
end
section
end
section
end
section
end
section
end
section
end
section
end
section
end
section
end
section
end
section
end
section
end
section
end
section
end
section
end
section
end
section
end
section
end
section
end
section
end
section
end
section
end
section
end
section
end
section
end
section
namespace K17
open CC (Zae F_crossed)
open CB (Zau Zbd F_partner Zaa F_first_behind Zak ZaQ F_expanded ZhV F_row Zav Zbe F_between ZaD F_law_purse ZaR F_law_take ZaM F_law_crossed Zab ZaE F_law_short)
open PySem PySem.Spec L2 DL
noncomputable def top (i:Nat):Stmt:=PySem.Challenge.pw_rayround_k17_rays_are_all_that_no_sum_is.main.body.getD i (.Pass ⟨0,0,0,0⟩)
structure Txt (K:PySem.W.Frag) (mg:Str->Option Value):Prop where
 gl: ∀ c v,PySem.W.nsIn K mainGlobals c=some (some v)->mg c=some v
 b_len:mg "len"=none
 b_int:mg "int"=none
 b_abs:mg "abs"=none
 b_max:mg "max"=none
 b_min:mg "min"=none
 b_range:mg "range"=none
 b_any:mg "any"=none
 b_sorted:mg "sorted"=none
 b_isinstance:mg "isinstance"=none
 b_list:mg "list"=none
 ex_NoWedge:Zje K "NoWedge"=true
section
variable {P:Program} {w:World} {K:PySem.W.Frag} {mg:Str->Option Value} {base:Heap}
noncomputable abbrev Zaf:Stmt:=top 4
theorem Zdy:FnScope ["one","other"] ["one","other"] (Zg Zaf):=⟨rfl,rfl,rfl,by decide +kernel,rfl,by decide +kernel,by decide +kernel⟩
theorem Zdz {f:Addr} {fd:FuncData} (F:Fun K "crossed" "crossed" Zaf f fd) (T:Txt K mg):FnOk P w K mg base (CXE P w) 1 f fd ["one","other"] (spD K F_crossed):=
 ZaJ F Zdy rfl rfl fun cdv A outer s H E hr θ=>(Zk (ZS (ZR (Zw (Zr (Zb 0) Zd) (Zr (Zb 1) Zd)) (Zw (Zr (Zb 0) Zd) (Zr (Zb 1) Zd)))))
noncomputable abbrev Zag:Stmt:=top 6
theorem ZD:FnScope ["ray","high","low","first","second","many"] ["ray"] (Zg Zag):=⟨rfl,rfl,rfl,by decide +kernel,rfl,by decide +kernel,by decide +kernel⟩
theorem ZdA {f:Addr} {fd:FuncData} (F:Fun K "partner" "partner" Zag f fd) (T:Txt K mg):FnOk P w K mg base (CXE P w) 101 f fd ["ray"] (spD K F_partner):=
 ZaJ F ZD rfl rfl fun cdv A outer s H E hr θ=>(Zf (Zem (Zb 0) (ZbV (Zn hr (by decide)) (ZP (ZG 1 ZD.nd) (ZP (ZG 2 ZD.nd) Za7)) (hlen:=(Z9 (Z9 (fun _ _ _ h=>Za8 h))))))
  (Zf (Zem (ZJ (Za (ZJ (Za Zd (Za Zd Ze))) (Za (ZJ (Za (Zeg Zd) (Za Zd Ze))) Ze))) (ZbV (Zn hr (by decide)) (ZP (ZG 3 ZD.nd) (ZP (ZG 4 ZD.nd) Za7)) (hlen:=(Z9 (Z9 (fun _ _ _ h=>Za8 h))))))
  (Zf (Zbw θ.own (Zas (Zej hr.units) Zg6 (Zb 2) Zd) (Zf (ZH 5 ZD.nd (Za4 (Zb 1) (Zb 2)))
  (Zf (ZaH 1 2 (Zn hr (by decide)) ZD.nd (Za (Zb 2) (Za (ZR (Zb 1) (Zw (Zb 5) (Zb 2))) Ze)))
  (Zk (ZaH 3 4 (Zn hr (by decide)) ZD.nd (Za (Zb 4) (Za (ZJ (Za (ZR (Zr (Zb 3) Zd) (Zw (Zb 5) (Zr (Zb 4) Zd))) (Za (ZR (Zr (Zb 3) Zd) (Zw (Zb 5) (Zr (Zb 4) Zd))) Ze))) Ze)))))))
  (Zk (ZS (ZJ (Za (Zw (Zb 1) (Zr (Zb 3) Zd)) (Za (Zw (Zb 1) (Zr (Zb 3) Zd)) Ze))))))))
noncomputable abbrev Zv:Stmt:=top 7
theorem Z3:FnScope ["u","v","w","many"] ["u","v"] (Zg Zv):=⟨rfl,rfl,rfl,by decide +kernel,rfl,by decide +kernel,by decide +kernel⟩
theorem Zbf {f:Addr} {fd:FuncData} (F:Fun K "first_behind" "first_behind" Zv f fd) (T:Txt K mg) (C_partner:Cal P w K mg base "partner" 101 1 F_partner) (C_crossed:Cal P w K mg base "crossed" 1 2 F_crossed):FnOk P w K mg base (CXE P w) 102 f fd ["u","v"] (spD K F_first_behind):=
 ZaJ F Z3 rfl rfl fun cdv A outer s H E hr θ=>(Zf (ZH 2 Z3.nd (Zi C_partner θ (hr.mono (by decide)) (Za (Zb 0) Ze)))
  (Zf (ZH 3 Z3.nd (Za4 (Zi C_crossed θ (hr.mono (by decide)) (Za (Zb 2) (Za (Zb 1) Ze))) (Zi C_crossed θ (hr.mono (by decide)) (Za (Zb 0) (Za (Zb 1) Ze)))))
  (Zk (ZS (ZJ (Za (ZR (Zr (Zb 2) Zd) (Zw (Zb 3) (Zr (Zb 0) Zd))) (Za (ZR (Zr (Zb 2) Zd) (Zw (Zb 3) (Zr (Zb 0) Zd))) Ze)))))))
noncomputable abbrev ZX:Stmt:=top 8
theorem Zal:FnScope ["top","bottom","numbers","number"] ["top","bottom"] (Zg ZX):=⟨rfl,rfl,rfl,by decide +kernel,rfl,by decide +kernel,by decide +kernel⟩
theorem ZcJ {f:Addr} {fd:FuncData} (F:Fun K "expanded" "expanded" ZX f fd) (T:Txt K mg):FnOk P w K mg base (CXE P w) 101 f fd ["top","bottom"] (spD K F_expanded):=
 ZaJ F Zal rfl rfl fun cdv A outer s H E hr θ=>(Zf (ZH 2 Zal.nd (Zbn Ze))
  (Zf (Zbw θ.own (Zas (Zej hr.units) Zg6 (Zb 1) Zd) (Zf (ZH 3 Zal.nd (Zeg (Za4 (Zeg (Zb 0)) (Zb 1))))
  (Zf (ZcB (Za9 (Zb 2) (Zb 3)))
  (Zk (ZaH 0 1 (Zn hr (by decide)) Zal.nd (Za (Zb 1) (Za (ZR (Zw (Zb 3) (Zb 1)) (Zb 0)) Ze)))))))
  (Zk (ZS (Zb 2)))))
noncomputable abbrev ZdB:Stmt:=top 9
theorem ZkT:FnScope ["u","v"] ["u","v"] (Zg ZdB):=⟨rfl,rfl,rfl,by decide +kernel,rfl,by decide +kernel,by decide +kernel⟩
theorem ZkU {f:Addr} {fd:FuncData} (F:Fun K "row" "row" ZdB f fd) (T:Txt K mg) (C_crossed:Cal P w K mg base "crossed" 1 2 F_crossed) (C_first_behind:Cal P w K mg base "first_behind" 102 2 F_first_behind) (C_expanded:Cal P w K mg base "expanded" 101 2 F_expanded):FnOk P w K mg base (CXE P w) 103 f fd ["u","v"] (spD K F_row):=
 ZaJ F ZkT rfl rfl fun cdv A outer s H E hr θ=>(Zf (Zbv (Zas ZdT Zee (Zi C_crossed θ (hr.mono (by decide)) (Za (Zb 0) (Za (Zb 1) Ze))) Zd) (Zk (ZfB θ T.ex_NoWedge T.gl (hr.hd (by decide)) (Za ZiR Ze))) Zaj)
  (Zk (ZS (Zi C_expanded θ (hr.mono (by decide)) (Za (Zi C_crossed θ (hr.mono (by decide)) (Za (Zb 0) (Za (Zb 1) Ze))) (Za (Zi C_crossed θ (hr.mono (by decide)) (Za (Zi C_first_behind θ (hr.mono (by decide)) (Za (Zb 0) (Za (Zb 1) Ze))) (Za (Zb 1) Ze))) Ze))))))
noncomputable abbrev Zah:Stmt:=top 10
theorem ZY:FnScope ["u","v","numbers","rays","ahead","ray","number"] ["u","v"] (Zg Zah):=⟨rfl,rfl,rfl,by decide +kernel,rfl,by decide +kernel,by decide +kernel⟩
theorem ZdC {f:Addr} {fd:FuncData} (F:Fun K "between" "between" Zah f fd) (T:Txt K mg) (C_row:Cal P w K mg base "row" 103 2 F_row) (C_first_behind:Cal P w K mg base "first_behind" 102 2 F_first_behind):FnOk P w K mg base (CXE P w) 104 f fd ["u","v"] (spD K F_between):=
 ZaJ F ZY rfl rfl fun cdv A outer s H E hr θ=>(Zf (ZH 2 ZY.nd (Zi C_row θ (hr.mono (by decide)) (Za (Zb 0) (Za (Zb 1) Ze))))
  (Zf (ZH 3 ZY.nd (Zbn Ze))
  (Zf (ZaH 4 5 (Zn hr (by decide)) ZY.nd (Za (Zb 0) (Za (Zi C_first_behind θ (hr.mono (by decide)) (Za (Zb 0) (Za (Zb 1) Ze))) Ze)))
  (Zf (Zi8 θ.own (Zb 2) (ZG 6 ZY.nd) (Zf (ZcB (Za9 (Zb 3) (Zb 5)))
  (Zk (ZaH 4 5 (Zn hr (by decide)) ZY.nd (Za (Zb 5) (Za (ZJ (Za (ZR (Zw (Zb 6) (Zr (Zb 5) Zd)) (Zr (Zb 4) Zd)) (Za (ZR (Zw (Zb 6) (Zr (Zb 5) Zd)) (Zr (Zb 4) Zd)) Ze))) Ze))))))
  (Zk (ZS (Zb 3)))))))
noncomputable abbrev ZL:Stmt:=top 12
theorem Z6:FnScope ["_law_script","_law_k","_law_cell","_law_large"] ["_law_script","_law_k"] (Zg ZL):=⟨rfl,rfl,rfl,by decide +kernel,rfl,by decide +kernel,by decide +kernel⟩
theorem Zcl {f:Addr} {fd:FuncData} (F:Fun K "_law_purse" "_law_purse" ZL f fd) (T:Txt K mg):FnOk P w K mg base (CXE P w) 1 f fd ["_law_script","_law_k"] (spD K F_law_purse):=
 ZaJ F Z6 rfl rfl fun cdv A outer s H E hr θ=>(Zf (ZH 2 Z6.nd Zd)
  (Zf (Zbv (Zas ZiF Zi0 (Zb 1) (Zp ZaS Zgb T.b_len PySem.boot_len (Za (Zb 0) Ze))) (Zk (ZH 2 Z6.nd (Zr (Zb 0) (Zb 1)))) Zaj)
  (Zf (ZH 3 Z6.nd (Za5 (Zb 2) (Zw (Zef Zd Zd) (Zef Zd Zd))))
  (Zk (ZS (Zbn (Za (Zw (Zb 3) (Zek ZdU Zi4 T.b_int Zi9 (Za (Zf5 Zlr ZlB (Zb 3) (Zef Zd Zd)) Ze))) (Za (Z2 (Z2 (Za5 (Zb 2) Zd) (Zw Zd (Zb 1))) Zd) Ze))))))))
noncomputable abbrev ZZ:Stmt:=top 13
theorem Zbg:FnScope ["_law_purse_here","_law_many","_law_digit"] ["_law_purse_here","_law_many"] (Zg ZZ):=⟨rfl,rfl,rfl,by decide +kernel,rfl,by decide +kernel,by decide +kernel⟩
theorem ZcK {f:Addr} {fd:FuncData} (F:Fun K "_law_take" "_law_take" ZZ f fd) (T:Txt K mg):FnOk P w K mg base (CXE P w) 1 f fd ["_law_purse_here","_law_many"] (spD K F_law_take):=
 ZaJ F Zbg rfl rfl fun cdv A outer s H E hr θ=>(Zf (Zbv (Zas ZgM Zg4 (Zr (Zb 0) Zd) Zd) (Zf (ZH 2 Zbg.nd (Za5 (Zr (Zb 0) Zd) (Zb 1)))
  (Zf (Zgf (Zb 0) Zd (Za4 (Zr (Zb 0) Zd) (Zb 1)))
  (Zk (ZS (Zb 2))))) Zaj)
  (Zf (Zgf (Zb 0) Zd (Za5 (Z2 (Zw (Zr (Zb 0) Zd) Zd) Zd) Zd))
  (Zk (ZS (Za5 (Za4 (Za5 (Zw (Zr (Zb 0) Zd) Zd) Zd) Zd) (Zb 1))))))
noncomputable abbrev Zx:Stmt:=top 14
theorem Zbk:FnScope ["_law_one","_law_other"] ["_law_one","_law_other"] (Zg Zx):=⟨rfl,rfl,rfl,by decide +kernel,rfl,by decide +kernel,by decide +kernel⟩
theorem Zbl {f:Addr} {fd:FuncData} (F:Fun K "_law_crossed" "_law_crossed" Zx f fd) (T:Txt K mg):FnOk P w K mg base (CXE P w) 1 f fd ["_law_one","_law_other"] (spD K F_law_crossed):=
 ZaJ F Zbk rfl rfl fun cdv A outer s H E hr θ=>(Zk (ZS (ZR (Zw (Zr (Zb 0) Zd) (Zr (Zb 1) Zd)) (Zw (Zr (Zb 0) Zd) (Zr (Zb 1) Zd)))))
noncomputable abbrev ZM:Stmt:=top 15
theorem Zay:FnScope ["_law_pair","_law_one","_law_other"] ["_law_pair"] (Zg ZM):=⟨rfl,rfl,rfl,by decide +kernel,rfl,by decide +kernel,by decide +kernel⟩
theorem Zcm {f:Addr} {fd:FuncData} (F:Fun K "_law_short" "_law_short" ZM f fd) (T:Txt K mg):FnOk P w K mg base (CXE P w) 101 f fd ["_law_pair"] (spD K F_law_short):=
 ZaJ F Zay rfl rfl fun cdv A outer s H E hr θ=>(Zf (ZaH 1 2 (Zn hr (by decide)) Zay.nd (Za (Zp ZcV Zgc T.b_abs Zgi (Za (Zr (Zb 0) Zd) Ze)) (Za (Zp ZcV Zgc T.b_abs Zgi (Za (Zr (Zb 0) Zd) Ze)) Ze)))
  (Zf (Zbw θ.own (Zas ZgM Zg4 (Zb 2) Zd) (Zk (ZaH 1 2 (Zn hr (by decide)) Zay.nd (Za (Zb 2) (Za (Za5 (Zb 1) (Zb 2)) Ze)))))
  (Zf (Zbv (Zas (Zf9 hr.units) Zi2 (Zb 1) Zd) (Zk (ZS (ZJ (Za Zd (Za Zd Ze))))) Zaj)
  (Zk (ZS (ZJ (Za (Za4 (Zr (Zb 0) Zd) (Zb 1)) (Za (Za4 (Zr (Zb 0) Zd) (Zb 1)) Ze))))))))
noncomputable abbrev ZN:Stmt:=top 16
noncomputable def Zbh:Sv:=(Z4 (ZaG (gNm 1) (e2 dIx (Ze5 (Zc (eC (.int 4)) (Zc (eC (.int 7)) aNil))) (Zm F_law_take (Zc (Zh 0) (Zc (eC (.int 2)) aNil)))))
 (Z4 (ZaG (gNm 2) (Zm F_law_short (Zc (Za3 (Zc (e2 dSub (Zm F_law_take (Zc (Zh 0) (Zc (e2 dAdd (e2 dMul (eC (.int 2)) (Zh 1)) (eC (.int 1))) aNil))) (Zh 1)) (Zc (e2 dSub (Zm F_law_take (Zc (Zh 0) (Zc (e2 dAdd (e2 dMul (eC (.int 2)) (Zh 1)) (eC (.int 1))) aNil))) (Zh 1)) aNil))) aNil)))
 (Z4 (ZaG (gNm 3) (Zm F_law_short (Zc (Za3 (Zc (e2 dSub (Zm F_law_take (Zc (Zh 0) (Zc (e2 dAdd (e2 dMul (eC (.int 2)) (Zh 1)) (eC (.int 1))) aNil))) (Zh 1)) (Zc (e2 dSub (Zm F_law_take (Zc (Zh 0) (Zc (e2 dAdd (e2 dMul (eC (.int 2)) (Zh 1)) (eC (.int 1))) aNil))) (Zh 1)) aNil))) aNil)))
 (Z4 (sIf (tv (e2 dLt (Zm F_law_crossed (Zc (Zh 2) (Zc (Zh 3) aNil))) (eC (.int 0)))) (Zdq 2 3 (Zc (Zh 3) (Zc (Zh 2) aNil))) sNil)
 (Z4 (sIf (tv (e2 dEq (Zm F_law_crossed (Zc (Zh 2) (Zc (Zh 3) aNil))) (eC (.int 0)))) (ZaG (gNm 3) (Za3 (Zc (e2 dSub (eC (.int 0)) (e2 dIx (Zh 2) (eC (.int 1)))) (Zc (e2 dIx (Zh 2) (eC (.int 0))) aNil)))) sNil)
 (Zbj (Za3 (Zc (Zh 2) (Zc (Zh 3) aNil)))))))))
noncomputable def F_law_wedge:List D->Sto->Out D:=fnF Zbh 1 3
theorem ZE:FnScope ["_law_purse_here","_law_size","_law_u","_law_v"] ["_law_purse_here"] (Zg ZN):=⟨rfl,rfl,rfl,by decide +kernel,rfl,by decide +kernel,by decide +kernel⟩
theorem Zcn {f:Addr} {fd:FuncData} (F:Fun K "_law_wedge" "_law_wedge" ZN f fd) (T:Txt K mg) (C_law_take:Cal P w K mg base "_law_take" 1 2 F_law_take) (C_law_short:Cal P w K mg base "_law_short" 101 1 F_law_short) (C_law_crossed:Cal P w K mg base "_law_crossed" 1 2 F_law_crossed):FnOk P w K mg base (CXE P w) 102 f fd ["_law_purse_here"] (spD K F_law_wedge):=
 ZaJ F ZE rfl rfl fun cdv A outer s H E hr θ=>(Zf (ZH 1 ZE.nd (Zr (Zbn (Za Zd (Za Zd Ze))) (Zi C_law_take θ (hr.mono (by decide)) (Za (Zb 0) (Za Zd Ze)))))
  (Zf (ZH 2 ZE.nd (Zi C_law_short θ (hr.mono (by decide)) (Za (ZJ (Za (ZR (Zi C_law_take θ (hr.mono (by decide)) (Za (Zb 0) (Za (Z2 (Zw Zd (Zb 1)) Zd) Ze))) (Zb 1)) (Za (ZR (Zi C_law_take θ (hr.mono (by decide)) (Za (Zb 0) (Za (Z2 (Zw Zd (Zb 1)) Zd) Ze))) (Zb 1)) Ze))) Ze)))
  (Zf (ZH 3 ZE.nd (Zi C_law_short θ (hr.mono (by decide)) (Za (ZJ (Za (ZR (Zi C_law_take θ (hr.mono (by decide)) (Za (Zb 0) (Za (Z2 (Zw Zd (Zb 1)) Zd) Ze))) (Zb 1)) (Za (ZR (Zi C_law_take θ (hr.mono (by decide)) (Za (Zb 0) (Za (Z2 (Zw Zd (Zb 1)) Zd) Ze))) (Zb 1)) Ze))) Ze)))
  (Zf (Zbv (Zas ZiF Zi0 (Zi C_law_crossed θ (hr.mono (by decide)) (Za (Zb 2) (Za (Zb 3) Ze))) Zd) (Zk (ZaH 2 3 (Zn hr (by decide)) ZE.nd (Za (Zb 3) (Za (Zb 2) Ze)))) Zaj)
  (Zf (Zbv (Zas (Zf9 hr.units) Zi2 (Zi C_law_crossed θ (hr.mono (by decide)) (Za (Zb 2) (Za (Zb 3) Ze))) Zd) (Zk (ZH 3 ZE.nd (ZJ (Za (ZR Zd (Zr (Zb 2) Zd)) (Za (Zr (Zb 2) Zd) Ze))))) Zaj)
  (Zk (ZS (ZJ (Za (Zb 2) (Za (Zb 3) Ze))))))))))
noncomputable abbrev Z0:Stmt:=top 17
noncomputable def Zam:Sv:=(Z4 (Zdq 6 7 (Zc (Zm F_law_crossed (Zc (Zh 0) (Zc (Za3 (Zc (Zh 4) (Zc (Zh 5) aNil))) aNil))) (Zc (Zm F_law_crossed (Zc (Za3 (Zc (Zh 4) (Zc (Zh 5) aNil))) (Zc (Zh 1) aNil))) aNil)))
 (sIf (Zed (tv (Zcz (e2 dLe (eC (.int 0)) (Zh 6)) (e2 dLe (Zh 6) (Zh 2)))) (Zed (tv (Zcz (e2 dLe (eC (.int 0)) (Zh 7)) (e2 dLe (Zh 7) (Zh 2)))) (tv (e2 dGt (e2 dAdd (Zh 6) (Zh 7)) (eC (.int 0)))))) (Zhm (Zh 3) (Za3 (Zc (Zh 4) (Zc (Zh 5) aNil))) (eC (.bl true))) sNil))
noncomputable def ZaN:Sv:=(Zbo (gNm 5) (Zc (e2 dAdd (Zm bMin (Zc (eC (.int 0)) (Zc (e2 dIx (Zh 0) (eC (.int 1))) aNil))) (Zm bMin (Zc (eC (.int 0)) (Zc (e2 dIx (Zh 1) (eC (.int 1))) aNil)))) (Zc (e2 dAdd (e2 dAdd (Zm bMax (Zc (eC (.int 0)) (Zc (e2 dIx (Zh 0) (eC (.int 1))) aNil))) (Zm bMax (Zc (eC (.int 0)) (Zc (e2 dIx (Zh 1) (eC (.int 1))) aNil)))) (eC (.int 1))) aNil)) Zam)
noncomputable def Zbs:Sv:=(Z4 (ZaG (gNm 2) (Zm F_law_crossed (Zc (Zh 0) (Zc (Zh 1) aNil))))
 (Z4 (ZaG (gNm 3) eDnT)
 (Z4 (Zbo (gNm 4) (Zc (e2 dAdd (Zm bMin (Zc (eC (.int 0)) (Zc (e2 dIx (Zh 0) (eC (.int 0))) aNil))) (Zm bMin (Zc (eC (.int 0)) (Zc (e2 dIx (Zh 1) (eC (.int 0))) aNil)))) (Zc (e2 dAdd (e2 dAdd (Zm bMax (Zc (eC (.int 0)) (Zc (e2 dIx (Zh 0) (eC (.int 0))) aNil))) (Zm bMax (Zc (eC (.int 0)) (Zc (e2 dIx (Zh 1) (eC (.int 0))) aNil)))) (eC (.int 1))) aNil)) ZaN)
 (Zbj (Zh 3)))))
noncomputable def F_law_dots:List D->Sto->Out D:=fnF Zbs 2 6
theorem ZO:FnScope ["_law_u","_law_v","_law_n","_law_found","_law_x","_law_y","_law_one","_law_other"] ["_law_u","_law_v"] (Zg Z0):=⟨rfl,rfl,rfl,by decide +kernel,rfl,by decide +kernel,by decide +kernel⟩
theorem ZcL {f:Addr} {fd:FuncData} (F:Fun K "_law_dots" "_law_dots" Z0 f fd) (T:Txt K mg) (C_law_crossed:Cal P w K mg base "_law_crossed" 1 2 F_law_crossed):FnOk P w K mg base (CXE P w) 101 f fd ["_law_u","_law_v"] (spD K F_law_dots):=
 ZaJ F ZO rfl rfl fun cdv A outer s H E hr θ=>(Zf (ZH 2 ZO.nd (Zi C_law_crossed θ (hr.mono (by decide)) (Za (Zb 0) (Za (Zb 1) Ze))))
  (Zf (ZH 3 ZO.nd Zjj)
  (Zf (Zc2 θ.own T.b_range (Za (Z2 (Zp (Zar (Zn hr (by decide))) ZbT T.b_min ZbZ (Za Zd (Za (Zr (Zb 0) Zd) Ze))) (Zp (Zar (Zn hr (by decide))) ZbT T.b_min ZbZ (Za Zd (Za (Zr (Zb 1) Zd) Ze)))) (Za (Z2 (Z2 (Zp (Zaq (Zn hr (by decide))) ZbS T.b_max ZbY (Za Zd (Za (Zr (Zb 0) Zd) Ze))) (Zp (Zaq (Zn hr (by decide))) ZbS T.b_max ZbY (Za Zd (Za (Zr (Zb 1) Zd) Ze)))) Zd) Ze)) (ZG 4 ZO.nd) (Zk (Zc2 θ.own T.b_range (Za (Z2 (Zp (Zar (Zn hr (by decide))) ZbT T.b_min ZbZ (Za Zd (Za (Zr (Zb 0) Zd) Ze))) (Zp (Zar (Zn hr (by decide))) ZbT T.b_min ZbZ (Za Zd (Za (Zr (Zb 1) Zd) Ze)))) (Za (Z2 (Z2 (Zp (Zaq (Zn hr (by decide))) ZbS T.b_max ZbY (Za Zd (Za (Zr (Zb 0) Zd) Ze))) (Zp (Zaq (Zn hr (by decide))) ZbS T.b_max ZbY (Za Zd (Za (Zr (Zb 1) Zd) Ze)))) Zd) Ze)) (ZG 5 ZO.nd) (Zf (ZaH 6 7 (Zn hr (by decide)) ZO.nd (Za (Zi C_law_crossed θ (hr.mono (by decide)) (Za (Zb 0) (Za (ZJ (Za (Zb 4) (Za (Zb 5) Ze))) Ze))) (Za (Zi C_law_crossed θ (hr.mono (by decide)) (Za (ZJ (Za (Zb 4) (Za (Zb 5) Ze))) (Za (Zb 1) Ze))) Ze)))
  (Zk (Zbv (Znk (Zf7 (Zgn ZdT Zee ZdT Zee Zgm Zd (Zb 6) (Zb 2)) (Zf7 (Zgn ZdT Zee ZdT Zee Zgm Zd (Zb 7) (Zb 2)) (Zg1 (Zas ZgM Zg4 (Z2 (Zb 6) (Zb 7)) Zd))))) (Zk (Zhn hr.units (Zb 3) (ZJ (Za (Zb 4) (Za (Zb 5) Ze))) Zg0)) Zaj))))))
  (Zk (ZS (Zb 3))))))
noncomputable abbrev ZB:Stmt:=top 18
noncomputable def Zac:Sv:=(sIf (Zdn (tv (Zm bAny (Zc (Zdr (ZfD (Zh 0)) 2 [0,2,3] (gTp (gCs (gNm 0) (gCs (gNm 1) gNl))) (fun _ M=> .ok true M) (e2 (Zif false) (Za3 (Zc (e2 dSub (Zh 3) (Zh 0)) (Zc (e2 dSub (Zh 4) (Zh 1)) aNil))) (Zh 2))) aNil)))) (Zdp (Zgk mApp (Zh 1) (Zc (Za3 (Zc (Zh 2) (Zc (Zh 3) aNil))) aNil))) sNil)
noncomputable def Zbi:Sv:=(Z4 (ZaG (gNm 1) (Ze5 aNil))
 (Z4 (ZfC (gTp (gCs (gNm 2) (gCs (gNm 3) gNl))) (ZfD (Zh 0)) Zac)
 (Zbj (Zm bSrt (Zc (Zh 1) aNil)))))
noncomputable def F_law_alone:List D->Sto->Out D:=fnF Zbi 1 3
theorem Z7:FnScope ["_law_spots","_law_found","_law_x","_law_y"] ["_law_spots"] (Zg ZB):=⟨rfl,rfl,rfl,by decide +kernel,rfl,by decide +kernel,by decide +kernel⟩
theorem Zco {f:Addr} {fd:FuncData} (F:Fun K "_law_alone" "_law_alone" ZB f fd) (T:Txt K mg):FnOk P w K mg base (CXE P w) 101 f fd ["_law_spots"] (spD K F_law_alone):=
 ZaJ F Z7 rfl rfl fun cdv A outer s H E hr θ=>(Zf (ZH 1 Z7.nd (Zbn Ze))
  (Zf (Zhk θ.own (Zey (Zb 0)) (ZbV (Zn hr (by decide)) (ZP (ZG 2 Z7.nd) (ZP (ZG 3 Z7.nd) Za7)) (hlen:=(Z9 (Z9 (fun _ _ _ h=>Za8 h))))) (Zk (Zbv (Zf8 (Zf6 (Zp (Zfz (Zn hr (by decide))) Zjd T.b_any Zjc (Za (Zhe (ZoD (XN:=["_law_spots","_law_found","_law_x","_law_y"]) (dn:=(Zg ZB).names) (N:=["_law_one","_law_other","_law_spots","_law_x","_law_y"]) (k:=2) (fr:=[0,2,3]) rfl rfl rfl rfl (by decide +kernel)) (Zey (Zb 0)) (fun _ _ _ _=>(ZbV (Zn hr (by decide)) (ZP (ZG 0 (show List.Nodup (["_law_one","_law_other","_law_spots","_law_x","_law_y"]:List Str) by decide +kernel)) (ZP (ZG 1 (show List.Nodup (["_law_one","_law_other","_law_spots","_law_x","_law_y"]:List Str) by decide +kernel)) Za7)) (hlen:=(Z9 (Z9 (fun _ _ _ h=>Za8 h)))))) (fun _ _ _ _=>(Or.inl ⟨rfl,rfl⟩)) (fun _ _ _ _=>(Zf5 (Zjk hr.units) Zjl (ZJ (Za (ZR (Zb 3) (Zb 0)) (Za (ZR (Zb 4) (Zb 1)) Ze))) (Zb 2)))) Ze)))) (Zk (ZcB (Za9 (Zb 1) (ZJ (Za (Zb 2) (Za (Zb 3) Ze)))))) Zaj)))
  (Zk (ZS (Zp Zbc Zcg T.b_sorted Zcd (Za (Zb 1) Ze))))))
noncomputable abbrev ZbF:Stmt:=top 19
noncomputable def ZbG:Sv:=(Z4 (ZaG (gTp (gCs (gNm 2) (gCs (gNm 3) gNl))) (Zm F_law_wedge (Zc (Zm F_law_purse (Zc (Zh 0) (Zc (Zh 1) aNil))) aNil)))
 (Z4 (ZaG (gNm 4) (Zm F_between (Zc (Zh 2) (Zc (Zh 3) aNil))))
 (sIf (Zk5 (Zdn (tv (Zk7 "list" (Zh 4)))) (tv (e2 dNe (Zm bSrt (Zc (e2 dAdd (Ze5 (Zc (Zh 2) (Zc (Zh 3) aNil))) (Zh 4)) aNil)) (Zm F_law_alone (Zc (Zm F_law_dots (Zc (Zh 2) (Zc (Zh 3) aNil))) aNil))))) (Zbj (eC (.bl false))) sNil)))
noncomputable def ZkV:Sv:=(Z4 (ZbW (gNm 1) (Zc (Zm bMax (Zc (eC (.int 1)) (Zc (Zm bMin (Zc (eC (.int 2)) (Zc (Zm bLen (Zc (Zh 0) aNil)) aNil))) aNil))) aNil) ZbG)
 (Zbj (eC (.bl true))))
noncomputable def ZcM:List D->Sto->Out D:=fnF ZkV 1 4
theorem Zcp:FnScope ["_law_script","_law_k","_law_u","_law_v","_law_rays"] ["_law_script"] (Zg ZbF):=⟨rfl,rfl,rfl,by decide +kernel,rfl,by decide +kernel,by decide +kernel⟩
theorem ZkW {f:Addr} {fd:FuncData} (F:Fun K "law" "law" ZbF f fd) (T:Txt K mg) (C_law_purse:Cal P w K mg base "_law_purse" 1 2 F_law_purse) (C_law_wedge:Cal P w K mg base "_law_wedge" 102 1 F_law_wedge) (C_between:Cal P w K mg base "between" 104 2 F_between) (C_law_dots:Cal P w K mg base "_law_dots" 101 2 F_law_dots) (C_law_alone:Cal P w K mg base "_law_alone" 101 1 F_law_alone):FnOk P w K mg base (CXE P w) 105 f fd ["_law_script"] (spD K ZcM):=
 ZaJ F Zcp rfl rfl fun cdv A outer s H E hr θ=>(Zf (Zfw θ.own T.b_range (Za (Zp (Zaq (Zn hr (by decide))) ZbS T.b_max ZbY (Za Zd (Za (Zp (Zar (Zn hr (by decide))) ZbT T.b_min ZbZ (Za Zd (Za (Zp ZaS Zgb T.b_len PySem.boot_len (Za (Zb 0) Ze)) Ze))) Ze))) Ze) (ZG 1 Zcp.nd) (Zf (Zem (Zi C_law_wedge θ (hr.mono (by decide)) (Za (Zi C_law_purse θ (hr.mono (by decide)) (Za (Zb 0) (Za (Zb 1) Ze))) Ze)) (ZbV (Zn hr (by decide)) (ZP (ZG 2 Zcp.nd) (ZP (ZG 3 Zcp.nd) Za7)) (hlen:=(Z9 (Z9 (fun _ _ _ h=>Za8 h))))))
  (Zf (ZH 4 Zcp.nd (Zi C_between θ (hr.mono (by decide)) (Za (Zb 2) (Za (Zb 3) Ze))))
  (Zk (Zbv (Znk (ZlA (Zf8 (Zf6 (Zi5 Zfr T.b_isinstance T.b_list Zha (Zb 4)))) (ZiS (Zas (Zej hr.units) Zg6 (Zp Zbc Zcg T.b_sorted Zcd (Za (Z2 (Zbn (Za (Zb 2) (Za (Zb 3) Ze))) (Zb 4)) Ze)) (Zi C_law_alone θ (hr.mono (by decide)) (Za (Zi C_law_dots θ (hr.mono (by decide)) (Za (Zb 2) (Za (Zb 3) Ze))) Ze)))))) (Zk (ZS Zg0)) Zaj)))))
  (Zk (ZS Zg0)))
end
theorem Zlf {α:Type} {P:List α->Prop} (h: ∀ x0,P [x0]): ∀ us:List α,us.length=1->P us
 | [x0],_=>h x0
theorem ZfW {α:Type} {P:List α->Prop} (h: ∀ x0 x1,P [x0,x1]): ∀ us:List α,us.length=2->P us
 | [x0,x1],_=>h x0 x1
theorem ZkX {l:PySem.W.OpenLaw} {w:World} {K:PySem.W.Frag} {h:Heap} {mg:Str->Option Value} {fa f1 f2 f3 f4 f5 f6 f7 f8 f9 f10 f11 f12 f13 f14:Addr} (X:K.In h) (G:h.Ns mainGlobals mg) (hfa:mg "law"=some (.ref fa))
  {od1 an1 od2 an2 od3 an3 od4 an4 od5 an5 od6 an6 od7 an7 od8 an8 od9 an9 od10 an10 od11 an11 od12 an12 od13 an13 od14 an14:Option Addr} {sl1 sl2 sl3 sl4 sl5 sl6 sl7 sl8 sl9 sl10 sl11 sl12 sl13 sl14:Array (Option Value)} {oc1 kV1 dc1 pm1 cd1 ct1 oc2 kV2 dc2 pm2 cd2 ct2 oc3 kV3 dc3 pm3 cd3 ct3 oc4 kV4 dc4 pm4 cd4 ct4 oc5 kV5 dc5 pm5 cd5 ct5 oc6 kV6 dc6 pm6 cd6 ct6 oc7 kV7 dc7 pm7 cd7 ct7 oc8 kV8 dc8 pm8 cd8 ct8 oc9 kV9 dc9 pm9 cd9 ct9 oc10 kV10 dc10 pm10 cd10 ct10 oc11 kV11 dc11 pm11 cd11 ct11 oc12 kV12 dc12 pm12 cd12 ct12 oc13 kV13 dc13 pm13 cd13 ct13 oc14 kV14 dc14 pm14 cd14 ct14:Value}
  (a1:PySem.W.nsIn K mainGlobals "crossed"=some (some (.ref f1))) (l1:K.lookup f1=some ⟨oc1,od1,.func (PySem.W.fnOf "crossed" "crossed" (Zt Zaf) (Zq Zaf) (Zg Zaf) .none kV1 dc1 pm1 an1 cd1 ct1),sl1⟩) (c1:PySem.W.codeIn K cd1 "crossed"=true) (k1:PySem.W.keepIn K (.ref f1)=true)
  (a2:PySem.W.nsIn K mainGlobals "partner"=some (some (.ref f2))) (l2:K.lookup f2=some ⟨oc2,od2,.func (PySem.W.fnOf "partner" "partner" (Zt Zag) (Zq Zag) (Zg Zag) .none kV2 dc2 pm2 an2 cd2 ct2),sl2⟩) (c2:PySem.W.codeIn K cd2 "partner"=true) (k2:PySem.W.keepIn K (.ref f2)=true)
  (a3:PySem.W.nsIn K mainGlobals "first_behind"=some (some (.ref f3))) (l3:K.lookup f3=some ⟨oc3,od3,.func (PySem.W.fnOf "first_behind" "first_behind" (Zt Zv) (Zq Zv) (Zg Zv) .none kV3 dc3 pm3 an3 cd3 ct3),sl3⟩) (c3:PySem.W.codeIn K cd3 "first_behind"=true) (k3:PySem.W.keepIn K (.ref f3)=true)
  (a4:PySem.W.nsIn K mainGlobals "expanded"=some (some (.ref f4))) (l4:K.lookup f4=some ⟨oc4,od4,.func (PySem.W.fnOf "expanded" "expanded" (Zt ZX) (Zq ZX) (Zg ZX) .none kV4 dc4 pm4 an4 cd4 ct4),sl4⟩) (c4:PySem.W.codeIn K cd4 "expanded"=true) (k4:PySem.W.keepIn K (.ref f4)=true)
  (a5:PySem.W.nsIn K mainGlobals "row"=some (some (.ref f5))) (l5:K.lookup f5=some ⟨oc5,od5,.func (PySem.W.fnOf "row" "row" (Zt ZdB) (Zq ZdB) (Zg ZdB) .none kV5 dc5 pm5 an5 cd5 ct5),sl5⟩) (c5:PySem.W.codeIn K cd5 "row"=true) (k5:PySem.W.keepIn K (.ref f5)=true)
  (a6:PySem.W.nsIn K mainGlobals "between"=some (some (.ref f6))) (l6:K.lookup f6=some ⟨oc6,od6,.func (PySem.W.fnOf "between" "between" (Zt Zah) (Zq Zah) (Zg Zah) .none kV6 dc6 pm6 an6 cd6 ct6),sl6⟩) (c6:PySem.W.codeIn K cd6 "between"=true) (k6:PySem.W.keepIn K (.ref f6)=true)
  (a7:PySem.W.nsIn K mainGlobals "_law_purse"=some (some (.ref f7))) (l7:K.lookup f7=some ⟨oc7,od7,.func (PySem.W.fnOf "_law_purse" "_law_purse" (Zt ZL) (Zq ZL) (Zg ZL) .none kV7 dc7 pm7 an7 cd7 ct7),sl7⟩) (c7:PySem.W.codeIn K cd7 "_law_purse"=true) (k7:PySem.W.keepIn K (.ref f7)=true)
  (a8:PySem.W.nsIn K mainGlobals "_law_take"=some (some (.ref f8))) (l8:K.lookup f8=some ⟨oc8,od8,.func (PySem.W.fnOf "_law_take" "_law_take" (Zt ZZ) (Zq ZZ) (Zg ZZ) .none kV8 dc8 pm8 an8 cd8 ct8),sl8⟩) (c8:PySem.W.codeIn K cd8 "_law_take"=true) (k8:PySem.W.keepIn K (.ref f8)=true)
  (a9:PySem.W.nsIn K mainGlobals "_law_crossed"=some (some (.ref f9))) (l9:K.lookup f9=some ⟨oc9,od9,.func (PySem.W.fnOf "_law_crossed" "_law_crossed" (Zt Zx) (Zq Zx) (Zg Zx) .none kV9 dc9 pm9 an9 cd9 ct9),sl9⟩) (c9:PySem.W.codeIn K cd9 "_law_crossed"=true) (k9:PySem.W.keepIn K (.ref f9)=true)
  (a10:PySem.W.nsIn K mainGlobals "_law_short"=some (some (.ref f10))) (l10:K.lookup f10=some ⟨oc10,od10,.func (PySem.W.fnOf "_law_short" "_law_short" (Zt ZM) (Zq ZM) (Zg ZM) .none kV10 dc10 pm10 an10 cd10 ct10),sl10⟩) (c10:PySem.W.codeIn K cd10 "_law_short"=true) (k10:PySem.W.keepIn K (.ref f10)=true)
  (a11:PySem.W.nsIn K mainGlobals "_law_wedge"=some (some (.ref f11))) (l11:K.lookup f11=some ⟨oc11,od11,.func (PySem.W.fnOf "_law_wedge" "_law_wedge" (Zt ZN) (Zq ZN) (Zg ZN) .none kV11 dc11 pm11 an11 cd11 ct11),sl11⟩) (c11:PySem.W.codeIn K cd11 "_law_wedge"=true) (k11:PySem.W.keepIn K (.ref f11)=true)
  (a12:PySem.W.nsIn K mainGlobals "_law_dots"=some (some (.ref f12))) (l12:K.lookup f12=some ⟨oc12,od12,.func (PySem.W.fnOf "_law_dots" "_law_dots" (Zt Z0) (Zq Z0) (Zg Z0) .none kV12 dc12 pm12 an12 cd12 ct12),sl12⟩) (c12:PySem.W.codeIn K cd12 "_law_dots"=true) (k12:PySem.W.keepIn K (.ref f12)=true)
  (a13:PySem.W.nsIn K mainGlobals "_law_alone"=some (some (.ref f13))) (l13:K.lookup f13=some ⟨oc13,od13,.func (PySem.W.fnOf "_law_alone" "_law_alone" (Zt ZB) (Zq ZB) (Zg ZB) .none kV13 dc13 pm13 an13 cd13 ct13),sl13⟩) (c13:PySem.W.codeIn K cd13 "_law_alone"=true) (k13:PySem.W.keepIn K (.ref f13)=true)
  (a14:PySem.W.nsIn K mainGlobals "law"=some (some (.ref f14))) (l14:K.lookup f14=some ⟨oc14,od14,.func (PySem.W.fnOf "law" "law" (Zt ZbF) (Zq ZbF) (Zg ZbF) .none kV14 dc14 pm14 an14 cd14 ct14),sl14⟩) (c14:PySem.W.codeIn K cd14 "law"=true) (k14:PySem.W.keepIn K (.ref f14)=true)
  (z_len:PySem.W.nsIn K mainGlobals "len"=some none)
  (z_int:PySem.W.nsIn K mainGlobals "int"=some none)
  (z_abs:PySem.W.nsIn K mainGlobals "abs"=some none)
  (z_max:PySem.W.nsIn K mainGlobals "max"=some none)
  (z_min:PySem.W.nsIn K mainGlobals "min"=some none)
  (z_range:PySem.W.nsIn K mainGlobals "range"=some none)
  (z_any:PySem.W.nsIn K mainGlobals "any"=some none)
  (z_sorted:PySem.W.nsIn K mainGlobals "sorted"=some none)
  (z_isinstance:PySem.W.nsIn K mainGlobals "isinstance"=some none)
  (z_list:PySem.W.nsIn K mainGlobals "list"=some none)
  (q_ex_NoWedge:Zje K "NoWedge"=true)
  : ∃ fd:FuncData,(∀ (s:Shared) (v:Value),BindsTo s fd ⟨[v],[]⟩ [("_law_script",v)])/\ ∀ base:Heap,K.In base->base.Ns mainGlobals mg->FnOk l.prog w K mg base (CXE l.prog w) 105 fa fd ["_law_script"] (spD K ZcM):=by
 have e:=hfa.symm.trans (PySem.W.mg_of X G a14)
 cases e
 have T:Txt K mg:=⟨fun c v e=>PySem.W.mg_of X G e,PySem.W.mg_none_of X G z_len,PySem.W.mg_none_of X G z_int,PySem.W.mg_none_of X G z_abs,PySem.W.mg_none_of X G z_max,PySem.W.mg_none_of X G z_min,PySem.W.mg_none_of X G z_range,PySem.W.mg_none_of X G z_any,PySem.W.mg_none_of X G z_sorted,PySem.W.mg_none_of X G z_isinstance,PySem.W.mg_none_of X G z_list,q_ex_NoWedge⟩
 have R1:=Z5 (st:=Zaf) l1 c1 k1
 have R2:=Z5 (st:=Zag) l2 c2 k2
 have R3:=Z5 (st:=Zv) l3 c3 k3
 have R4:=Z5 (st:=ZX) l4 c4 k4
 have R5:=Z5 (st:=ZdB) l5 c5 k5
 have R6:=Z5 (st:=Zah) l6 c6 k6
 have R7:=Z5 (st:=ZL) l7 c7 k7
 have R8:=Z5 (st:=ZZ) l8 c8 k8
 have R9:=Z5 (st:=Zx) l9 c9 k9
 have R10:=Z5 (st:=ZM) l10 c10 k10
 have R11:=Z5 (st:=ZN) l11 c11 k11
 have R12:=Z5 (st:=Z0) l12 c12 k12
 have R13:=Z5 (st:=ZB) l13 c13 k13
 have R14:=Z5 (st:=ZbF) l14 c14 k14
 refine ⟨PySem.W.fnOf "law" "law" (Zt ZbF) (Zq ZbF) (Zg ZbF) .none kV14 dc14 pm14 an14 cd14 ct14,fun s v=> .of_eq rfl,fun base _ _=> ?_⟩
 have C1:Cal l.prog w K mg base "crossed" 1 2 F_crossed:=⟨f1,_,["one","other"],Zdz R1 T,PySem.W.mg_of X G a1,k1,rfl,R1.binds (ps:=["one","other"]) fun _ _ _ _ _ _=>ZfW fun _ _=>rfl⟩
 have C2:Cal l.prog w K mg base "partner" 101 1 F_partner:=⟨f2,_,["ray"],ZdA R2 T,PySem.W.mg_of X G a2,k2,rfl,R2.binds (ps:=["ray"]) fun _ _ _ _ _ _=>Zlf fun _=>rfl⟩
 have C3:Cal l.prog w K mg base "first_behind" 102 2 F_first_behind:=⟨f3,_,["u","v"],Zbf R3 T C2 C1,PySem.W.mg_of X G a3,k3,rfl,R3.binds (ps:=["u","v"]) fun _ _ _ _ _ _=>ZfW fun _ _=>rfl⟩
 have C4:Cal l.prog w K mg base "expanded" 101 2 F_expanded:=⟨f4,_,["top","bottom"],ZcJ R4 T,PySem.W.mg_of X G a4,k4,rfl,R4.binds (ps:=["top","bottom"]) fun _ _ _ _ _ _=>ZfW fun _ _=>rfl⟩
 have C5:Cal l.prog w K mg base "row" 103 2 F_row:=⟨f5,_,["u","v"],ZkU R5 T C1 C3 C4,PySem.W.mg_of X G a5,k5,rfl,R5.binds (ps:=["u","v"]) fun _ _ _ _ _ _=>ZfW fun _ _=>rfl⟩
 have C6:Cal l.prog w K mg base "between" 104 2 F_between:=⟨f6,_,["u","v"],ZdC R6 T C5 C3,PySem.W.mg_of X G a6,k6,rfl,R6.binds (ps:=["u","v"]) fun _ _ _ _ _ _=>ZfW fun _ _=>rfl⟩
 have C7:Cal l.prog w K mg base "_law_purse" 1 2 F_law_purse:=⟨f7,_,["_law_script","_law_k"],Zcl R7 T,PySem.W.mg_of X G a7,k7,rfl,R7.binds (ps:=["_law_script","_law_k"]) fun _ _ _ _ _ _=>ZfW fun _ _=>rfl⟩
 have C8:Cal l.prog w K mg base "_law_take" 1 2 F_law_take:=⟨f8,_,["_law_purse_here","_law_many"],ZcK R8 T,PySem.W.mg_of X G a8,k8,rfl,R8.binds (ps:=["_law_purse_here","_law_many"]) fun _ _ _ _ _ _=>ZfW fun _ _=>rfl⟩
 have C9:Cal l.prog w K mg base "_law_crossed" 1 2 F_law_crossed:=⟨f9,_,["_law_one","_law_other"],Zbl R9 T,PySem.W.mg_of X G a9,k9,rfl,R9.binds (ps:=["_law_one","_law_other"]) fun _ _ _ _ _ _=>ZfW fun _ _=>rfl⟩
 have C10:Cal l.prog w K mg base "_law_short" 101 1 F_law_short:=⟨f10,_,["_law_pair"],Zcm R10 T,PySem.W.mg_of X G a10,k10,rfl,R10.binds (ps:=["_law_pair"]) fun _ _ _ _ _ _=>Zlf fun _=>rfl⟩
 have C11:Cal l.prog w K mg base "_law_wedge" 102 1 F_law_wedge:=⟨f11,_,["_law_purse_here"],Zcn R11 T C8 C10 C9,PySem.W.mg_of X G a11,k11,rfl,R11.binds (ps:=["_law_purse_here"]) fun _ _ _ _ _ _=>Zlf fun _=>rfl⟩
 have C12:Cal l.prog w K mg base "_law_dots" 101 2 F_law_dots:=⟨f12,_,["_law_u","_law_v"],ZcL R12 T C9,PySem.W.mg_of X G a12,k12,rfl,R12.binds (ps:=["_law_u","_law_v"]) fun _ _ _ _ _ _=>ZfW fun _ _=>rfl⟩
 have C13:Cal l.prog w K mg base "_law_alone" 101 1 F_law_alone:=⟨f13,_,["_law_spots"],Zco R13 T,PySem.W.mg_of X G a13,k13,rfl,R13.binds (ps:=["_law_spots"]) fun _ _ _ _ _ _=>Zlf fun _=>rfl⟩
 exact ZkW R14 T C7 C11 C6 C12 C13
end K17
end
section
namespace K17
open PySem PySem.Spec L2 DL
open CB (Bd Wg Fb Zld ZeX Zbr ZcI ZW sq0 Zck Sd Hc ZkR btw)
section
variable {Q:D->Sto->Prop} {E:Str->Sto->Prop} {M:Sto} {n m p d:Nat} {u v:Pt} {N B C:Ro->Sto->Prop} {R:D->Sto->Prop}
theorem Zh1 (hb:Bag n M) (q: ∀ u v M',Wg u v->Bd 7 u->Bd 7 v->Gr n M M'->Q (.tup [pr u.1 u.2,pr v.1 v.2]) M'):wO (F_law_wedge [.ref n] M) Q E:=by
 simp![F_law_wedge,Zbh]
 refine Zbr (hb.app _) (by decide) fun r M1 r0 r1 g1=> ?_
 have k1:=Gr.new hb g1
 simp![k1]
 obtain ⟨sz,hs,z0,z1⟩: ∃ f:Int,atI [D.int 4,D.int 7] r=some (.int f)/\1<=f/\f<=7:=by
  have:r=0\/r=1:=by omega
  rcases this with rfl | rfl
  ·exact ⟨4,rfl,by decide,by decide⟩
  ·exact ⟨7,rfl,by decide,by decide⟩
 simp![hs]
 refine Zbr g1.bag (by omega) fun x1 M2 a0 a1 g2=> ?_
 simp![Zo]
 refine Zbr g2.bag (by omega) fun x2 M3 b0 b1 g3=> ?_
 simp![Zo]
 refine ZcI (B:=7) (by decide) (by omega) (by omega) fun u gu bu=> ?_
 simp![Zo]
 refine Zbr g3.bag (by omega) fun x3 M4 c0 c1 g4=> ?_
 simp![Zo]
 refine Zbr g4.bag (by omega) fun x4 M5 d0 d1 g5=> ?_
 simp![Zo]
 refine ZcI (B:=7) (by decide) (by omega) (by omega) fun v gv bv=> ?_
 have gr:Gr n M M5:=((((Gr.app hb _).trans g1).trans g2).trans (g3.trans (g4.trans g5)))
 have B6: ∀ {p:Pt},Bd 7 p->Bd 1000000 p:=fun h=>by unfold Bd at *;omega
 have B3: ∀ {p:Pt},Bd 7 p->Bd 1000 p:=fun h=>by unfold Bd at *;omega
 have B2: ∀ {p:Pt},Bd 7 p->Bd 200 p:=fun h=>by unfold Bd at *;omega
 have xl:=Zld (B2 bu) (B2 bv)
 simp![ZW (u:=u) (v:=v) (.inr (B6 bv))]
 refine ZnB (fun ρ M'=>M'=M5/\ ∃ (u v:Pt) (x:Option D),ρ=[some (.ref n),x,some (pr u.1 u.2),some (pr v.1 v.2)]/\Int.gcd u.1 u.2=1/\Int.gcd v.1 v.2=1/\Bd 7 u/\Bd 7 v/\0<=X u v) ?_ ?_
 ·refine brS (fun h=> ?_) (fun h=> ?_)
  ·simp![Zo]
   refine ⟨v,u,_,rfl,gv,gu,bv,bu,?_⟩
   have:X v u=0 - X u v:=Zlc
   omega
  ·simp![Zo]
   exact ⟨u,v,_,rfl,gu,gv,bu,bv,by omega⟩
 rintro _ M5 ⟨rfl,u,v,x,rfl,gu,gv,bu,bv,hp⟩
 have xl:=Zld (B2 bu) (B2 bv)
 simp![ZW (u:=u) (v:=v) (.inr (B6 bv))]
 refine ZnB (fun ρ M'=>M'=M5/\ ∃ (u v:Pt) (x:Option D),ρ=[some (.ref n),x,some (pr u.1 u.2),some (pr v.1 v.2)]/\Wg u v/\Bd 7 u/\Bd 7 v) ?_ ?_
 ·refine brS (fun h=> ?_) (fun h=> ?_)
  ·simp![Zo]
   have bv2:Bd 7 (0 - u.2,u.1):=by unfold Bd at *;simp only;omega
   refine ⟨u,(0 - u.2,u.1),_,rfl,⟨gu,?_,B3 bu,B3 bv2,?_⟩,bu,bv2⟩
   ·show Int.gcd (0 - u.2) u.1=1
    rw[Int.zero_sub,Int.neg_gcd,Int.gcd_comm]
    exact gu
   ·have e:X u (0 - u.2,u.1)=u.1 * u.1 + u.2 * u.2:=by unfold X;simp only;grind
    rw[e]
    have h1:0<=u.1 * u.1:=sq0 _
    have h2:0<=u.2 * u.2:=sq0 _
    apply Classical.byContradiction
    intro c
    have e1:u.1 * u.1=0:=by omega
    have e2:u.2 * u.2=0:=by omega
    have f1:u.1=0:=by rcases Int.mul_eq_zero.mp e1 with z | z<;>exact z
    have f2:u.2=0:=by rcases Int.mul_eq_zero.mp e2 with z | z<;>exact z
    rw[f1,f2] at gu
    simp at gu
  ·simp![Zo]
   exact ⟨u,v,_,rfl,⟨gu,gv,B3 bu,B3 bv,by omega⟩,bu,bv⟩
 rintro _ M5 ⟨rfl,u,v,x,rfl,hw,bu,bv⟩
 simp![Zo]
 exact q u v M5 hw bu bv gr
noncomputable def kd (ks:List Pt):List D:=ks.map fun p=> .tup [pr p.1 p.2,.bl true]
noncomputable def ky (p:Pt):List Key:=[.inl p.1,.inl p.2]
theorem ZkY {p q:Pt} (h:ky p=ky q):p=q:=by
 simp only[ky,List.cons.injEq,Sum.inl.injEq] at h
 exact Prod.ext h.1 h.2.1
theorem Ze2 {p:Pt}: ∀ ks:List Pt,Zcs kT (ky p) (kd ks)=if p∈ks then some (.bl true) else none
 | []=>rfl
 |k :: ks=>by
  have ih:=Ze2 (p:=p) ks
  show (if kT (pr k.1 k.2)=some (ky p) then some (D.bl true) else Zcs kT (ky p) (kd ks))=_
  have e:kT (pr k.1 k.2)=some (ky k):=rfl
  rw[e,ih]
  by_cases c:k=p
  ·subst c;simp
  ·rw[if_neg (fun z=>c (ZkY (Option.some.inj z)))]
   by_cases m:p∈ks
   ·rw[if_pos m,if_pos (List.mem_cons_of_mem _ m)]
   ·rw[if_neg m,if_neg (fun z=>(List.mem_cons.mp z).elim (fun z=>c z.symm) m)]
theorem ZgA (ks:List Pt):nfz (kd ks)=true:=by cases ks<;>rfl
theorem ZkZ {p:Pt} {ks:List Pt} (h:p ∉ ks):Zie kT (ky p) (pr p.1 p.2) (.bl true) (kd ks)=kd (ks ++ [p]):=by
 unfold Zie
 rw[Ze2,if_neg h,if_neg (by simp)]
 unfold kd
 simp
theorem Zm6 {ks:List Pt} {x:Pt} (h:M[d]?=some (.lst (kd ks))) (hl:ks.length < 10000000) (hx:x ∉ ks):Zig M (.dt d) (pr x.1 x.2) (.bl true)=some (M.set d (.lst (kd (ks ++ [x])))):=by
 have e1:kT (pr x.1 x.2)=some (ky x):=rfl
 simp only[Zig,e1,h]
 rw[if_pos ⟨by unfold kd;rw[List.length_map];exact hl,ZgA ks⟩,ZkZ hx]
noncomputable def Kp0 (d:Nat) (M M':Sto):Prop:=M'.length=M.length/\ ∀ j,j≠d->M'[j]?=M[j]?
theorem Zh2 {ks:List Pt} {x y:Int} {x6 x7:Option D} (hu:Bd 7 u) (hv:Bd 7 v) (hx: -14<=x/\x<=14) (hy: -14<=y/\y<=14) (h:M[d]?=some (.lst (kd ks))) (hl:ks.length < 100000) (hn:(x,y) ∉ ks)
  (hN: ∀ x6 x7 ks' M',Kp0 d M M'->M'[d]?=some (.lst (kd ks'))->(ks'=ks ++ [(x,y)]/\Sd u v (x,y)\/ks'=ks/\ ¬ Sd u v (x,y))->N [some (pr u.1 u.2),some (pr v.1 v.2),some (.int (X u v)),some (.dt d),some (.int x),some (.int y),x6,x7] M'):
  wS (Zam [some (pr u.1 u.2),some (pr v.1 v.2),some (.int (X u v)),some (.dt d),some (.int x),some (.int y),x6,x7] M) N R B C E:=by
 have b6:Bd 1000000 u:=by unfold Bd at *;omega
 have b7:Bd 1000000 v:=by unfold Bd at *;omega
 have c1: ∀ {Q:D->Sto->Prop} {E:Str->Sto->Prop},wO (CB.F_law_crossed [pr u.1 u.2,.tup [.int x,.int y]] M) Q E=Q (.int (X u (x,y))) M:=fun {Q E}=>ZW (u:=u) (v:=(x,y)) (.inl b6)
 have c2: ∀ {Q:D->Sto->Prop} {E:Str->Sto->Prop},wO (CB.F_law_crossed [.tup [.int x,.int y],pr v.1 v.2] M) Q E=Q (.int (X (x,y) v)) M:=fun {Q E}=>ZW (u:=(x,y)) (v:=v) (.inr b7)
 have no: ¬ Sd u v (x,y)->N [some (pr u.1 u.2),some (pr v.1 v.2),some (.int (X u v)),some (.dt d),some (.int x),some (.int y),some (.int (X u (x,y))),some (.int (X (x,y) v))] M:=fun z=>hN _ _ ks M ⟨rfl,fun _ _=>rfl⟩ h (.inr ⟨rfl,z⟩)
 have put:=Zm6 (x:=(x,y)) h (by omega) hn
 simp![Zam,c1,c2]
 refine brO (fun z1=> ?_) (fun z1=> ?_)
 ·simp![Zo]
  refine brO (fun z2=> ?_) (fun z2=> ?_)
  ·simp![Zo]
   refine brO (fun z3=> ?_) (fun z3=> ?_)
   ·simp![Zo]
    refine brO (fun z4=> ?_) (fun z4=> ?_)
    ·simp![Zo]
     refine brS (fun z5=> ?_) (fun z5=> ?_)
     ·have e:Zhm (Zh 3) (Za3 (Zc (Zh 4) (Zc (Zh 5) aNil))) (eC (.bl true)) [some (pr u.1 u.2),some (pr v.1 v.2),some (.int (X u v)),some (.dt d),some (.int x),some (.int y),some (.int (X u (x,y))),some (.int (X (x,y) v))] M= .nx [some (pr u.1 u.2),some (pr v.1 v.2),some (.int (X u v)),some (.dt d),some (.int x),some (.int y),some (.int (X u (x,y))),some (.int (X (x,y) v))] (M.set d (.lst (kd (ks ++ [(x,y)])))):=by
       show (match Zig M (.dt d) (pr (x,y).1 (x,y).2) (.bl true) with | some M4=>Fl.nx _ M4 | none=> .bad)=_
       rw[put]
      rw[e]
      exact hN _ _ _ _ ⟨List.length_set ..,fun j hj=>List.getElem?_set_ne (Ne.symm hj)⟩ (List.getElem?_set_self (Zan h)) (.inl ⟨rfl,⟨z1,z2⟩,⟨z3,z4⟩,z5⟩)
     ·simp![Zo]
      exact no fun z=>z5 z.2.2
    ·simp![Zo]
     exact no fun z=>z4 z.2.1.2
   ·simp![Zo]
    exact no fun z=>z3 z.2.1.1
  ·simp![Zo]
   exact no fun z=>z2 z.1.2
 ·simp![Zo]
  exact no fun z=>z1 z.1.1
theorem Zlg {n s a:Int} (h0:0<=s) (h1:s<=n):n * min 0 a<=s * a/\s * a<=n * max 0 a:=by
 by_cases c:0<=a
 ·rw[Int.min_eq_left c,Int.max_eq_right c,Int.mul_zero]
  exact ⟨Int.mul_nonneg h0 c,Int.mul_le_mul_of_nonneg_right h1 c⟩
 ·rw[Int.min_eq_right (by omega),Int.max_eq_left (by omega),Int.mul_zero]
  have a1:=Int.mul_nonneg h0 (show 0<= -a by omega)
  have a2:=Int.mul_le_mul_of_nonneg_right h1 (show 0<= -a by omega)
  rw[Int.mul_neg] at a1
  rw[Int.mul_neg,Int.mul_neg] at a2
  omega
theorem box {p:Pt} (h:Sd u v p):(min 0 u.1 + min 0 v.1<=p.1/\p.1<=max 0 u.1 + max 0 v.1)/\min 0 u.2 + min 0 v.2<=p.2/\p.2<=max 0 u.2 + max 0 v.2:=by
 obtain ⟨⟨h1,h2⟩,⟨h3,h4⟩,h5⟩:=h
 have n0:0 < X u v:=by omega
 have e1:X u v * p.1=X p v * u.1 + X u p * v.1:=by unfold X;grind
 have e2:X u v * p.2=X p v * u.2 + X u p * v.2:=by unfold X;grind
 have a1:=Zlg (a:=u.1) h3 h4
 have a2:=Zlg (a:=v.1) h1 h2
 have a3:=Zlg (a:=u.2) h3 h4
 have a4:=Zlg (a:=v.2) h1 h2
 refine ⟨⟨?_,?_⟩,?_,?_⟩<;>refine Int.le_of_mul_le_mul_left ?_ n0<;>rw[Int.mul_add]<;>omega
noncomputable def Dn (u v:Pt) (P:Pt->Prop) (ks:List Pt):Prop:=ks.Nodup/\ ∀ p,p∈ks ↔ P p/\Sd u v p
theorem Dn.put {P P':Pt->Prop} {ks ks':List Pt} {z:Pt} (h:Dn u v P ks) (hz: ¬ P z) (hP: ∀ p,P' p ↔ P p\/p=z) (k:ks'=ks ++ [z]/\Sd u v z\/ks'=ks/\ ¬ Sd u v z):Dn u v P' ks':=by
 obtain ⟨h1,h2⟩:=h
 rcases k with ⟨rfl,k⟩ | ⟨rfl,k⟩
 ·refine ⟨List.nodup_append.mpr ⟨h1,by simp,fun a ha b hb e=> ?_⟩,fun p=> ?_⟩
  ·rw[e,List.mem_singleton.mp hb] at ha
   exact hz ((h2 z).mp ha).1
  ·rw[List.mem_append,h2,hP,List.mem_singleton]
   constructor
   ·rintro (⟨a,b⟩ | rfl)
    ·exact ⟨.inl a,b⟩
    ·exact ⟨.inr rfl,k⟩
   ·rintro ⟨a | rfl,b⟩
    ·exact .inl ⟨a,b⟩
    ·exact .inr rfl
 ·refine ⟨h1,fun p=> ?_⟩
  rw[h2,hP]
  constructor
  ·rintro ⟨a,b⟩
   exact ⟨.inl a,b⟩
  ·rintro ⟨a | rfl,b⟩
   ·exact ⟨a,b⟩
   ·exact absurd b k
theorem Zm7 {ρ:Ro}:wO (eDnT ρ M) Q E=Q (.dt M.length) (M ++ [.lst []]):=rfl
noncomputable def Kp (M M':Sto):Prop:=M.length<=M'.length/\ ∀ j < M.length,M'[j]?=M[j]?
theorem Kp.get {M M':Sto} {j:Nat} {o:SO} (k:Kp M M') (h:M[j]?=some o):M'[j]?=some o:=(k.2 _ (Zan h)).trans h
theorem Kp.refl:Kp M M:=⟨Nat.le_refl _,fun _ _=>rfl⟩
theorem Kp.trans {M M1 M2:Sto} (a:Kp M M1) (b:Kp M1 M2):Kp M M2:=⟨Nat.le_trans a.1 b.1,fun j h=>(b.2 j (Nat.lt_of_lt_of_le h a.1)).trans (a.2 j h)⟩
theorem Kp.app {L:Sto}:Kp M (M ++ L):=⟨by simp,fun j h=>ZcH h⟩
theorem Kp0.kp {M M1 M2:Sto} (h:Kp0 d M1 M2) (k:Kp M M1) (hd:M.length<=d):Kp M M2:=⟨by rw[h.1];exact k.1,fun j hj=>(h.2 j (by omega)).trans (k.2 j hj)⟩
theorem Zk0 (hu:Bd 7 u) (hv:Bd 7 v) (q: ∀ ks d M',Kp M M'->M.length<=d->M'[d]?=some (.lst (kd ks))->ks.Nodup->(∀ p,p∈ks ↔ Sd u v p)->ks.length < 100000->Q (.dt d) M'):wO (F_law_dots [pr u.1 u.2,pr v.1 v.2] M) Q E:=by
 have b6:Bd 1000000 u:=by unfold Bd at *;omega
 simp![F_law_dots,Zbs,ZW (u:=u) (v:=v) (.inl b6),Zm7]
 unfold Bd at hu hv
 have bx: -14<=min 0 u.1 + min 0 v.1/\max 0 u.1 + max 0 v.1<=14/\min 0 u.1 + min 0 v.1<=max 0 u.1 + max 0 v.1:=by omega
 have by': -14<=min 0 u.2 + min 0 v.2/\max 0 u.2 + max 0 v.2<=14/\min 0 u.2 + min 0 v.2<=max 0 u.2 + max 0 v.2:=by omega
 refine ⟨by omega,?_⟩
 have bo:=fun p (h:Sd u v p)=>box h
 generalize hx0:min 0 u.1 + min 0 v.1=x0 at *
 generalize hx1:max 0 u.1 + max 0 v.1=x1 at *
 generalize hy0:min 0 u.2 + min 0 v.2=y0 at *
 generalize hy1:max 0 u.2 + max 0 v.2=y1 at *
 have K0:Kp M (M ++ [SO.lst []]):=Kp.app
 have r0:(M ++ [SO.lst []])[M.length]?=some (.lst (kd [])):=by simp[kd]
 generalize M ++ [SO.lst []]=M0 at *
 obtain ⟨d,hdd⟩: ∃ d,M.length=d:=⟨_,rfl⟩
 have hd:M.length<=d:=by omega
 rw[hdd] at r0 ⊢
 refine ZeP (fun i ρ M'=>Kp M M'/\ ∃ ks x4 x5 x6 x7,ρ=[some (pr u.1 u.2),some (pr v.1 v.2),some (.int (X u v)),some (.dt d),x4,x5,x6,x7]/\M'[d]?=some (.lst (kd ks))/\ks.length<=100 * i/\Dn u v (fun p=>(x0<=p.1/\p.1 < x0 + i)/\y0<=p.2/\p.2<=y1) ks) ⟨K0,[],_,_,_,_,rfl,r0,by simp,by simp,fun p=> ?_⟩ ?_ ?_
 ·constructor
  ·intro h;simp at h
  ·rintro ⟨⟨h1,_⟩,_⟩;omega
 ·rintro i ρ M1 hi ⟨K1,ks,x4,x5,x6,x7,rfl,r1,l1,D1⟩
  simp![ZaN]
  rw[hy0,hy1]
  refine ⟨by omega,?_⟩
  refine ZeP (fun j ρ M'=>Kp M M'/\ ∃ ks x5 x6 x7,ρ=[some (pr u.1 u.2),some (pr v.1 v.2),some (.int (X u v)),some (.dt d),some (.int (x0 + i)),x5,x6,x7]/\M'[d]?=some (.lst (kd ks))/\ks.length<=100 * i + j/\Dn u v (fun p=>((x0<=p.1/\p.1 < x0 + i)/\y0<=p.2/\p.2<=y1)\/p.1=x0 + i/\y0<=p.2/\p.2 < y0 + j) ks) ⟨K1,ks,_,_,_,rfl,r1,by omega,D1.1,fun p=> ?_⟩ ?_ ?_
  ·rw[D1.2]
   constructor
   ·rintro ⟨h1,h2⟩;exact ⟨.inl h1,h2⟩
   ·rintro ⟨h1 | h1,h2⟩
    ·exact ⟨h1,h2⟩
    ·omega
  ·rintro j ρ M2 hj ⟨K2,ks,x5,x6,x7,rfl,r2,l2,D2⟩
   simp![Zo]
   refine Zh2 (by unfold Bd;exact hu) (by unfold Bd;exact hv) (by omega) (by omega) r2 (by omega) (fun z=> ?_) fun x6 x7 ks' M3 K3 r3 k3=> ?_
   ·have:=((D2.2 _).mp z).1
    simp only at this
    omega
   ·refine ⟨K3.kp K2 hd,ks',_,_,_,rfl,r3,?_,D2.put (z:=(x0 + i,y0 + j)) (by simp only;omega) (fun p=> ?_) k3⟩
    ·rcases k3 with ⟨rfl,_⟩ | ⟨rfl,_⟩
     ·rw[List.length_append,List.length_singleton];omega
     ·omega
    ·rw[Prod.ext_iff]
     simp only
     omega
  ·rintro ρ M2 ⟨K2,ks,x5,x6,x7,rfl,r2,l2,D2⟩
   refine ⟨K2,ks,_,_,_,_,rfl,r2,by omega,D2.1,fun p=> ?_⟩
   rw[D2.2]
   have e:(((x0<=p.1/\p.1 < x0 + i)/\y0<=p.2/\p.2<=y1)\/p.1=x0 + i/\y0<=p.2/\p.2 < y0 + ((y1 + 1 - y0).toNat:Nat)) ↔ ((x0<=p.1/\p.1 < x0 + ((i + 1:Nat):Int))/\y0<=p.2/\p.2<=y1):=by omega
   exact and_congr e Iff.rfl
 ·rintro ρ M1 ⟨K1,ks,x4,x5,x6,x7,rfl,r1,l1,D1⟩
  simp![Zo]
  refine q ks d M1 K1 hd r1 D1.1 (fun p=> ?_) (by omega)
  rw[D1.2]
  constructor
  ·exact fun h=>h.2
  ·intro h
   have:=bo p h
   exact ⟨by omega,h⟩
noncomputable def alo (ks:List Pt) (p:Pt):Bool:= !(ks.any fun q=>decide ((p.1 - q.1,p.2 - q.2)∈ks))
theorem Zh3 {i:Nat} {ρ:Ro} {r:List D} {QS:Src->Sto->Prop} (h:ρ[i]?=some (some (.dt d))) (hm:M[d]?=some (.lst r)) (hn:nfz r=true) (q:QS (.dct d) (M.set d (.lst (.non :: r)))):wO (ZfD (Zh i) ρ M) QS E:=by
 have e:ZfD (Zh i) ρ M= .ok (.dct d) (M.set d (.lst (.non :: r))):=by
  unfold ZfD Zh
  simp only[h,Out.bind,hm,hn,if_true]
 rw[e]
 exact q
theorem Zh4 {i:Nat} {ρ:Ro} {r:List D} {QS:Src->Sto->Prop} (h:ρ[i]?=some (some (.dt d))) (hm:M[d]?=some (.lst (.non :: r))) (q:QS (.dct d) M):wO (ZfD (Zh i) ρ M) QS E:=by
 have e:ZfD (Zh i) ρ M= .ok (.dct d) M:=by
  unfold ZfD Zh
  simp only[h,Out.bind,hm,nfz,if_false,Bool.false_eq_true]
 rw[e]
 exact q
theorem ZgB {ks:List Pt} {i:Nat} (h:M[d]?=some (.lst (.non :: kd ks))):nxt (.dct d) i M=some (prs ks)[i]?:=by
 have e:(prs ks)[i]?=(ks[i]?).map fun p=>pr p.1 p.2:=by unfold prs;rw[List.getElem?_map]
 have e2:(kd ks)[i]?=(ks[i]?).map fun p=>D.tup [pr p.1 p.2,.bl true]:=by unfold kd;rw[List.getElem?_map]
 rw[e]
 simp only[nxt,h,e2]
 cases ks[i]?<;>rfl
theorem Ze3 {ks:List Pt} (h:M[d]?=some (.lst (.non :: kd ks))):cnt (.dct d) M=ks.length + 1:=by
 simp only[cnt,h]
 unfold kd
 simp
theorem Zps {ks:List Pt} {x y:Int} (h:M[d]?=some (.lst (.non :: kd ks))):wO (Zif false (.tup [.int x,.int y]) (.dt d) M) Q E=Q (.bl (decide ((x,y)∈ks))) M:=by
 have e:Zif false (.tup [.int x,.int y]) (.dt d) M= .ok (.bl (decide ((x,y)∈ks))) M:=by
  have e1:kT (.tup [.int x,.int y])=some (ky (x,y)):=rfl
  have e2:Zcs kT (ky (x,y)) (.non :: kd ks)=Zcs kT (ky (x,y)) (kd ks):=rfl
  simp only[Zif,Zdu,e1,h,e2,Ze2]
  by_cases c:(x,y)∈ks<;>simp[c]
 rw[e]
 rfl
theorem Zdc: ∀ l:List Bool,ZU (l.map D.bl)=some l
 | []=>rfl
 |b :: l=>by
  show (match ZU (l.map D.bl) with | some bs=>some (b :: bs) | none=>none)=_
  rw[Zdc l]
theorem Zm8 {bs:List Bool} (h:M[n]?=some (.lst (bs.map D.bl))):wO (bAny [.ref n] M) Q E=Q (.bl (bs.any id)) M:=by
 have e:bAny [.ref n] M= .ok (.bl (bs.any id)) M:=by simp only[bAny,h,Zdc]
 rw[e]
 rfl
theorem ZfX {ks fs:List Pt} {x y:Int} {o:Nat} (h:M[d]?=some (.lst (.non :: kd ks))) (hx: -100<=x/\x<=100) (hy: -100<=y/\y<=100) (hb: ∀ p∈ks,Bd 100 p) (ho:M[o]?=some (.lst (prs fs))) (hl:ks.length < 100000) (hf:fs.length < 100000) (od:o≠d)
  (hN: ∀ M',M.length<=M'.length->(∀ j < M.length,j≠o->M'[j]?=M[j]?)->M'[o]?=some (.lst (prs (if alo ks (x,y) then fs ++ [(x,y)] else fs)))->N [some (.dt d),some (.ref o),some (.int x),some (.int y)] M'):
  wS (Zac [some (.dt d),some (.ref o),some (.int x),some (.int y)] M) N R B C E:=by
 have hd:=Zan h
 simp![Zac]
 refine Zh4 rfl h ?_
 refine Zpr (xs:=prs ks) (fun ρ=> ∃ a b,ρ=[a,b,some (.dt d),some (.int x),some (.int y)]) (fun (i:Nat)=> .bl (decide ((x - (cy ks i).1,y - (cy ks i).2)∈ks))) (by unfold prs;rw[List.length_map];omega) (by rw[Ze3 h];unfold prs;rw[List.length_map];omega) ⟨_,_,rfl⟩ (fun L i _=>ZgB (by rw[ZcH hd];exact h)) ?_ ?_
 ·rintro i hi ρ L ⟨a,b,rfl⟩
  have hi':i < ks.length:=by unfold prs at hi;rw[List.length_map] at hi;exact hi
  have hb':=hb (cy ks i) (by rw[Zcj hi'];exact List.getElem_mem hi')
  have h':(M ++ L)[d]?=some (.lst (.non :: kd ks)):=by rw[ZcH hd];exact h
  rw[CC.ZeT]
  generalize cy ks i=z at *
  unfold Bd at hb'
  simp![Zps h']
  exact ⟨_,_,rfl⟩
 ·have e:(List.range (prs ks).length).map (fun (i:Nat)=>D.bl (decide ((x - (cy ks i).1,y - (cy ks i).2)∈ks)))=(ks.map fun q=>decide ((x - q.1,y - q.2)∈ks)).map D.bl:=by
   apply List.ext_getElem?
   intro k
   by_cases hk:k < ks.length
   ·simp[prs,hk,Zcj]
   ·simp[prs,hk]
  rw[e]
  have r1:(M ++ [SO.lst ((ks.map fun q=>decide ((x - q.1,y - q.2)∈ks)).map D.bl)])[M.length]?=some (.lst ((ks.map fun q=>decide ((x - q.1,y - q.2)∈ks)).map D.bl)):=by simp
  have r2:(M ++ [SO.lst ((ks.map fun q=>decide ((x - q.1,y - q.2)∈ks)).map D.bl)])[o]?=some (.lst (prs fs)):=by rw[ZcH (Zan ho)];exact ho
  have K:Kp M (M ++ [SO.lst ((ks.map fun q=>decide ((x - q.1,y - q.2)∈ks)).map D.bl)]):=Kp.app
  generalize M ++ [SO.lst ((ks.map fun q=>decide ((x - q.1,y - q.2)∈ks)).map D.bl)]=M1 at *
  have ea:((ks.map fun q=>decide ((x - q.1,y - q.2)∈ks)).any id)= !(alo ks (x,y)):=by
   unfold alo
   rw[List.any_map,Bool.not_not]
   rfl
  simp![Zm8 r1,ea]
  refine Zpd (fun z=> ?_) (fun z=> ?_)
  ·simp![r2]
   rw[Bool.not_not] at z
   have le:M.length<=M1.length:=K.1
   exact ⟨by omega,hN _ (by rw[List.length_set];exact le) (fun j hj h1=>by rw[List.getElem?_set_ne (Ne.symm h1)];exact K.2 j hj) (by rw[if_pos z,List.getElem?_set_self (Zan r2)])⟩
  ·simp![Zo]
   rw[Bool.not_not] at z
   exact hN _ K.1 (fun j hj _=>K.2 j hj) (by rw[if_neg (by rw[z];decide)];exact r2)
noncomputable def kp (p:Pt):List Int:=[p.1,p.2]
noncomputable def up (l:List Int):Pt:=(l.getD 0 0,l.getD 1 0)
noncomputable def sp (rs:List Pt):List Pt:=(ST.srt (rs.map kp)).map up
theorem Zm9 {rs cs:List Pt} (h:rs.Perm cs):sp rs=sp cs:=by unfold sp;rw[ST.Zju (h.map kp)]
theorem Zdd: ∀ rs:List Pt,ksD (prs rs)=some (rs.map kp)
 | []=>rfl
 |x :: r=>by
  have:=Zdd r
  show ksD (pr x.1 x.2 :: prs r)=_
  rw[ksD,this]
  rfl
theorem Zh5 {rs:List Pt}:(ST.srt (rs.map kp)).map tupD=prs (sp rs):=by
 have h: ∀ l∈ST.srt (rs.map kp),tupD l=pr (up l).1 (up l).2:=fun l hl=>by
  obtain ⟨x,-,rfl⟩:=List.mem_map.mp ((ST.Za0 _).mem_iff.mp hl)
  rfl
 rw[List.map_congr_left h]
 unfold sp prs
 rw[List.map_map]
 rfl
theorem Zk1 {rs:List Pt} (h:M[n]?=some (.lst (prs rs))) (hl:rs.length < 64):bSrt [.ref n] M= .ok (.ref M.length) (M ++ [.lst (prs (sp rs))]):=by
 have e:(prs rs).length=rs.length:=by unfold prs;rw[List.length_map]
 simp only[bSrt,h,ZeH,e,Zdd,if_pos hl,Zh5]
theorem Zh6 {ks:List Pt} (h:M[d]?=some (.lst (kd ks))) (hb: ∀ p∈ks,Bd 100 p) (hl:ks.length < 100000) (h64:(ks.filter (alo ks)).length < 64) (q: ∀ o M',M'[o]?=some (.lst (prs (sp (ks.filter (alo ks)))))->(∀ j < M.length,j≠d->M'[j]?=M[j]?)->Q (.ref o) M'):wO (F_law_alone [.dt d] M) Q E:=by
 have hd:=Zan h
 simp![F_law_alone,Zbi]
 have r0:(M ++ [SO.lst []])[d]?=some (.lst (kd ks)):=by rw[ZcH hd];exact h
 have ro:(M ++ [SO.lst []])[M.length]?=some (.lst (prs [])):=by simp[prs]
 have K0:Kp M (M ++ [SO.lst []]):=Kp.app
 generalize M ++ [SO.lst []]=M0 at *
 refine Zh3 rfl r0 (ZgA ks) ?_
 have r1:(M0.set d (.lst (.non :: kd ks)))[d]?=some (.lst (.non :: kd ks)):=List.getElem?_set_self (Zan r0)
 have r2:(M0.set d (.lst (.non :: kd ks)))[M.length]?=some (.lst (prs [])):=by rw[List.getElem?_set_ne (by omega)];exact ro
 have K1: ∀ j < M.length,j≠d->(M0.set d (.lst (.non :: kd ks)))[j]?=M[j]?:=fun j hj h1=>by rw[List.getElem?_set_ne (Ne.symm h1)];exact K0.2 j hj
 have L1:M.length<=(M0.set d (.lst (.non :: kd ks))).length:=by rw[List.length_set];exact K0.1
 generalize M0.set d (.lst (.non :: kd ks))=M1 at *
 obtain ⟨o,ho⟩: ∃ o,M.length=o:=⟨_,rfl⟩
 rw[ho] at r2 ⊢
 simp![Zo]
 rw[Ze3 r1]
 have pl:(prs ks).length=ks.length:=by unfold prs;rw[List.length_map]
 refine ZjK (xs:=prs ks) (fun i ρ M'=> ∃ x2 x3,ρ=[some (.dt d),some (.ref o),x2,x3]/\M'[o]?=some (.lst (prs ((ks.take i).filter (alo ks))))/\M'[d]?=some (.lst (.non :: kd ks))/\M.length<=M'.length/\ ∀ j < M.length,j≠d->M'[j]?=M[j]?) _ 0 _ _ (by omega) (by omega) ⟨_,_,rfl,by simpa using r2,r1,L1,K1⟩ ?_ ?_ ?_
 ·rintro i ρ M' _ ⟨x2,x3,rfl,-,r,-⟩
  exact ZgB r
 ·rintro i ρ M' hi ⟨x2,x3,rfl,ra,rb,La,Ka⟩
  have hi':i < ks.length:=by omega
  rw[CC.ZeT]
  have hm:cy ks i∈ks:=by rw[Zcj hi'];exact List.getElem_mem hi'
  have hz:=hb _ hm
  have tk:(ks.take (i + 1)).filter (alo ks)=if alo ks (cy ks i) then (ks.take i).filter (alo ks) ++ [cy ks i] else (ks.take i).filter (alo ks):=by
   rw[List.take_succ_eq_append_getElem hi',List.filter_append,Zcj hi']
   cases ez:alo ks ks[i]<;>simp[ez]
  have fl:((ks.take i).filter (alo ks)).length<=ks.length:=Nat.le_trans (List.length_filter_le ..) (by rw[List.length_take];omega)
  generalize cy ks i=z at *
  unfold Bd at hz
  simp![Zo]
  refine ZfX rb hz.1 hz.2 hb ra hl (by omega) (by omega) fun M2 L2 K2 r2=> ?_
  refine ⟨_,_,rfl,by rw[tk];exact r2,?_,by omega,fun j hj h1=>(K2 j (by omega) (by omega)).trans (Ka j hj h1)⟩
  rw[K2 d (Zan rb) (by omega)]
  exact rb
 ·rintro ρ M' ⟨x2,x3,rfl,ra,rb,La,Ka⟩
  rw[pl,List.take_of_length_le (Nat.le_refl _)] at ra
  have sq:=Zk1 ra h64
  simp![sq]
  exact q _ _ (by simp) fun j hj h1=>by rw[ZcH (by omega)];exact Ka j hj h1
theorem Zna {k:Nat} {rs ss:List Pt} (h1:M[n]?=some (.lst (prs rs))) (h2:M[m]?=some (.lst (prs ss))):eqF (k + 3) M (.ref n) (.ref m)=some (decide (rs=ss)):=by
 rw[Zmg h1 h2,ZjY]
 by_cases e:rs=ss
 ·subst e;simp
 ·rw[decide_eq_false e]
  split<;>rfl
theorem pw: ∀ (r:List Pt) (a:Pt),CB.Ch (a :: r)->CB.Cv (a :: r)->(a :: r).getLast (by simp)=v->(a :: r).Pairwise fun x y=>X y v < X x v
 | [],a,_,_,_=>List.pairwise_singleton ..
 |b :: r,a,h1,h2,hl=>by
  rw[List.getLast_cons (by simp)] at hl
  have t:CB.Cv (b :: r):=by
   cases r with
   |nil=>trivial
   |cons c r=>exact h2.2
  have ih:=pw r b h1.2 t hl
  have dc:=(CB.Zle r a b v h1 h2 hl).2
  refine List.pairwise_cons.mpr ⟨fun y hy=> ?_,ih⟩
  rcases List.mem_cons.mp hy with rfl | hy
  ·exact dc
  ·have:=(List.pairwise_cons.mp ih).1 y hy
   omega
theorem Zh7 {ns:List Int} {i:Nat} {x2 x3 x4:Option D} (hi0:i < 1000) (hN: ∀ x2 x3 x4 M',N [some (.rol (ns.map D.int)),some (.int i),x2,x3,x4] M'):wS (ZbG [some (.rol (ns.map D.int)),some (.int i),x2,x3,x4] M) N R B C E:=by
 simp![ZbG]
 refine ZeX hi0 fun a b ha=> ?_
 have B0:Bag M.length (M ++ [.lst [.int a,.int b]]):=⟨a,b,ha,by simp⟩
 generalize M ++ [SO.lst [.int a,.int b]]=M0 at *
 generalize M.length=n at *
 simp![Zo]
 refine Zh1 B0 fun u v M1 hw bu bv G=> ?_
 obtain ⟨w,hf⟩:=CB.ZkH hw
 have xl:X u v<=80000:=(Zld (u:=u) (v:=v) (by unfold Bd at *;omega) (by unfold Bd at *;omega)).2
 simp![Zo]
 refine Zck hw hf (by omega) ?_
 have hc:=ZkR hw hf
 have r1:(M1 ++ [SO.lst (nts (hj (X u v) (X w v))),SO.lst (prs (btw u w (hj (X u v) (X w v))))])[M1.length + 1]?=some (.lst (prs (btw u w (hj (X u v) (X w v))))):=by rw[Zmd];rfl
 generalize M1 ++ [SO.lst (nts (hj (X u v) (X w v))),SO.lst (prs (btw u w (hj (X u v) (X w v))))]=M2 at *
 generalize M1.length + 1=o at *
 have bdw: ∀ x∈btw u w (hj (X u v) (X w v)),Bd 7 x:=fun x hx=>by
  rw[hf.uniq (CB.Zgz hw)] at hx
  refine CB.ZeY (B:=7) (by decide) [u,v] ⟨hw,trivial⟩ (fun y hy=> ?_) x ?_
  ·rcases List.mem_cons.mp hy with rfl | hy
   ·exact bu
   ·rw[List.mem_singleton.mp hy];exact bv
  ·show x∈CB.seg u v ++ CB.Zii [v]
   exact List.mem_append_left _ (List.mem_cons_of_mem _ hx)
 generalize btw u w (hj (X u v) (X w v))=ws at *
 have t1:Zad M2 (.ref o)=some "list":=by simp only[Zad,DL.kd,r1]
 have ll:=hc.len fun x hx=>by
  rcases List.mem_cons.mp hx with rfl | hx
  ·exact bu
  ·rcases List.mem_append.mp hx with hx | hx
   ·exact bdw x hx
   ·rw[List.mem_singleton.mp hx];exact bv
 have wl:ws.length<=29:=by
  rw[List.length_cons,List.length_append,List.length_singleton] at ll
  omega
 have ho:=Zan r1
 simp![t1,r1]
 refine ⟨by omega,?_⟩
 have r3:(M2 ++ [SO.lst [pr u.1 u.2,pr v.1 v.2],SO.lst (prs ((u.1,u.2) :: (v.1,v.2) :: ws))])[M2.length + 1]?=some (.lst (prs (u :: v :: ws))):=by rw[Zmd];rfl
 generalize M2 ++ [SO.lst [pr u.1 u.2,pr v.1 v.2],SO.lst (prs ((u.1,u.2) :: (v.1,v.2) :: ws))]=M3 at *
 generalize M2.length + 1=o3 at *
 have sq:=Zk1 r3 (by simp;omega)
 simp![sq]
 have r4:(M3 ++ [SO.lst (prs (sp (u :: v :: ws)))])[M3.length]?=some (.lst (prs (sp (u :: v :: ws)))):=by simp
 generalize M3 ++ [SO.lst (prs (sp (u :: v :: ws)))]=M4 at *
 generalize M3.length=o4 at *
 refine Zk0 bu bv fun ks d M5 K5 l5 r5 nd mem kl=> ?_
 have r6:=K5.get r4
 have l4:=Zan r4
 simp![Zo]
 have nu:(u :: v :: ws).Nodup:=by
  have p1:=pw (v:=v) _ u hc.ch hc.cv (by rw[List.getLast_cons (by simp),List.getLast_append];simp)
  have n1:(u :: (ws ++ [v])).Nodup:=p1.imp fun h e=>by rw[e] at h;omega
  have pp:(u :: v :: ws).Perm (u :: (ws ++ [v])):=(List.perm_append_comm (l₁:=[v]) (l₂:=ws)).cons u
  exact pp.nodup_iff.mpr n1
 have pm:(ks.filter (alo ks)).Perm (u :: v :: ws):=by
  refine (List.perm_ext_iff_of_nodup (nd.filter _) nu).mpr fun p=> ?_
  have e0:p∈u :: v :: ws ↔ p∈u :: (ws ++ [v]):=by
   simp only[List.mem_cons,List.mem_append,List.mem_singleton,List.not_mem_nil,or_false]
   constructor
   ·rintro (h | h | h)
    ·exact .inl h
    ·exact .inr (.inr h)
    ·exact .inr (.inl h)
   ·rintro (h | h | h)
    ·exact .inl h
    ·exact .inr (.inr h)
    ·exact .inr (.inl h)
  have e1:alo ks p=true ↔ ∀ q,Sd u v q-> ¬ Sd u v (p.1 - q.1,p.2 - q.2):=by
   unfold alo
   rw[Bool.not_eq_true',List.any_eq_false]
   constructor
   ·intro h q hq hs
    exact h q ((mem q).mpr hq) (decide_eq_true ((mem _).mpr hs))
   ·intro h q hq hs
    exact h q ((mem q).mp hq) ((mem _).mp (of_decide_eq_true hs))
  rw[e0,List.mem_filter,mem,e1]
  constructor
  ·rintro ⟨h1,h2⟩
   exact hc.alone h1 h2
  ·intro h1
   exact ⟨hc.ins p h1,fun q hq=>hc.not_sum h1 hq⟩
 refine Zh6 r5 (fun p hp=> ?_) kl (by rw[pm.length_eq];simp;omega) fun o5 M6 r7 K6=> ?_
 ·have:=box ((mem p).mp hp)
  unfold Bd at *
  omega
 ·rw[Zm9 pm] at r7
  have r8:=(K6 o4 (Zan r6) (by omega)).trans r6
  have e8:eqF 12 M6 (.ref o4) (.ref o5)=some (decide (sp (u :: v :: ws)=sp (u :: v :: ws))):=Zna (k:=9) r8 r7
  rw[decide_eq_true rfl] at e8
  simp![e8]
  exact hN _ _ _ _
theorem law_true (ns:List Int) (h:ns.length<=63): ∃ M',ZcM [.rol (ns.map D.int)] []= .ok (.bl true) M':=by
 have w:wO (ZcM [.rol (ns.map D.int)] []) (fun d _=>d= .bl true) (fun _ _=>False):=by
  simp![ZcM,ZkV]
  refine ⟨by omega,?_⟩
  refine ZeP (fun _ ρ _=> ∃ x1 x2 x3 x4,ρ=[some (.rol (ns.map D.int)),x1,x2,x3,x4]) ⟨_,_,_,_,rfl⟩ ?_ ?_
  ·rintro i ρ M hi ⟨x1,x2,x3,x4,rfl⟩
   rw[show (0:Int) + (i:Int)=i by omega]
   simp![Zo]
   exact Zh7 (by omega) fun _ _ _ _=>⟨_,_,_,_,rfl⟩
  ·rintro ρ M ⟨x1,x2,x3,x4,rfl⟩
   simp![Zo]
 obtain ⟨d,M',e,rfl⟩:=ZeM w
 exact ⟨M',e⟩
end
end K17
end
namespace K17
open PySem PySem.Spec L2 DL
noncomputable abbrev zz1 (P:Params) (s:String) (n:Nat) (v:Value):DictEntry:={ hash:=PyData.keyHash P (Str.ofString s),key:=Value.str (Str.ofString s) n,val:=v }
noncomputable abbrev zz2 (x:Array Value):Obj:={ cls:=Value.type "code",data:=Data.fields x }
noncomputable abbrev zz3 (s:String) (n:Nat):Value:=Value.str (Str.ofString s) n
noncomputable abbrev zz4 (n:Int):Value:=Value.int n 0
noncomputable def fO (n:Str) (st:Stmt) (cd:Nat) (m:Str) (t:Nat):Obj:=⟨.type "function",none,.func (PySem.W.fnOf n n (Zt st) (Zq st) (Zg st) .none .none .none (.str m t) none (.ref cd) .none),#[]⟩
noncomputable def ZcN (p:Program) (i:Nat):Stmt:=p.main.body.getD i (.Pass ⟨0,0,0,0⟩)
noncomputable def Kf (p:Program) (P:Params):PySem.W.Frag:=[(3,{ cls:=Value.type "dict",data:=Data.dict #[zz1 P "__name__" 165 (zz3 "law_rayround_k17_rays_are_all_that_no_sum_is" 288),zz1 P "__doc__" 166 (Value.none),zz1 P "__package__" 167 (Value.none),zz1 P "__loader__" 168 (Value.builtin "__main__.__loader__#opaque"),zz1 P "__spec__" 169 (Value.none),zz1 P "__annotations__" 170 (Value.ref 6),zz1 P "__builtins__" 171 (Value.ref 4),zz1 P "__file__" 173 (zz3 "/claim/cut.py" 172),zz1 P "__cached__" 174 (Value.none),zz1 P "RayError" 206 (Value.ref 24),zz1 P "NoWedge" 222 (Value.ref 37),zz1 P "crossed" 232 (Value.ref 46),zz1 P "partner" 246 (Value.ref 53),zz1 P "first_behind" 256 (Value.ref 60),zz1 P "expanded" 266 (Value.ref 67),zz1 P "row" 274 (Value.ref 74),zz1 P "between" 287 (Value.ref 81),zz1 P "_law_purse" 299 (Value.ref 88),zz1 P "_law_take" 308 (Value.ref 95),zz1 P "_law_crossed" 316 (Value.ref 102),zz1 P "_law_short" 325 (Value.ref 109),zz1 P "_law_wedge" 335 (Value.ref 116),zz1 P "_law_dots" 349 (Value.ref 123),zz1 P "_law_alone" 355 (Value.ref 128),zz1 P "law" 366 (Value.ref 135)] 25 }),
 (46,fO "crossed" (ZcN p 4) 45 "rayround.pairs" 223),
 (45,zz2 #[zz3 "crossed" 225,zz3 "crossed" 226,zz3 "/claim/cut.py" 227,zz4 7,zz4 2,zz4 0,zz4 0,zz4 3,Value.ref 40,Value.bool true,zz4 181,Value.ref 41,Value.none,Value.ref 42,Value.ref 43,Value.ref 44,zz4 230,zz4 7,zz3 "/claim/cut.py" 231]),
 (53,fO "partner" (ZcN p 6) 52 "rayround.wedges" 233),
 (52,zz2 #[zz3 "partner" 235,zz3 "partner" 236,zz3 "/claim/cut.py" 237,zz4 10,zz4 1,zz4 0,zz4 0,zz4 3,Value.ref 47,Value.bool true,zz4 181,Value.ref 48,Value.none,Value.ref 49,Value.ref 50,Value.ref 51,zz4 244,zz4 10,zz3 "/claim/cut.py" 245]),
 (60,fO "first_behind" (ZcN p 7) 59 "rayround.wedges" 233),
 (59,zz2 #[zz3 "first_behind" 247,zz3 "first_behind" 248,zz3 "/claim/cut.py" 249,zz4 18,zz4 2,zz4 0,zz4 0,zz4 3,Value.ref 54,Value.bool true,zz4 181,Value.ref 55,Value.none,Value.ref 56,Value.ref 57,Value.ref 58,zz4 254,zz4 18,zz3 "/claim/cut.py" 255]),
 (67,fO "expanded" (ZcN p 8) 66 "rayround.wedges" 233),
 (66,zz2 #[zz3 "expanded" 257,zz3 "expanded" 258,zz3 "/claim/cut.py" 259,zz4 22,zz4 2,zz4 0,zz4 0,zz4 3,Value.ref 61,Value.bool true,zz4 181,Value.ref 62,Value.none,Value.ref 63,Value.ref 64,Value.ref 65,zz4 264,zz4 22,zz3 "/claim/cut.py" 265]),
 (74,fO "row" (ZcN p 9) 73 "rayround.wedges" 233),
 (73,zz2 #[zz3 "row" 267,zz3 "row" 268,zz3 "/claim/cut.py" 269,zz4 29,zz4 2,zz4 0,zz4 0,zz4 3,Value.ref 68,Value.bool true,zz4 181,Value.ref 69,Value.none,Value.ref 70,Value.ref 71,Value.ref 72,zz4 272,zz4 29,zz3 "/claim/cut.py" 273]),
 (81,fO "between" (ZcN p 10) 80 "rayround.wedges" 233),
 (80,zz2 #[zz3 "between" 275,zz3 "between" 276,zz3 "/claim/cut.py" 277,zz4 33,zz4 2,zz4 0,zz4 0,zz4 3,Value.ref 75,Value.bool true,zz4 181,Value.ref 76,Value.none,Value.ref 77,Value.ref 78,Value.ref 79,zz4 285,zz4 33,zz3 "/claim/cut.py" 286]),
 (88,fO "_law_purse" (ZcN p 12) 87 "law_rayround_k17_rays_are_all_that_no_sum_is" 288),
 (87,zz2 #[zz3 "_law_purse" 290,zz3 "_law_purse" 291,zz3 "/claim/cut.py" 292,zz4 42,zz4 2,zz4 0,zz4 0,zz4 3,Value.ref 82,Value.bool true,zz4 181,Value.ref 83,Value.none,Value.ref 84,Value.ref 85,Value.ref 86,zz4 297,zz4 42,zz3 "/claim/cut.py" 298]),
 (95,fO "_law_take" (ZcN p 13) 94 "law_rayround_k17_rays_are_all_that_no_sum_is" 288),
 (94,zz2 #[zz3 "_law_take" 300,zz3 "_law_take" 301,zz3 "/claim/cut.py" 302,zz4 48,zz4 2,zz4 0,zz4 0,zz4 3,Value.ref 89,Value.bool true,zz4 181,Value.ref 90,Value.none,Value.ref 91,Value.ref 92,Value.ref 93,zz4 306,zz4 48,zz3 "/claim/cut.py" 307]),
 (102,fO "_law_crossed" (ZcN p 14) 101 "law_rayround_k17_rays_are_all_that_no_sum_is" 288),
 (101,zz2 #[zz3 "_law_crossed" 309,zz3 "_law_crossed" 310,zz3 "/claim/cut.py" 311,zz4 55,zz4 2,zz4 0,zz4 0,zz4 3,Value.ref 96,Value.bool true,zz4 181,Value.ref 97,Value.none,Value.ref 98,Value.ref 99,Value.ref 100,zz4 314,zz4 55,zz3 "/claim/cut.py" 315]),
 (109,fO "_law_short" (ZcN p 15) 108 "law_rayround_k17_rays_are_all_that_no_sum_is" 288),
 (108,zz2 #[zz3 "_law_short" 317,zz3 "_law_short" 318,zz3 "/claim/cut.py" 319,zz4 57,zz4 1,zz4 0,zz4 0,zz4 3,Value.ref 103,Value.bool true,zz4 181,Value.ref 104,Value.none,Value.ref 105,Value.ref 106,Value.ref 107,zz4 323,zz4 57,zz3 "/claim/cut.py" 324]),
 (116,fO "_law_wedge" (ZcN p 16) 115 "law_rayround_k17_rays_are_all_that_no_sum_is" 288),
 (115,zz2 #[zz3 "_law_wedge" 326,zz3 "_law_wedge" 327,zz3 "/claim/cut.py" 328,zz4 64,zz4 1,zz4 0,zz4 0,zz4 3,Value.ref 110,Value.bool true,zz4 181,Value.ref 111,Value.none,Value.ref 112,Value.ref 113,Value.ref 114,zz4 333,zz4 64,zz3 "/claim/cut.py" 334]),
 (123,fO "_law_dots" (ZcN p 17) 122 "law_rayround_k17_rays_are_all_that_no_sum_is" 288),
 (122,zz2 #[zz3 "_law_dots" 336,zz3 "_law_dots" 337,zz3 "/claim/cut.py" 338,zz4 73,zz4 2,zz4 0,zz4 0,zz4 3,Value.ref 117,Value.bool true,zz4 181,Value.ref 118,Value.none,Value.ref 119,Value.ref 120,Value.ref 121,zz4 347,zz4 73,zz3 "/claim/cut.py" 348]),
 (128,fO "_law_alone" (ZcN p 18) 127 "law_rayround_k17_rays_are_all_that_no_sum_is" 288),
 (127,zz2 #[zz3 "_law_alone" 350,zz3 "_law_alone" 351,zz3 "/claim/cut.py" 352,zz4 82,zz4 1,zz4 0,zz4 0,zz4 3,Value.ref 124,Value.bool true,zz4 181,Value.ref 125,Value.none,Value.none,Value.none,Value.ref 126,zz4 353,zz4 82,zz3 "/claim/cut.py" 354]),
 (135,fO "law" (ZcN p 19) 134 "law_rayround_k17_rays_are_all_that_no_sum_is" 288),
 (134,zz2 #[zz3 "law" 356,zz3 "law" 357,zz3 "/claim/cut.py" 358,zz4 88,zz4 1,zz4 0,zz4 0,zz4 3,Value.ref 129,Value.bool true,zz4 181,Value.ref 130,Value.none,Value.ref 131,Value.ref 132,Value.ref 133,zz4 364,zz4 88,zz3 "/claim/cut.py" 365]),
 (23,{ cls:=Value.type "dict",data:=Data.dict #[zz1 P "__module__" 196 (zz3 "rayround.errors" 187),zz1 P "__firstlineno__" 200 (Value.int 2 199),zz1 P "__static_attributes__" 201 (Value.ref 22),zz1 P "__weakref__" 203 (Value.ref 25),zz1 P "__doc__" 204 (Value.none)] 3 }),
 (24,{ cls:=Value.type "type",data:=Data.cls { name:=Str.ofString "RayError",bases:=[Value.type "ValueError"],mro:=[Value.ref 24,Value.type "ValueError",Value.type "Exception",Value.type "BaseException",Value.type "object"],ns:=23,qualname:=Str.ofString "RayError",subclasses:=[Value.ref 37] },slots:= #[some (Value.ref 15),none,some (zz3 "RayError" 189),some (zz3 "RayError" 197),some (Value.builtin "ValueError.__new__"),some (Value.bool true)] }),
 (36,{ cls:=Value.type "dict",data:=Data.dict #[zz1 P "__module__" 214 (zz3 "rayround.errors" 187),zz1 P "__firstlineno__" 218 (Value.int 4 217),zz1 P "__static_attributes__" 219 (Value.ref 35),zz1 P "__doc__" 220 (Value.none)] 2 }),
 (37,{ cls:=Value.type "type",data:=Data.cls { name:=Str.ofString "NoWedge",bases:=[Value.ref 24],mro:=[Value.ref 37,Value.ref 24,Value.type "ValueError",Value.type "Exception",Value.type "BaseException",Value.type "object"],ns:=36,qualname:=Str.ofString "NoWedge" },slots:= #[some (Value.ref 28),none,some (zz3 "NoWedge" 207),some (zz3 "NoWedge" 215),some (Value.builtin "ValueError.__new__"),some (Value.bool true)] })]
noncomputable def asK:List Addr:=[3,46,45,53,52,60,59,67,66,74,73,81,80,88,87,95,94,102,101,109,108,116,115,123,122,128,127,135,134,23,24,36,37]
theorem Zk2 (p:Program) (P:Params):asK=(Kf p P).map (·.1):=rfl
noncomputable def qf (p:Program):Program:={ p with main:={ p.main with body:=[ZcN p 19] } }
noncomputable def lo:List Str:=[("__name__":Str),("RayError":Str),("NoWedge":Str),("crossed":Str),("partner":Str),("first_behind":Str),("expanded":Str),("row":Str),("between":Str),("_law_purse":Str),("_law_take":Str),("_law_crossed":Str),("_law_short":Str),("_law_wedge":Str),("_law_dots":Str),("_law_alone":Str)]
theorem Zpt {l:PySem.W.OpenLaw} {q:Program} {loose:List Str} {XP:(Str->Option Value)->Heap->Prop} {YP:World->Heap->Prop} {d:DefRec} {K:Params->PySem.W.Frag} (hn:l.most=some 63) (hdf:d.params.defaults=[])
  (hY: ∀ (w:World) (h:Heap),YP w h->(K w.params).In h)
  (F: ∀ (w:World) (mg:Str->Option Value) (fa:Addr) (h:Heap),(K w.params).In h->h.Ns mainGlobals mg->mg d.name=some (.ref fa)->
   ∃ fd:FuncData,(∀ (s:Shared) (u:Value),BindsTo s fd ⟨[u],[]⟩ [("_law_script",u)])/\ ∀ base:Heap,(K w.params).In base->base.Ns mainGlobals mg->FnOk l.prog w (K w.params) mg base (CXE l.prog w) 105 fa fd ["_law_script"] (spD (K w.params) ZcM)):
  PySem.W.WalkO q loose XP YP l.row.toRowW d [] (fun f vs=>PySem.call f vs):=
 L2.ZgX (n:=63) (k:=105) (x:="_law_script") (CX:=fun w=>CXE l.prog w) (sp:=fun w=>spD (K w.params) ZcM) hn (by decide) hdf ⟨fun _=>rfl,by decide,by decide⟩ hY F (fun _ _ a ns hl hO hS=>DL.Zja hl hO hS (law_true ns hl)) fun _ _ _ _ _ ⟨_,_,_,_,_,_,_,_,_,_,_,_,_,q⟩=>q
end K17
open PySem PySem.W PyProof.Rows
lay_quick PySem.Challenge.pw_rayround_k17_rays_are_all_that_no_sum_is
namespace K17
noncomputable abbrev Hk:Hook:=kHook (Kf PySem.Challenge.pw_rayround_k17_rays_are_all_that_no_sum_is) asK (Zk2 PySem.Challenge.pw_rayround_k17_rays_are_all_that_no_sum_is)
noncomputable def Xs (s:Shared):Bool:=xlAt (qf PySem.Challenge.pw_rayround_k17_rays_are_all_that_no_sum_is) [] s && recOk (RowW.records (OpenRow.toRowW (OpenLaw.row PySem.Challenge.rw_rayround_k17_rays_are_all_that_no_sum_is))) s
set_option maxRecDepth 1000000 in
set_option maxHeartbeats 0 in
theorem ZlO (w:World) (os:OsState):(HD.Zla through (HD.ZfG (stepOk 11 (some (.ref 6))) (stepT (denote treeTable) PySem.Challenge.pw_rayround_k17_rays_are_all_that_no_sum_is w)) 922 (HD.T0 w os) (topStub PySem.Challenge.pw_rayround_k17_rays_are_all_that_no_sum_is)).map (fun s=>((staticsOk (importedModules PySem.Challenge.pw_rayround_k17_rays_are_all_that_no_sum_is.main.body) (boot_heap w.params) s.abs.heap && namesBound PySem.Challenge.pw_rayround_k17_rays_are_all_that_no_sum_is s.abs.heap && gensDone s.abs && laidKept (boot_heap w.params) s.abs.heap),
  openSeen (qf PySem.Challenge.pw_rayround_k17_rays_are_all_that_no_sum_is) lo (importedModules PySem.Challenge.pw_rayround_k17_rays_are_all_that_no_sum_is.main.body) (fun s=>xlAt (qf PySem.Challenge.pw_rayround_k17_rays_are_all_that_no_sum_is) [] s && recOk [] s) true s.abs,asK.map s.abs.heap.get?))=some (true,openGood (qf PySem.Challenge.pw_rayround_k17_rays_are_all_that_no_sum_is) lo,(Kf PySem.Challenge.pw_rayround_k17_rays_are_all_that_no_sum_is w.params).map fun x=>some x.2):=by
 rw[HD.ZlP,HD.Zhw,HD.Zjx,HD.Zjy,HD.Zhx,HD.Zjz,PySem.W.Fast.te567234363396473137]
 kernel_rfl
end K17
set_option maxRecDepth 1000000 in
set_option maxHeartbeats 0 in
theorem PySem.Challenge.cw_rayround_k17_rays_are_all_that_no_sum_is_holds : PySem.Challenge.rw_rayround_k17_rays_are_all_that_no_sum_is.Holds := by
 w_on;o_law
 refine holds_open (q:=K17.qf PySem.Challenge.pw_rayround_k17_rays_are_all_that_no_sum_is) (loose:=K17.lo) (Xt:=fun s=>xlAt (K17.qf PySem.Challenge.pw_rayround_k17_rays_are_all_that_no_sum_is) [] s && recOk [] s) (XP:=XL (K17.qf PySem.Challenge.pw_rayround_k17_rays_are_all_that_no_sum_is) []) (Yf:=Hook.obs K17.Hk) (Ya:=Hook.val K17.Hk) (YP:=Hook.says K17.Hk) (N:=1522) ?hl (Hook.of K17.Hk) (Hook.keeps K17.Hk) (fun s e=>xl_of s (Bool.and_eq_true_iff.mp e).1) XL.keeps (by rfl) (by rfl) (by rfl) (fun s e=>recFacts_of (Bool.and_eq_true_iff.mp e).2) (by rfl) (by first | assumption | decide +kernel) (by decide +kernel) ⟨rfl,rfl,rfl,rfl,rfl,by decide +kernel⟩ ?hw ?hc
 case hl=>exact HD.ZeL rfl (by decide) (fun s=>rfl) (by decide) K17.ZlO
 case hw=>w_witness2
 case hc=>
  refine K17.Zpt (l:=PySem.Challenge.rw_rayround_k17_rays_are_all_that_no_sum_is) rfl rfl (fun w h Y=>PySem.W.kIn_of Y) ?F
  intro w mg fa h KX G hmg
  refine K17.ZkX (f1:=46) (od1:=none) (an1:=none) (sl1:= #[]) (oc1:= .type "function") (kV1:= .none) (dc1:= .none) (pm1:= .str "rayround.pairs" 223) (cd1:= .ref 45) (ct1:= .none) (f2:=53) (od2:=none) (an2:=none) (sl2:= #[]) (oc2:= .type "function") (kV2:= .none) (dc2:= .none) (pm2:= .str "rayround.wedges" 233) (cd2:= .ref 52) (ct2:= .none) (f3:=60) (od3:=none) (an3:=none) (sl3:= #[]) (oc3:= .type "function") (kV3:= .none) (dc3:= .none) (pm3:= .str "rayround.wedges" 233) (cd3:= .ref 59) (ct3:= .none) (f4:=67) (od4:=none) (an4:=none) (sl4:= #[]) (oc4:= .type "function") (kV4:= .none) (dc4:= .none) (pm4:= .str "rayround.wedges" 233) (cd4:= .ref 66) (ct4:= .none) (f5:=74) (od5:=none) (an5:=none) (sl5:= #[]) (oc5:= .type "function") (kV5:= .none) (dc5:= .none) (pm5:= .str "rayround.wedges" 233) (cd5:= .ref 73) (ct5:= .none) (f6:=81) (od6:=none) (an6:=none) (sl6:= #[]) (oc6:= .type "function") (kV6:= .none) (dc6:= .none) (pm6:= .str "rayround.wedges" 233) (cd6:= .ref 80) (ct6:= .none) (f7:=88) (od7:=none) (an7:=none) (sl7:= #[]) (oc7:= .type "function") (kV7:= .none) (dc7:= .none) (pm7:= .str "law_rayround_k17_rays_are_all_that_no_sum_is" 288) (cd7:= .ref 87) (ct7:= .none) (f8:=95) (od8:=none) (an8:=none) (sl8:= #[]) (oc8:= .type "function") (kV8:= .none) (dc8:= .none) (pm8:= .str "law_rayround_k17_rays_are_all_that_no_sum_is" 288) (cd8:= .ref 94) (ct8:= .none) (f9:=102) (od9:=none) (an9:=none) (sl9:= #[]) (oc9:= .type "function") (kV9:= .none) (dc9:= .none) (pm9:= .str "law_rayround_k17_rays_are_all_that_no_sum_is" 288) (cd9:= .ref 101) (ct9:= .none) (f10:=109) (od10:=none) (an10:=none) (sl10:= #[]) (oc10:= .type "function") (kV10:= .none) (dc10:= .none) (pm10:= .str "law_rayround_k17_rays_are_all_that_no_sum_is" 288) (cd10:= .ref 108) (ct10:= .none) (f11:=116) (od11:=none) (an11:=none) (sl11:= #[]) (oc11:= .type "function") (kV11:= .none) (dc11:= .none) (pm11:= .str "law_rayround_k17_rays_are_all_that_no_sum_is" 288) (cd11:= .ref 115) (ct11:= .none) (f12:=123) (od12:=none) (an12:=none) (sl12:= #[]) (oc12:= .type "function") (kV12:= .none) (dc12:= .none) (pm12:= .str "law_rayround_k17_rays_are_all_that_no_sum_is" 288) (cd12:= .ref 122) (ct12:= .none) (f13:=128) (od13:=none) (an13:=none) (sl13:= #[]) (oc13:= .type "function") (kV13:= .none) (dc13:= .none) (pm13:= .str "law_rayround_k17_rays_are_all_that_no_sum_is" 288) (cd13:= .ref 127) (ct13:= .none) (f14:=135) (od14:=none) (an14:=none) (sl14:= #[]) (oc14:= .type "function") (kV14:= .none) (dc14:= .none) (pm14:= .str "law_rayround_k17_rays_are_all_that_no_sum_is" 288) (cd14:= .ref 134) (ct14:= .none) KX G hmg ?a1 ?l1 ?c1 ?k1 ?a2 ?l2 ?c2 ?k2 ?a3 ?l3 ?c3 ?k3 ?a4 ?l4 ?c4 ?k4 ?a5 ?l5 ?c5 ?k5 ?a6 ?l6 ?c6 ?k6 ?a7 ?l7 ?c7 ?k7 ?a8 ?l8 ?c8 ?k8 ?a9 ?l9 ?c9 ?k9 ?a10 ?l10 ?c10 ?k10 ?a11 ?l11 ?c11 ?k11 ?a12 ?l12 ?c12 ?k12 ?a13 ?l13 ?c13 ?k13 ?a14 ?l14 ?c14 ?k14 ?z_len ?z_int ?z_abs ?z_max ?z_min ?z_range ?z_any ?z_sorted ?z_isinstance ?z_list ?q_ex_NoWedge
  all_goals kernel_rfl
