import PyProof.Rows.All
import Wide.All
import OpenK.AllK
import Wide.FinOn
import Lean
import PyProof.EqAt
import PyProof.EqKinds
import PyProof.TupleCall
import PyProof.FString
import PyProof.ReprRoads
import PyProof.FitsInt
import PyProof.Rows.Range3
import PyProof.CallFns
import PyProof.StrWalks
import KE.KIntText
import PySem.Challenge.RW_rayround_k68_papers_of_walks_and_turning
set_option maxRecDepth 100000
set_option linter.all false
set_option Elab.async false
set_option maxHeartbeats 4000000
noncomputable section
set_option bootstrap.genMatcherCode false
set_option genSizeOf false
set_option genSizeOfSpec false
set_option compiler.extract_closed false
section
namespace DQ
open PySem PySem.Spec PyProof.Rows
noncomputable def ZbF (A:Around)(h:Heap):Prop:=A.handled=none\/ ∃ ea oe vs,A.handled=some (.ref ea)/\h.get? ea=some oe/\oe.data= .fields vs/\vs[2]?=some .none
theorem ZbF.keeps {A:Around}{h h':Heap}(q:ZbF A h)(k: ∀ b o,h.get? b=some o->h'.get? b=some o):ZbF A h':=by
 rcases q with q | ⟨ea,oe,vs,e1,e2,e3,e4⟩
 ·exact .inl q
 ·exact .inr ⟨ea,oe,vs,e1,k _ _ e2,e3,e4⟩
theorem Zdv:entryFor table "proto.unchain"=some Builtin.«proto.unchain» :=entryFor_of_fast (by kernel_rfl)
section
variable {prog:Program}{w:World}{A:Around}{E:Value->Shared->Prop}{s:Shared}
theorem ZeU {α:Type}{Q:α->Shared->Prop}{e:Addr}{oe:Obj}{vs:Array Value}(q:ZbF A s.heap)(he:s.heap.get? e=some oe)(hd:oe.data= .fields vs)(hz:2 < vs.size)
  (h: ∀ h',(∀ b o,b≠e->s.heap.get? b=some o->h'.get? b=some o)->(∃ o,h'.get? e=some o/\o.cls=oe.cls)->E (.ref e) { s with heap:=h' }):wpAny (model prog w) A (raiseNew (.ref e):Sem α) Q E s:=by
 have same:E (.ref e) s:=h s.heap (fun _ _ _ x=>x) ⟨oe,he,rfl⟩
 unfold raiseNew;refine wpAny_bind (wpAny_handled ?_)
 rcases q with q | ⟨ea,oa,ws,q1,q2,q3,q4⟩
 ·rw[q]
  exact wpAny_bind (wpAny_pure (wpAny_throw same))
 ·rw[q1]
  dsimp only
  by_cases c:(Value.ref ea != Value.ref e)=true
  ·rw[if_pos c]
   refine wpAny_bind (wpAny_holding (wpAny_runValue (codeAny_builtin Zdv ?_)))
   unfold Builtin.«proto.unchain»;refine wpAny_bind (wpAny_field q2 q3 q4 ?_)
   refine wpAny_bind (wpAny_pure ?_)
   have sf:wpAny (model prog w) A (setField (.ref e) 2 (.ref ea)) (fun _ s'=>wpAny (model prog w) A (throw (Value.ref e):Sem α) Q E s') E s:=by
    refine wpAny_setField he hd hz (wpAny_throw (h _ (fun b o hb x=> ?_) ⟨_,Heap.get?_update_self _ he (Obj.isFreed_of_fields (Obj.data_mapFields hd _)),Obj.cls_mapFields _ _⟩))
    rw[Heap.get?_update_other _ _ (Ne.symm hb)]
    exact x
   exact wpAny_pure (wpAny_bind sf)
  ·rw[if_neg c]
   exact wpAny_throw same
theorem Zcb {α:Type}{Q:α->Shared->Prop}(q:ZbF A s.heap)
  (h: ∀ h' e,(∀ b o,s.heap.get? b=some o->h'.get? b=some o)->(∃ o,h'.get? e=some o/\o.cls= .type "StopIteration")->E (.ref e) { s with heap:=h' }):
  wpAny (model prog w) A (newExc (.type "StopIteration") [] >>= fun x=>(raiseNew x:Sem α)) Q E s:=by
 refine wpAny_bind ?_
 simp only[newExc,newTuple];refine wpAny_bind (wpAny_newObj_type ?_ (by size_fits))
 refine wpAny_bind (m:=firstArgMember _ _) (wpAny_of_eq (a:=Value.none) (by first | rfl | (simp only[firstArgMember];rfl)) ?_)
 refine wpAny_newObj_type ?_ (by size_fits)
 refine ZeU (q.keeps fun b o x=>Heap.get?_push_of_some _ (Heap.get?_push_of_some _ x)) (Heap.get?_push_size _ rfl) rfl (by rw[Array.size_append];exact Nat.lt_of_lt_of_le (by decide:2 < 6) (Nat.le_add_right _ _)) fun h' k he=> ?_
 exact h h' _ (fun b o x=>k b o (Nat.ne_of_lt (Nat.lt_of_lt_of_le (Heap.lt_size x) (by rw[Heap.size_push];exact Nat.le_succ _))) (Heap.get?_push_of_some _ (Heap.get?_push_of_some _ x))) he
theorem ZkQ {e:Addr}{Q:Bool->Shared->Prop}(he: ∃ o,s.heap.get? e=some o/\o.cls= .type "StopIteration")(h:Q true s):wpAny (model prog w) A (isInstance (.ref e) (.type "StopIteration")) Q E s:=
 let ⟨o,e1,e2⟩:=he
 wpAny_isInstance (T:="StopIteration") (b:=true) ⟨o,e1,e2⟩ isSubtype_stop h
theorem ZbF.in1 {h:Heap}(q:ZbF A h):ZbF A.in1 h:=q
noncomputable def ZgP (it:Addr)(s:Shared)(e:Value)(s':Shared):Prop:= ∃ a,e= .ref a/\(∃ o,s'.heap.get? a=some o/\o.cls= .type "StopIteration")/\ ∃ h',Heap.ExtBut it s.heap h'/\s'={ s with heap:=h' }
theorem ZgQ {it:Addr}{T id:String}{b:Builtin}{Q:Option Value->Shared->Prop}(hT:s.TypeIs (.ref it) T)(sl:Slot T (Str.ofString "__next__") id)(hb:entryFor table id=some b)(ha:argsOk id ⟨[.ref it],[]⟩)
  (h:wpAny (model prog w) A.in1 (b ⟨[.ref it],[]⟩) (fun _ _=>False) (ZgP it s) s) (hQ: ∀ h',Heap.ExtBut it s.heap h'->Q none { s with heap:=h' }):wpAny (model prog w) A (pyNext (.ref it)) Q E s:=by
 unfold pyNext;refine wpAny_bind (wpAny_attempt (wpAny_callSpecial?_slot (name:=Str.ofString "__next__") hT sl (wpAny_call_entry sl hT hb (wpAny_mono h (fun _ _ z=>z.elim) fun e s' z=> ?_) ha)))
 obtain ⟨a,rfl,ho,h',eb,rfl⟩:=z
 exact wpAny_bind (ZkQ ho (wpAny_pure (hQ h' eb)))
theorem Zd4 {it:Addr}{x left step:Int}{Q:Option Value->Shared->Prop}(q:ZbF A s.heap)(hit:IsRangeIter s.heap it x left step)(hl:left<=0)
  (hQ: ∀ h',Heap.ExtBut it s.heap h'->Q none { s with heap:=h' }):wpAny (model prog w) A (pyNext (.ref it)) Q E s:=by
 refine ZgQ ⟨_,hit,rfl⟩ F.slot_range_iterator_next F.entry_range_iterator_next (F.args_range_iterator_next_1 _) ?_ hQ
 refine wpAny_bind (m:=field (.ref it) 0) (wpAny_field hit rfl (x:=rawInt x) rfl ?_)
 refine wpAny_bind (m:=field (.ref it) 1) (wpAny_field hit rfl (x:=rawInt left) rfl ?_)
 refine wpAny_bind (m:=field (.ref it) 2) (wpAny_field hit rfl (x:=rawInt step) rfl ?_)
 dsimp only[rawInt];rw[if_pos hl];refine wpAny_bind (wpAny_rule (wpAny_bind ?_))
 exact Zcb q.in1 fun h' e k ho=>⟨e,rfl,ho,h',fun b o _ z=>k b o z,rfl⟩
theorem Zmu {it l:Addr}{i:Nat}{o ol:Obj}{items:Array Value}{n:Nat}(q:ZbF A s.heap)(ho:s.heap.get? it=some o)(hd:o.data= .fields #[.ref l,.int i 0])(hol:s.heap.get? l=some ol)(hdl:ol.data= .seq items n)(hx:items[i]?=none):
  wpAny (model prog w) A.in1 (Builtin.«list_iterator.__next__» ⟨[.ref it],[]⟩) (fun _ _=>False) (ZgP it s) s:=by
 refine wpAny_bind (m:=field (.ref it) 0) (wpAny_field ho hd (x:= .ref l) rfl ?_)
 dsimp only;rw[if_neg (show ¬ ((Value.ref l == Value.none)=true) from Bool.false_ne_true)];refine wpAny_bind (m:=field (.ref it) 1) (wpAny_field ho hd (x:= .int i 0) rfl ?_)
 refine wpAny_bind (m:=seqItems? (.ref l)) (wpAny_seqItems hol hdl ?_)
 simp only[Int.toNat_natCast,hx];refine wpAny_bind (wpAny_rule (wpAny_bind (wpAny_setField ho hd (by simp) ?_)))
 have q2:ZbF A.in1 (s.heap.update it (Obj.mapFields (·.setIfInBounds 0 Value.none))):=by
  rcases q with q | ⟨ea,oe,vs,e1,e2,e3,e4⟩
  ·exact .inl q
  ·refine .inr ⟨ea,oe,vs,e1,?_,e3,e4⟩
   rw[Heap.get?_update_other _ _ (fun z=> ?_)]
   ·exact e2
   ·rw[<- z,ho] at e2
    cases e2
    rw[hd] at e3;cases e3
    simp at e4
 refine Zcb q2 fun h' e k ho=>⟨e,rfl,ho,h',fun b o hb z=>k b o ?_,rfl⟩
 rw[Heap.get?_update_other _ _ (Ne.symm hb)]
 exact z
theorem Zmv {it l:Addr}{i:Nat}{o ol:Obj}{items:Array Value}{n:Nat}(q:ZbF A s.heap)(ho:s.heap.get? it=some o)(hd:o.data= .fields #[.ref l,.int i 0])(hol:s.heap.get? l=some ol)(hdl:ol.data= .seq items n)(hx:items[i]?=none):
  wpAny (model prog w) A.in1 (Builtin.«tuple_iterator.__next__» ⟨[.ref it],[]⟩) (fun _ _=>False) (ZgP it s) s:=by
 refine wpAny_bind (m:=field (.ref it) 0) (wpAny_field ho hd (x:= .ref l) rfl ?_)
 dsimp only;rw[if_neg (show ¬ ((Value.ref l == Value.none)=true) from Bool.false_ne_true)];refine wpAny_bind (m:=field (.ref it) 1) (wpAny_field ho hd (x:= .int i 0) rfl ?_)
 refine wpAny_bind (m:=seqItems? (.ref l)) (wpAny_seqItems hol hdl ?_)
 simp only[Int.toNat_natCast,hx];refine wpAny_bind (wpAny_rule (wpAny_bind (wpAny_setField ho hd (by simp) ?_)))
 have q2:ZbF A.in1 (s.heap.update it (Obj.mapFields (·.setIfInBounds 0 Value.none))):=by
  rcases q with q | ⟨ea,oe,vs,e1,e2,e3,e4⟩
  ·exact .inl q
  ·refine .inr ⟨ea,oe,vs,e1,?_,e3,e4⟩
   rw[Heap.get?_update_other _ _ (fun z=> ?_)]
   ·exact e2
   ·rw[<- z,ho] at e2
    cases e2
    rw[hd] at e3;cases e3
    simp at e4
 refine Zcb q2 fun h' e k ho=>⟨e,rfl,ho,h',fun b o hb z=>k b o ?_,rfl⟩
 rw[Heap.get?_update_other _ _ (Ne.symm hb)]
 exact z
theorem ZiX {it l:Addr}{i:Nat}{items}{Q:Option Value->Shared->Prop}(q:ZbF A s.heap)(hit:s.heap.IsListIter it l i)(hl:s.heap.IsList l items)(hx:items[i]?=none)
  (hQ: ∀ h',Heap.ExtBut it s.heap h'->Q none { s with heap:=h' }):wpAny (model prog w) A (pyNext (.ref it)) Q E s:=by
 obtain ⟨o,ho,hc,hd⟩:=id hit
 obtain ⟨ol,hol,_,nl,hdl⟩:=hl
 exact ZgQ hit.typeIs slot_listiter_next entry_listiter_next (args_listiter_next _) (Zmu q ho hd hol hdl hx) hQ
theorem ZgR {it l:Addr}{i:Nat}{items}{Q:Option Value->Shared->Prop}(q:ZbF A s.heap)(hit:s.heap.IsTupleIter it l i)(hl:s.heap.IsTuple l items)(hx:items[i]?=none)
  (hQ: ∀ h',Heap.ExtBut it s.heap h'->Q none { s with heap:=h' }):wpAny (model prog w) A (pyNext (.ref it)) Q E s:=by
 obtain ⟨o,ho,hc,hd⟩:=id hit
 obtain ⟨ol,hol,_,nl,hdl⟩:=hl
 exact ZgQ hit.typeIs F.slot_tuple_iterator_next F.entry_tuple_iterator_next (F.args_tuple_iterator_next_1 _) (Zmv q ho hd hol hdl hx) hQ
end
end DQ
end
section
namespace L2
open PySem PySem.Spec PyProof.Rows
noncomputable abbrev Key:=Sum Int Str
noncomputable def Zmw:Key->Value->Bool
 | .inl k,v=>Value.isInt k v
 | .inr x,v=>Value.isStrOf x v
noncomputable def ZsV (w:World):Key->Int
 | .inl k=>hashInt k
 | .inr x=>hashStr w x
theorem ZV: ∀ {k:Key} {v:Value},Zmw k v=true->(∃ i t,k=Sum.inl i/\v=Value.int i t)\/(∃ x t,k=Sum.inr x/\v=Value.str x t)
 | .inl i,v,h=>by
  obtain ⟨t,e⟩:=Value.isInt_shape (k:=i) (v:=v) h
  exact .inl ⟨i,t,rfl,e⟩
 | .inr x,v,h=>by
  obtain ⟨t,e⟩:=Value.isStrOf_shape (x:=x) (v:=v) h
  exact .inr ⟨x,t,rfl,e⟩
theorem Zmx (a b:Int):decide ((Sum.inl a:Key)=Sum.inl b)=(a == b):=by
 by_cases e:a=b
 ·subst e;simp
 ·have h: ¬ (Sum.inl a:Key)=Sum.inl b:=fun q=>e (Sum.inl.inj q)
  rw[decide_eq_false h];exact (beq_eq_false_iff_ne.mpr e).symm
theorem Zmy (a b:Str):decide ((Sum.inr a:Key)=Sum.inr b)=decide (a=b):=by
 by_cases e:a=b
 ·subst e;simp
 ·have h: ¬ (Sum.inr a:Key)=Sum.inr b:=fun q=>e (Sum.inr.inj q)
  rw[decide_eq_false h,decide_eq_false e]
theorem Zmz (a:Int)(b:Str):decide ((Sum.inl a:Key)=Sum.inr b)=false:=decide_eq_false (fun q=>nomatch q)
theorem ZmA (a:Str)(b:Int):decide ((Sum.inr a:Key)=Sum.inl b)=false:=decide_eq_false (fun q=>nomatch q)
noncomputable def ZgS (prog:Program)(w:World):PySem.KeyKind prog w Key where
 is:=Zmw
 hash:=ZsV w
 inj:=fun v a b ha hb=>by
  rcases ZV ha with ⟨i,t,rfl,rfl⟩ | ⟨x,t,rfl,rfl⟩
  ·rcases ZV hb with ⟨j,u,rfl,e⟩ | ⟨y,u,rfl,e⟩
   ·injection e with e1 _;rw[e1]
   ·exact nomatch e
  ·rcases ZV hb with ⟨j,u,rfl,e⟩ | ⟨y,u,rfl,e⟩
   ·exact nomatch e
   ·injection e with e1 _;rw[e1]
 byValue:=fun k v h=>by
  rcases ZV h with ⟨i,t,rfl,rfl⟩ | ⟨x,t,rfl,rfl⟩<;>rfl
 pyHash:=fun hv h=>by
  rcases ZV hv with ⟨i,t,rfl,rfl⟩ | ⟨x,t,rfl,rfl⟩
  ·exact wpAny_pyHash_int h
  ·exact wpAny_pyHash_str h
 eqBool:=fun hu hv h=>by
  rcases ZV hu with ⟨i,t,rfl,rfl⟩ | ⟨x,t,rfl,rfl⟩
  ·rcases ZV hv with ⟨j,u,rfl,rfl⟩ | ⟨y,u,rfl,rfl⟩
   ·rw[Zmx] at h;exact wpAny_eqBool_int h
   ·rw[Zmz] at h;exact SeqAt.EqAt.int_str i t y u _ _ _ _ h
  ·rcases ZV hv with ⟨j,u,rfl,rfl⟩ | ⟨y,u,rfl,rfl⟩
   ·rw[ZmA] at h;exact SeqAt.EqAt.str_int x t j u _ _ _ _ h
   ·rw[Zmy] at h;exact wpAny_eqBool_str h
 «strs» :=fun k x t v h=>by
  rcases ZV h with ⟨i,u,rfl,e⟩ | ⟨y,u,rfl,e⟩
  ·exact nomatch e
  ·injection e with e1 _
   subst e1;cases v<;>rfl
end L2
namespace L2
open PySem PySem.Spec PyProof.Rows
inductive V where
 |non | bl (b:Bool) | int (i:Int) | str (x:Str) | byt (b:Array UInt8) | flt (b:UInt64) | ref (a:Addr) | ty (n:String)
 deriving DecidableEq
noncomputable def Zaa:V->Value->Prop
 | .non,u=>u=Value.none
 | .bl b,u=>u=Value.bool b
 | .int i,u=> ∃ t,u=Value.int i t
 | .str x,u=> ∃ t,u=Value.str x t
 | .byt b,u=> ∃ t,u=Value.bytes b t
 | .flt b,u=> ∃ t,u=Value.float b t
 | .ref a,u=>u=Value.ref a
 | .ty n,u=>u=Value.type n
noncomputable abbrev ZX:List V->List Value->Prop:=Paired Zaa
theorem ZX.length {xs:List V}{us:List Value}(r:ZX xs us):xs.length=us.length:=Paired.length r
theorem ZX.get: ∀ {xs:List V} {us:List Value} {i:Nat} {x:V},ZX xs us->xs[i]?=some x-> ∃ u,us[i]?=some u/\Zaa x u
 |_,_,_,_,.nil,e=>by simp at e
 |_,_,0,_,.cons r _,e=>by simp at e;subst e;exact ⟨_,rfl,r⟩
 |_,_,i + 1,x,.cons _ t,e=>by
  obtain ⟨u,h1,h2⟩:=ZX.get (i:=i) (x:=x) t (by simpa using e)
  exact ⟨u,by simpa using h1,h2⟩
theorem ZX.set {x:V}{u:Value}(r:Zaa x u): ∀ {xs:List V} {us:List Value} (i:Nat),ZX xs us->ZX (xs.set i x) (us.set i u)
 |_,_,_,.nil=> .nil
 |_,_,0,.cons _ t=> .cons r t
 |_,_,i + 1,.cons q t=> .cons q (ZX.set r i t)
theorem ZX.append: ∀ {xs ys:List V} {us ws:List Value},ZX xs us->ZX ys ws->ZX (xs ++ ys) (us ++ ws)
 |_,_,_,_,.nil,s=>s
 |_,_,_,_,.cons r t,s=> .cons r (ZX.append t s)
theorem ZX.take: ∀ {xs:List V} {us:List Value} (n:Nat),ZX xs us->ZX (xs.take n) (us.take n)
 |_,_,0,_=> .nil
 |_,_,_ + 1,.nil=> .nil
 |_,_,n + 1,.cons r t=> .cons r (ZX.take n t)
theorem ZX.drop: ∀ {xs:List V} {us:List Value} (n:Nat),ZX xs us->ZX (xs.drop n) (us.drop n)
 |_,_,0,r=>r
 |_,_,_ + 1,.nil=> .nil
 |_,_,n + 1,.cons _ t=>ZX.drop n t
noncomputable def ZmB:Option V->Option Value->Prop
 |some v,some u=>Zaa v u
 |none,none=>True
 |_,_=>False
noncomputable def KV {κ:Type}:List (κ × V)->List (κ × Value)->Prop:=Paired fun (p:κ × V) (q:κ × Value)=>p.1=q.1/\Zaa p.2 q.2
noncomputable def kV:Key->V
 | .inl i=> .int i
 | .inr x=> .str x
inductive HO where
 |lst (xs:List V)
 |tup (xs:List V)
 |dK (kvs:List (Key × V)) | dT (kvs:List (List Key × V))
 |set (S:Int->Bool) (n:Nat)
 |ins (C dx:Addr) (fs:List (Str × V))
 |own (x:Addr)
 |xd (fs:List (Str × V))
 |met (f x:Addr)
 |rng (lo hi:Int)
 |frz (o:Obj) (u:HO)
 |tbl (ps:Array Value)
 |ext (φ:Heap->Prop)
noncomputable abbrev Hp:=Addr->Option HO
noncomputable def upd (H:Hp)(a:Addr)(o:HO):Hp:=fun b=>if b=a then some o else H b
theorem Zv {H:Hp}{a:Addr}{o:HO}:upd H a o a=some o:=by unfold upd;rw[if_pos rfl]
theorem Zu {H:Hp}{a b:Addr}{o:HO}(h:b≠a):upd H a o b=H b:=by unfold upd;rw[if_neg h]
theorem ZS {H:Hp}{a b:Addr}{o:HO}(h:H a=some o)(h':H b=none):a≠b:=by
 intro e;subst e;rw[h] at h';cases h'
section
variable (P:Program)(w:World)
noncomputable def Zbr (H:Hp)(h:Heap)(a:Addr):HO->Prop
 | .lst xs=>xs.length<=sizeLine/\ ∃ (its:List Value) (n:Nat),ZX xs its/\h.get? a=some { cls:= .type "list",data:= .seq its.toArray n }
 | .tup xs=>xs.length<=sizeLine/\ ∃ its:List Value,ZX xs its/\IsTup h a its.toArray
 | .dK kvs=>kvs.length<=sizeLine/\(a == sysModules)=false/\ ∃ vs,KV kvs vs/\h.DictOf (ZgS P w) a vs
 | .dT kvs=>kvs.length<=sizeLine/\(a == sysModules)=false/\ ∃ xs:List (List Key × Addr × Value),
   Paired (fun (p:List Key × V) (q:List Key × Addr × Value)=>p.1=q.1/\H q.2.1=some (.tup (p.1.map kV))/\Zaa p.2 q.2.2) kvs xs/\
   ∃ o es ep,h.get? a=some o/\o.ExactDict/\o.data= .dict es ep/\es.toList=xs.map (entryOfKey (tupleKind (ZgS P w)))/\(xs.map (·.1)).Nodup
 | .set S n=>h.SetOf (intKind P w) a S n
 | .ins C dx fs=>H dx=some (.own a)/\fs.length<=1000/\dx≠a/\h.get? a=some (PySem.W.instObj C dx)/\
   ∃ mA,h.Ns1 dx mA/\(∀ f,ZmB (fs.lookup f) (mA f))/\PySem.Within mA (fs.map (·.1))
 | .own _=> ∃ o,h.get? a=some o
 | .xd fs=> ∃ mA,h.Ns1 a mA/\ ∀ f,ZmB (fs.lookup f) (mA f)
 | .rng lo hi=> ∃ t u v,h.get? a=some { cls:= .type "range",data:= .fields #[.int lo t,.int hi u,.int 1 v] }
 | .frz o u=>h.get? a=some o/\Zbr H h a u
 | .tbl ps=>h.get? a=some { cls:= .none,data:= .fields ps }
 | .met f x=>h.get? a=some (PySem.W.methodObj (.ref f) (.ref x))
 | .ext φ=>φ h/\(∃ o,h.get? a=some o)/\ ∀ h1 h2:Heap,φ h1->(∀ o,h1.get? a=some o->h2.get? a=some o)->φ h2
noncomputable def HOk (H:Hp)(h:Heap):Prop:= ∀ a o,H a=some o->Zbr P w H h a o
end
section
variable {P:Program}{w:World}{H H':Hp}{h h':Heap}{a:Addr}{o:HO}
theorem Zbr.lt (x:Zbr P w H h a o):a < h.objs.size:=by
 cases o with
 |lst xs=>obtain ⟨_,_,_,_,e⟩:=x;exact Heap.lt_size e
 |tup xs=>obtain ⟨_,_,_,p⟩:=x;exact p.lt
 |dK kvs=>obtain ⟨_,_,_,_,o,_,_,e,_⟩:=x;exact Heap.lt_size e
 |dT kvs=>obtain ⟨_,_,_,_,o,_,_,e,_⟩:=x;exact Heap.lt_size e
 |set S n=>obtain ⟨o,_,_,_,e,_⟩:=x;exact Heap.lt_size e
 |ins C dx fs=>obtain ⟨_,_,_,e,_⟩:=x;exact Heap.lt_size e
 |own y=>obtain ⟨_,e⟩:=x;exact Heap.lt_size e
 |xd fs=>obtain ⟨_,⟨_,_,_,e,_⟩,_⟩:=x;exact Heap.lt_size e
 |rng lo hi=>obtain ⟨_,_,_,e⟩:=x;exact Heap.lt_size e
 |frz ob u=>obtain ⟨e,_⟩:=x;exact Heap.lt_size e
 |tbl ps=>exact Heap.lt_size (show h.get? a=some _ from x)
 |met f y=>exact Heap.lt_size (show h.get? a=some _ from x)
 |ext φ=>obtain ⟨_,⟨_,e⟩,_⟩:=x;exact Heap.lt_size e
theorem Paired.mapP {α β:Type}{F G:α->β->Prop}: ∀ {l₁:List α} {l₂:List β},Paired F l₁ l₂->(∀ a b,F a b->G a b)->Paired G l₁ l₂
 |_,_,.nil,_=> .nil
 |_,_,.cons r t,f=> .cons (f _ _ r) (Paired.mapP t f)
theorem Zbr.stay (x:Zbr P w H h a o)(k: ∀ b u,(b=a\/H b=some (.own a))->h.get? b=some u->h'.get? b=some u)
  (ho: ∀ b,H b=some (.own a)->H' b=some (.own a)) (ht: ∀ b xs,H b=some (.tup xs)->H' b=some (.tup xs)):Zbr P w H' h' a o:=by
 induction o with
 |lst xs=>obtain ⟨z,its,n,r,e⟩:=x;exact ⟨z,its,n,r,k _ _ (.inl rfl) e⟩
 |tup xs=>obtain ⟨z,its,r,ob,e,c⟩:=x;exact ⟨z,its,r,ob,k _ _ (.inl rfl) e,c⟩
 |dK kvs=>obtain ⟨z,y,vs,r,ob,es,ep,e,c⟩:=x;exact ⟨z,y,vs,r,ob,es,ep,k _ _ (.inl rfl) e,c⟩
 |dT kvs=>
  obtain ⟨z,y,xs,r,ob,es,ep,e,c⟩:=x
  exact ⟨z,y,xs,Paired.mapP r fun p q z=>⟨z.1,ht _ _ z.2.1,z.2.2⟩,ob,es,ep,k _ _ (.inl rfl) e,c⟩
 |set S n=>obtain ⟨ob,es,ep,t,e,c⟩:=x;exact ⟨ob,es,ep,t,k _ _ (.inl rfl) e,c⟩
 |ins C dx fs=>
  obtain ⟨d,z,ne,e,mA,⟨od,es,ep,e2,c⟩,r⟩:=x
  exact ⟨ho _ d,z,ne,k _ _ (.inl rfl) e,mA,⟨od,es,ep,k _ _ (.inr d) e2,c⟩,r⟩
 |own y=>obtain ⟨ob,e⟩:=x;exact ⟨ob,k _ _ (.inl rfl) e⟩
 |xd fs=>obtain ⟨mA,⟨od,es,ep,e,c⟩,r⟩:=x;exact ⟨mA,⟨od,es,ep,k _ _ (.inl rfl) e,c⟩,r⟩
 |rng lo hi=>obtain ⟨t,u,v,e⟩:=x;exact ⟨t,u,v,k _ _ (.inl rfl) e⟩
 |frz ob u ih=>obtain ⟨e,q⟩:=x;exact ⟨k _ _ (.inl rfl) e,ih q⟩
 |tbl ps=>
  have e:h.get? a=some { cls:= .none,data:= .fields ps }:=x
  show h'.get? a=some { cls:= .none,data:= .fields ps }
  exact k a _ (.inl rfl) e
 |met f y=>
  have e:h.get? a=some (PySem.W.methodObj (.ref f) (.ref y)):=x
  show h'.get? a=some (PySem.W.methodObj (.ref f) (.ref y))
  exact k a _ (.inl rfl) e
 |ext φ=>obtain ⟨p,⟨o,e⟩,st⟩:=x;exact ⟨st _ _ p fun o q=>k _ _ (.inl rfl) q,⟨o,k _ _ (.inl rfl) e⟩,st⟩
theorem HOk.lt (x:HOk P w H h)(e:H a=some o):a < h.objs.size:=(x a o e).lt
theorem HOk.fresh (x:HOk P w H h)(e:h.objs.size<=a):H a=none:=by
 cases q:H a with
 |none=>rfl
 |some u=>exact absurd (Nat.lt_of_lt_of_le (x.lt q) e) (Nat.lt_irrefl _)
theorem HOk.kept (x:HOk P w H h)(k: ∀ b u,h.get? b=some u->h'.get? b=some u):HOk P w H h':=fun a o e=>
 (x a o e).stay (fun b u _ q=>k b u q) (fun _ q=>q) fun _ _ q=>q
theorem HOk.laid (x:HOk P w H h)(k: ∀ b u,h.get? b=some u->h'.get? b=some u)(hp:h.objs.size<=a)(new:Zbr P w (upd H a o) h' a o):HOk P w (upd H a o) h':=fun b u e=>by
 have hn:=x.fresh hp
 by_cases hb:b=a
 ·subst hb;rw[Zv] at e;cases e;exact new
 ·rw[Zu hb] at e
  exact (x b u e).stay (fun c v _ q=>k c v q) (fun c q=>by rw[Zu (ZS q hn)];exact q) fun c xs q=>by rw[Zu (ZS q hn)];exact q
end
noncomputable def Rd (H:Hp)(a:Addr)(u:HO):Prop:=H a=some u\/ ∃ o,H a=some (.frz o u)
theorem Rd.ok {P:Program}{w:World}{H:Hp}{h:Heap}{a:Addr}{u:HO}(r:Rd H a u)(x:HOk P w H h):Zbr P w H h a u:=by
 rcases r with r | ⟨o,r⟩
 ·exact x a u r
 ·obtain ⟨_,q⟩:=x a _ r
  exact q
noncomputable def Mut:Option HO->Prop
 |some (.lst _)=>True
 |some (.dK _)=>True
 |some (.dT _)=>True
 |some (.set _ _)=>True
 |some (.ins _ _ _)=>True
 |some (.ext _)=>True
 |_=>False
section
variable {P:Program}{w:World}{H:Hp}{h h':Heap}{x e:Addr}{o':HO}
theorem HOk.write (ok:HOk P w H h)(mu:Mut (H x))(he:e=x\/H e=some (.own x))(k: ∀ b u,b≠e->h.get? b=some u->h'.get? b=some u)(heo: ∃ u,h'.get? e=some u)
  (new:Zbr P w (upd H x o') h' x o'):HOk P w (upd H x o') h':=fun b u q=>by
 have nown: ∀ c y,H c=some (.own y)->c≠x:=fun c y r z=>by subst z;rw[r] at mu;exact mu
 have ntup: ∀ c xs,H c=some (.tup xs)->c≠x:=fun c xs r z=>by subst z;rw[r] at mu;exact mu
 by_cases hb:b=x
 ·subst hb;rw[Zv] at q;cases q;exact new
 ·rw[Zu hb] at q
  by_cases hbe:b=e
  ·have q':H b=some (.own x):=by
    rcases he with z | z
    ·exact absurd (hbe.trans z) hb
    ·rw[hbe];exact z
   rw[q] at q';cases q';obtain ⟨v,hv⟩:=heo
   exact ⟨v,by rw[hbe];exact hv⟩
  ·refine (ok b u q).stay (fun c v hc r=>k c v ?_ r) (fun c r=>by rw[Zu (nown c b r)];exact r) fun c xs r=>by rw[Zu (ntup c xs r)];exact r
   rcases hc with rfl | hc
   ·exact hbe
   ·rintro rfl
    rcases he with z | z
    ·exact nown c b hc z
    ·rw[hc] at z;cases z;exact hb rfl
end
structure Un (fs ex:List Addr) (H H':Hp) (h h':Heap):Prop where
 keep: ∀ b o,h.get? b=some o->H b=none->b ∉ fs->b ∉ ex->h'.get? b=some o
 slot: ∀ b o,h.get? b=some o->H b=none->b∈fs->b ∉ ex-> ∃ sl,h'.get? b=some { o with slots:=sl }
 free: ∀ b o,h.get? b=some o->H b=none->b ∉ ex->H' b=none
 there: ∀ b o,h.get? b=some o->b ∉ ex-> ∃ o',h'.get? b=some o'
 tups: ∀ b xs,H b=some (.tup xs)->H' b=some (.tup xs)
 frzs: ∀ b o u,H b=some (.frz o u)->H' b=some (.frz o u)
 tbls: ∀ b ps,H b=some (.tbl ps)-> ∃ more,H' b=some (.tbl (ps ++ more))
section
variable {fs fs' ex ex':List Addr}{H H1 H2:Hp}{h h1 h2 h':Heap}{a x e:Addr}{o:HO}
theorem Un.any (u:Un fs ex H H1 h h1){b:Addr}{ob:Obj}(q:h.get? b=some ob)(n:H b=none)(hx:b ∉ ex): ∃ sl,h1.get? b=some { ob with slots:=sl }:=by
 by_cases hb:b∈fs
 ·exact u.slot b ob q n hb hx
 ·exact ⟨ob.slots,u.keep b ob q n hb hx⟩
theorem Un.kept (k: ∀ b u,h.get? b=some u->h'.get? b=some u):Un fs ex H H h h':=
 ⟨fun b ob q _ _ _=>k b ob q,fun b ob q _ _ _=>⟨ob.slots,k b ob q⟩,fun _ _ _ n _=>n,fun b ob q _=>⟨ob,k b ob q⟩,fun _ _ q=>q,fun _ _ _ q=>q,fun _ ps q=>⟨#[],by rw[q];simp⟩⟩
theorem Un.refl:Un fs ex H H h h:=Un.kept fun _ _ q=>q
theorem Un.laid (k: ∀ b u,h.get? b=some u->h'.get? b=some u)(hp:h.objs.size<=a)(hn:H a=none):Un fs ex H (upd H a o) h h' where
 keep:=fun b u q _ _ _=>k b u q
 slot:=fun b u q _ _ _=>⟨u.slots,k b u q⟩
 free:=fun b u q n _=>by rw[Zu (Nat.ne_of_lt (Nat.lt_of_lt_of_le (Heap.lt_size q) hp))];exact n
 there:=fun b u q _=>⟨u,k b u q⟩
 tups:=fun b xs q=>by rw[Zu (ZS q hn)];exact q
 frzs:=fun b u xs q=>by rw[Zu (ZS q hn)];exact q
 tbls:=fun b ps q=>⟨#[],by rw[Zu (ZS q hn),q];simp⟩
theorem Un.write (mu:Mut (H x))(he:e=x\/H e=some (.own x))(k: ∀ b u,b≠e->h.get? b=some u->h'.get? b=some u)(heo: ∃ u,h'.get? e=some u):Un fs ex H (upd H x o) h h':=by
 have hx: ∀ b,H b=none->b≠x:=fun b n z=>by subst z;rw[n] at mu;exact mu
 have hb: ∀ b,H b=none->b≠e:=fun b n z=>by
  subst z
  rcases he with r | r
  ·exact hx b n r
  ·rw[n] at r;cases r
 have hm: ∀ b u,H b=some u-> ¬ Mut (some u)->b≠x:=fun b u q nm z=>by subst z;rw[q] at mu;exact nm mu
 refine ⟨fun b u q n _ _=>k b u (hb b n) q,fun b u q n _ _=>⟨u.slots,k b u (hb b n) q⟩,fun b u q n _=>by rw[Zu (hx b n)];exact n,fun b u q _=> ?_,
  fun b xs q=>by rw[Zu (hm b _ q fun z=>z)];exact q,fun b u xs q=>by rw[Zu (hm b _ q fun z=>z)];exact q,fun b ps q=>⟨#[],by rw[Zu (hm b _ q fun z=>z),q];simp⟩⟩
 by_cases hbe:b=e
 ·subst hbe;exact heo
 ·exact ⟨u,k b u hbe q⟩
end
noncomputable def trk (h:Heap)(H:Hp):List Addr:=(List.range h.objs.size).filter fun a=>(H a).isSome
noncomputable def ZiV (h:Heap)(H:Hp):Heap:=PySem.W.hideAll h (trk h H)
theorem ZgT (h:Heap)(H:Hp):(ZiV h H).objs.size=h.objs.size:=PySem.W.hideAll_size _ _
theorem Zfs {h:Heap}{H:Hp}{b:Addr}{o:Obj}(e:h.get? b=some o)(n:H b=none):(ZiV h H).get? b=some o:=
 PySem.W.hideAll_get _ e fun hm=>by
  have q:(H b).isSome=true:=(List.mem_filter.mp hm).2
  rw[n] at q;simp at q
theorem ZgU {h:Heap}{H:Hp}{b:Addr}{o:Obj}(e:(ZiV h H).get? b=some o):h.get? b=some o/\H b=none:=by
 have e':h.get? b=some o:=PySem.W.of_hideAll (trk h H) e
 refine ⟨e',?_⟩
 cases q:H b with
 |none=>rfl
 |some x=>
  have hm:b∈trk h H:=List.mem_filter.mpr ⟨List.mem_range.mpr (Heap.lt_size e'),by simp[q]⟩
  have z:(ZiV h H).get? b=none:=PySem.W.hideAll_none (trk h H) hm
  rw[z] at e;cases e
noncomputable def ZkR (g h:Heap)(L:Addr):List (Addr × Obj):=(List.range h.objs.size).filterMap fun a=>if a=L\/(g.get? a).isSome=true then none else (h.get? a).map fun o=>(a,o)
noncomputable def Za7 (g h:Heap)(L d:Addr):List (Addr × Obj):=(ZkR g h L).filter fun p=>decide (p.1≠d)
end L2
namespace L2
open PySem PySem.Spec PyProof.Rows
structure Mod (K:PySem.W.Frag) (mg:Str->Option Value) (base:Heap):Prop where
 kin:K.In base
 glob:base.Ns mainGlobals mg
 blt: ∃ mb,base.Ns builtinsNs mb/\ ∀ x:Str,x≠"__name__"->mb x=bootBuiltins x
 nolimit:base.NoLimit
structure Cx where
 prog:Program
 w:World
 K:PySem.W.Frag
 mg:Str->Option Value
 base:Heap
 A:Around
 N:List Str
 s₀:Shared
 H₀:Hp
 env:Env
 outer:List Env
 stack:List Env
 ex:List Addr
 fn:Str->Bool
 calm:Bool
 pn:List (Addr × Obj)
 xe:Value->Shared->Prop
 fxs:Option (List Bool × List (Option V))
noncomputable def frs (l:List Env):List Addr:=l.filterMap (·.frame)
noncomputable abbrev Cx.fs (X:Cx):List Addr:=frs X.outer
noncomputable def Vis (sc:Scope)(x:Str):Prop:=sc.names.lookup x=some .local\/sc.names.lookup x=some .cell\/sc.names.lookup x=some .free
noncomputable def Loc (sc:Scope)(x:Str):Prop:=sc.names.lookup x=some .local\/sc.names.lookup x=some .cell
noncomputable def ZsW (env:Env)(h:Heap)(m:Str->Option Value)(x:Str)(u:Value):Prop:=
 (env.kindOf x=some .local/\m x=some u)\/((env.kindOf x=some .cell\/env.kindOf x=some .free)/\ ∃ c,env.cells.lookup x=some c/\h.IsCell c (some u))
structure Cx.Ok (X:Cx):Prop where
 mod:Mod X.K X.mg X.base
 kind:X.env.scope.kind= .function
 glob:X.env.globals=mainGlobals
 blt:X.env.builtins=builtinsNs
 above:X.s₀.heap.objs.size<=X.env.locals
 inj: ∀ x y c,X.env.cells.lookup x=some c->X.env.cells.lookup y=some c->x=y
 has: ∀ x,(X.env.kindOf x=some .cell\/X.env.kindOf x=some .free)-> ∃ c,X.env.cells.lookup x=some c
 cab: ∀ x c,X.fn x=true->X.env.cells.lookup x=some c->X.s₀.heap.objs.size<=c
 hd:X.calm=true->X.A.handled=none
 frames:X.A.frames=some X.stack
 stk:X.stack=X.outer\/(X.stack=X.env :: X.outer/\X.env.frame=some X.env.locals)
 exf: ∀ b∈X.ex,b≠X.env.locals/\ ∀ x c,X.env.cells.lookup x=some c->c≠b
 bs: ∀ b o,X.base.get? b=some o->X.s₀.heap.get? b=some o/\X.H₀ b=none
 bsz:X.base.objs.size<=X.s₀.heap.objs.size
 noex: ∀ b o,X.base.get? b=some o->b ∉ X.ex
 exfs: ∀ b∈X.ex,b ∉ X.fs
 funs:X.s₀.heap.FunFrames X.base X.outer
 frf: ∀ b∈X.fs,X.H₀ b=none
noncomputable def Qd (A:Around)(H:Hp):Prop:=A.handled=none\/ ∃ ea oe u vs,A.handled=some (.ref ea)/\H ea=some (.frz oe u)/\oe.data= .fields vs/\vs[2]?=some .none
theorem Qd.mono {A:Around}{H H':Hp}(q:Qd A H)(k: ∀ b o u,H b=some (.frz o u)->H' b=some (.frz o u)):Qd A H':=by
 rcases q with q | ⟨ea,oe,u,vs,e1,e2,e3,e4⟩
 ·exact .inl q
 ·exact .inr ⟨ea,oe,u,vs,e1,k _ _ _ e2,e3,e4⟩
noncomputable def Cx.may (X:Cx)(i:Nat):Bool:=match X.fxs with | none=>true | some (W,_)=>W[i]? == some true
noncomputable def Cx.Fx (X:Cx)(σ:List (Option V)):Prop:= ∀ W σ0,X.fxs=some (W,σ0)-> ∀ j:Nat,W[j]?=some false->σ[j]?=σ0[j]?
theorem Cx.Fx.free {X:Cx}{σ:List (Option V)}(h:X.fxs=none):X.Fx σ:=fun W σ0 e=>by rw[h] at e;cases e
theorem Cx.Fx.set {X:Cx}{σ:List (Option V)}{i:Nat}{v:Option V}(h:X.Fx σ)(m:X.may i=true):X.Fx (σ.set i v):=fun W σ0 e j hj=>by
 have ne:i≠j:=fun z=>by
  unfold Cx.may at m;rw[e,z] at m;have m':(W[j]? == some true)=true:=m
  rw[hj] at m';cases m'
 rw[List.getElem?_set_ne ne]
 exact h W σ0 e j hj
structure Inv (X:Cx) (pins:List (Addr × Obj)) (σ:List (Option V)) (H:Hp) (s:Shared):Prop where
 ok:X.Ok
 os:s.os=X.s₀.os
 bare:AllBare s.gens
 base:Un X.fs X.ex X.H₀ H X.s₀.heap s.heap
 loc: ∃ m,s.heap.Ns X.env.locals m/\ ∀ (i:Nat) (x:Str) (v:V),X.N[i]?=some x->σ[i]?=some (some v)->Vis X.env.scope x-> ∃ u,Zaa v u/\ZsW X.env s.heap m x u
 cell: ∀ x c,X.env.cells.lookup x=some c-> ∃ v,s.heap.IsCell c v
 free:H X.env.locals=none
 freeC: ∀ x c,X.env.cells.lookup x=some c->H c=none
 pin: ∀ p∈X.pn ++ pins,s.heap.get? p.1=some p.2/\H p.1=none/\p.1≠X.env.locals/\p.1 ∉ X.fs/\ ∀ v,p.2.data≠ .cell v
 hok:HOk X.prog X.w H s.heap
 len:σ.length=X.N.length
 qd:Qd X.A H
 fx:X.Fx σ
section
variable {X:Cx}{pins:List (Addr × Obj)}{σ:List (Option V)}{H H':Hp}{s:Shared}{h':Heap}
theorem Cx.Ok.nofr (ok:X.Ok){b:Addr}{o:Obj}(e:X.base.get? b=some o):b ∉ X.fs:=fun hb=>by
 have:=(ok.funs.mem hb).1
 rw[e] at this;cases this
theorem Inv.bs (I:Inv X pins σ H s): ∀ b o,X.base.get? b=some o->s.heap.get? b=some o/\H b=none:=fun b o e=>
 ⟨I.base.keep b o (I.ok.bs b o e).1 (I.ok.bs b o e).2 (I.ok.nofr e) (I.ok.noex b o e),I.base.free b o (I.ok.bs b o e).1 (I.ok.bs b o e).2 (I.ok.noex b o e)⟩
theorem Inv.qh (I:Inv X pins σ H s):DQ.ZbF X.A s.heap:=by
 rcases I.qd with q | ⟨ea,oe,u,vs,e1,e2,e3,e4⟩
 ·exact .inl q
 ·exact .inr ⟨ea,oe,vs,e1,(I.hok _ _ e2).1,e3,e4⟩
theorem Inv.bk (I:Inv X pins σ H s): ∀ b o,X.base.get? b=some o->s.heap.get? b=some o:=fun b o e=>(I.bs b o e).1
theorem Inv.mod (I:Inv X pins σ H s):Mod X.K X.mg X.base:=I.ok.mod
theorem Inv.kIn (I:Inv X pins σ H s):X.K.In s.heap:=I.ok.mod.kin.keeps I.bk
theorem Inv.fr (I:Inv X pins σ H s): ∃ m,Fr X.base X.env.locals s.heap m:=
 let ⟨m,hn,_⟩:=I.loc
 ⟨m,hn,I.bk,Nat.le_trans I.ok.bsz I.ok.above⟩
theorem Inv.lt (I:Inv X pins σ H s):X.env.locals < s.heap.objs.size:=let ⟨_,hn,_⟩:=I.loc;hn.lt
theorem Inv.sz (I:Inv X pins σ H s):X.s₀.heap.objs.size<=s.heap.objs.size:=Nat.le_trans I.ok.above (Nat.le_of_lt I.lt)
theorem Inv.nofs (I:Inv X pins σ H s){a:Addr}(h:s.heap.objs.size<=a):a ∉ X.fs:=fun hb=>by
 obtain ⟨_,o,ho,_⟩:=I.ok.funs.mem hb
 exact absurd (Nat.lt_of_lt_of_le (Heap.lt_size ho) (Nat.le_trans I.sz h)) (Nat.lt_irrefl _)
theorem Inv.cne (I:Inv X pins σ H s): ∀ x c,X.env.cells.lookup x=some c->c≠X.env.locals:=fun x c e z=>by
 obtain ⟨v,o,ho,hd⟩:=I.cell x c e
 obtain ⟨m,⟨o',es,ep,ho',hd',_⟩,_⟩:=I.loc
 rw[z,ho'] at ho;cases ho;rw[hd'] at hd;cases hd
theorem Inv.funs (I:Inv X pins σ H s):s.heap.FunFrames X.base X.outer:=by
 have all: ∀ (l:List Env),(∀ b∈frs l,b∈X.fs)->X.s₀.heap.FunFrames X.base l->s.heap.FunFrames X.base l:=by
  intro l
  induction l with
  |nil=>intro _ _;trivial
  |cons env r ih=>
   intro hs hl;obtain ⟨hk,⟨L,o,hf,hn,ho,hd⟩,hr⟩:=hl
   have hL:L∈X.fs:=hs L (by unfold frs;rw[List.filterMap_cons,hf];exact List.mem_cons_self)
   obtain ⟨sl,e⟩:=I.base.slot L o ho (I.ok.frf L hL) hL fun z=>I.ok.exfs L z hL
   exact ⟨hk,⟨L,_,hf,hn,e,hd⟩,ih (fun b hb=>hs b (by unfold frs;rw[List.filterMap_cons,hf];exact List.mem_cons_of_mem _ hb)) hr⟩
 exact all X.outer (fun _ hb=>hb) I.ok.funs
theorem Inv.stack (I:Inv X pins σ H s):s.heap.FunFrames X.base X.stack:=by
 rcases I.ok.stk with e | ⟨e,hf⟩
 ·rw[e];exact I.funs
 ·rw[e]
  obtain ⟨m,hn,_⟩:=I.loc
  refine .cons (by rw[I.ok.kind];decide) hf hn ?_ I.funs
  exact Heap.get?_none_of_le (Nat.le_trans I.ok.bsz I.ok.above)
theorem Inv.stkSub (I:Inv X pins σ H s): ∀ b∈frs X.stack,b∈X.env.locals :: X.fs:=fun b hb=>by
 rcases I.ok.stk with e | ⟨e,hf⟩
 ·rw[e] at hb;exact List.mem_cons_of_mem _ hb
 ·rw[e] at hb
  unfold frs at hb;rw[List.filterMap_cons,hf] at hb;exact hb
theorem Inv.stkFree (I:Inv X pins σ H s): ∀ b∈frs X.stack,H b=none:=fun b hb=>by
 rcases List.mem_cons.mp (I.stkSub b hb) with e | hb
 ·rw[e];exact I.free
 ·obtain ⟨_,o,ho,_⟩:=I.ok.funs.mem hb
  exact I.base.free b o ho (I.ok.frf b hb) fun z=>I.ok.exfs b z hb
theorem Inv.step {g':Array GenState}{t':Nat}{d':Drawn}{ch:List Addr}(I:Inv X pins σ H s)
  (hch: ∀ b∈ch,(b∈X.ex\/X.s₀.heap.objs.size<=b)/\b≠X.env.locals/\(∀ x c,X.env.cells.lookup x=some c->c≠b)/\ ∀ p∈X.pn ++ pins,p.1≠b)
  (keep: ∀ b o,b≠X.env.locals->b ∉ X.fs->b ∉ ch->s.heap.get? b=some o->H b=none->h'.get? b=some o)
  (slot: ∀ b o,b≠X.env.locals->b∈X.fs->b ∉ ch->s.heap.get? b=some o->H b=none-> ∃ sl,h'.get? b=some { o with slots:=sl }) (free: ∀ b o,b ∉ ch->s.heap.get? b=some o->H b=none->H' b=none)
  (there: ∀ b o,b ∉ ch->s.heap.get? b=some o-> ∃ o',h'.get? b=some o')
  (tups: ∀ b xs,H b=some (.tup xs)->H' b=some (.tup xs)) (frzs: ∀ b o u,H b=some (.frz o u)->H' b=some (.frz o u)) (tbls: ∀ b ps,H b=some (.tbl ps)-> ∃ more,H' b=some (.tbl (ps ++ more)))
  (ns: ∀ m,s.heap.Ns X.env.locals m->h'.Ns X.env.locals m) (hok:HOk X.prog X.w H' h') (hg:AllBare g'):
  Inv X pins σ H' { s with heap:=h',gens:=g',drawn:=d',toks:=t' }:=by
 have neL: ∀ b o,X.s₀.heap.get? b=some o->b≠X.env.locals:=fun b o e=>Nat.ne_of_lt (Nat.lt_of_lt_of_le (Heap.lt_size e) I.ok.above)
 have neC: ∀ b o,X.s₀.heap.get? b=some o->b ∉ X.ex->b ∉ ch:=fun b o e hx hb=>by
  rcases (hch b hb).1 with z | z
  ·exact hx z
  ·exact absurd (Nat.lt_of_lt_of_le (Heap.lt_size e) z) (Nat.lt_irrefl _)
 have cellK: ∀ x c,X.env.cells.lookup x=some c-> ∀ v,s.heap.IsCell c v->h'.IsCell c v:=fun x c e v ⟨o,ho,hd⟩=>by
  have nch:c ∉ ch:=fun z=>(hch c z).2.2.1 x c e rfl
  by_cases hc:c∈X.fs
  ·obtain ⟨sl,q⟩:=slot c o (I.cne x c e) hc nch ho (I.freeC x c e)
   exact ⟨_,q,hd⟩
  ·exact ⟨o,keep c o (I.cne x c e) hc nch ho (I.freeC x c e),hd⟩
 refine ⟨I.ok,I.os,hg,⟨fun b o e n hb hx=> ?_,fun b o e n hb hx=> ?_,fun b o e n hx=> ?_,fun b o e hx=> ?_,fun b xs e=>tups b xs (I.base.tups b xs e),fun b o xs e=>frzs b o xs (I.base.frzs b o xs e),fun b ps e=> ?_⟩,?_,fun x c e=> ?_,?_,fun x c e=> ?_,fun p hp=> ?_,hok,I.len,I.qd.mono frzs,I.fx⟩
 ·exact keep b o (neL b o e) hb (neC b o e hx) (I.base.keep b o e n hb hx) (I.base.free b o e n hx)
 ·obtain ⟨sl,e1⟩:=I.base.slot b o e n hb hx
  obtain ⟨sl',e2⟩:=slot b _ (neL b o e) hb (neC b o e hx) e1 (I.base.free b o e n hx)
  exact ⟨sl',e2⟩
 ·obtain ⟨o',e1⟩:=I.base.there b o e hx
  exact free b o' (neC b o e hx) e1 (I.base.free b o e n hx)
 ·obtain ⟨o',e1⟩:=I.base.there b o e hx
  exact there b o' (neC b o e hx) e1
 ·obtain ⟨m1,e1⟩:=I.base.tbls b ps e
  obtain ⟨m2,e2⟩:=tbls b _ e1
  exact ⟨m1 ++ m2,by rw[e2,Array.append_assoc]⟩
 ·obtain ⟨m,hn,hl⟩:=I.loc
  refine ⟨m,ns m hn,fun i x v e1 e2 e3=> ?_⟩
  obtain ⟨u,r,l⟩:=hl i x v e1 e2 e3
  refine ⟨u,r,?_⟩
  rcases l with l | ⟨k,c,e,z⟩
  ·exact .inl l
  ·exact .inr ⟨k,c,e,cellK x c e _ z⟩
 ·obtain ⟨v,z⟩:=I.cell x c e
  exact ⟨v,cellK x c e v z⟩
 ·obtain ⟨m,⟨o,_,_,ho,_⟩,_⟩:=I.loc
  exact free _ o (fun z=>(hch _ z).2.1 rfl) ho I.free
 ·obtain ⟨v,o,ho,hd⟩:=I.cell x c e
  exact free c o (fun z=>(hch c z).2.2.1 x c e rfl) ho (I.freeC x c e)
 ·obtain ⟨e,n,ne,nf,d⟩:=I.pin p hp
  have nch:p.1 ∉ ch:=fun z=>(hch p.1 z).2.2.2 p hp rfl
  exact ⟨keep p.1 p.2 ne nf nch e n,free p.1 p.2 nch e n,ne,nf,d⟩
theorem Inv.un {t':Nat}(I:Inv X pins σ H s)(u:Un X.fs [] H H' s.heap h')(hok:HOk X.prog X.w H' h'):Inv X pins σ H' { s with heap:=h',toks:=t' }:=by
 obtain ⟨m,⟨o,es,ep,ho,r⟩,_⟩:=id I.loc
 obtain ⟨sl,hL⟩:=u.any ho I.free (by simp)
 exact I.step (g':=s.gens) (d':=s.drawn) (ch:=[]) (fun _ z=>nomatch z) (fun b o _ hb _ e n=>u.keep b o e n hb (by simp)) (fun b o _ hb _ e n=>u.slot b o e n hb (by simp)) (fun b o _ e n=>u.free b o e n (by simp)) (fun b o _ e=>u.there b o e (by simp)) u.tups u.frzs u.tbls (fun m' hm=>by
  obtain ⟨o',es',ep',ho',r'⟩:=hm
  rw[ho] at ho';cases ho';exact ⟨_,es',ep',hL,r'⟩) hok I.bare
theorem Inv.call {g':Array GenState}{t':Nat}{d':Drawn}{ch:List Addr}(I:Inv X pins σ H s)(u:Un (frs X.stack) ch H H' s.heap h')(hok:HOk X.prog X.w H' h')(hg:AllBare g')
  (hch: ∀ b∈ch,(b∈X.ex\/X.s₀.heap.objs.size<=b)/\b≠X.env.locals/\(∀ x c,X.env.cells.lookup x=some c->c≠b)/\ ∀ p∈X.pn ++ pins,p.1≠b):
  Inv X pins σ H' { s with heap:=h',gens:=g',drawn:=d',toks:=t' }:=by
 obtain ⟨m,⟨o,es,ep,ho,r⟩,_⟩:=id I.loc
 obtain ⟨sl,hL⟩:=u.any ho I.free fun z=>(hch _ z).2.1 rfl
 exact I.step (ch:=ch) hch (fun b o hL hb hc e n=>u.keep b o e n (fun z=>(List.mem_cons.mp (I.stkSub b z)).elim hL hb) hc) (fun b o _ _ hc e n=>u.any e n hc) (fun b o hc e n=>u.free b o e n hc) (fun b o hc e=>u.there b o e hc) u.tups u.frzs u.tbls (fun m' hm=>by
  obtain ⟨o',es',ep',ho',r'⟩:=hm
  rw[ho] at ho';cases ho';exact ⟨_,es',ep',hL,r'⟩) hok hg
theorem Inv.turned {t':Nat}{it:Addr}(I:Inv X pins σ H s)(k: ∀ b o,b≠it->s.heap.get? b=some o->h'.get? b=some o)(hn:H it=none)(hL:it≠X.env.locals)
  (h1:it∈X.ex\/X.s₀.heap.objs.size<=it) (h2: ∀ x c,X.env.cells.lookup x=some c->c≠it) (h3: ∀ p∈X.pn ++ pins,p.1≠it):Inv X pins σ H { s with heap:=h',toks:=t' }:=by
 have nit: ∀ b u,H b=some u->b≠it:=fun b u e z=>by rw[z,hn] at e;cases e
 refine I.step (g':=s.gens) (d':=s.drawn) (ch:=[it]) (fun b hb=> ?_) (fun b o _ _ hc e _=>k b o (fun z=>hc (by simp[z])) e) (fun b o _ _ hc e _=>⟨o.slots,k b o (fun z=>hc (by simp[z])) e⟩) (fun _ _ _ _ n=>n)
  (fun b o hc e=>⟨o,k b o (fun z=>hc (by simp[z])) e⟩) (fun _ _ e=>e) (fun _ _ _ e=>e) (fun b ps e=>⟨#[],by rw[e];simp⟩) (fun m hm=> ?_) (fun b u e=> ?_) I.bare
 ·have e:b=it:=by simpa using hb
  subst e;exact ⟨h1,hL,h2,h3⟩
 ·obtain ⟨o,es,ep,ho,r⟩:=hm
  exact ⟨o,es,ep,k _ o (Ne.symm hL) ho,r⟩
 ·refine (I.hok b u e).stay (fun c v hc q=>k c v ?_ q) (fun _ q=>q) fun _ _ q=>q
  rcases hc with z | z
  ·rw[z];exact nit b u e
  ·exact nit c _ z
theorem Inv.tok (I:Inv X pins σ H s)(t:Nat):Inv X pins σ H { s with toks:=t }:=I.un (h':=s.heap) (t':=t) Un.refl I.hok
theorem Inv.kept {t':Nat}(I:Inv X pins σ H s)(k: ∀ b u,s.heap.get? b=some u->h'.get? b=some u):Inv X pins σ H { s with heap:=h',toks:=t' }:=I.un (Un.kept k) (I.hok.kept k)
theorem Inv.laid {a:Addr}{o:HO}{t':Nat}(I:Inv X pins σ H s)(k: ∀ b u,s.heap.get? b=some u->h'.get? b=some u)(hp:s.heap.objs.size<=a)(new:Zbr X.prog X.w (upd H a o) h' a o):
  Inv X pins σ (upd H a o) { s with heap:=h',toks:=t' }:=I.un (Un.laid k hp (I.hok.fresh hp)) (I.hok.laid k hp new)
theorem Inv.write {x e:Addr}{o:HO}{t':Nat}(I:Inv X pins σ H s)(mu:Mut (H x))(he:e=x\/H e=some (.own x))(k: ∀ b u,b≠e->s.heap.get? b=some u->h'.get? b=some u)(heo: ∃ u,h'.get? e=some u)
  (new:Zbr X.prog X.w (upd H x o) h' x o):Inv X pins σ (upd H x o) { s with heap:=h',toks:=t' }:=I.un (Un.write mu he k heo) (I.hok.write mu he k heo new)
theorem Inv.pins_of {pins':List (Addr × Obj)}(I:Inv X pins σ H s)(h: ∀ p∈pins',s.heap.get? p.1=some p.2/\H p.1=none/\p.1≠X.env.locals/\p.1 ∉ X.fs/\ ∀ v,p.2.data≠ .cell v):Inv X pins' σ H s:=
 ⟨I.ok,I.os,I.bare,I.base,I.loc,I.cell,I.free,I.freeC,fun p hp=>(List.mem_append.mp hp).elim (fun z=>I.pin p (List.mem_append_left _ z)) (h p),I.hok,I.len,I.qd,I.fx⟩
theorem Zft {N:List Str}(hN:N.Nodup){i j:Nat}{x:Str}(a:N[i]?=some x)(b:N[j]?=some x):i=j:=by
 obtain ⟨h1,e1⟩:=List.getElem?_eq_some_iff.mp a
 obtain ⟨h2,e2⟩:=List.getElem?_eq_some_iff.mp b
 exact (List.getElem_inj hN).mp (e1.trans e2.symm)
theorem Zd5 {M:Model}{A:Around}{E:Value->Shared->Prop}{i:Nat}{x:Str}{v:V}{u:Value}{Q:Unit->Shared->Prop}(I:Inv X pins σ H s)(hN:X.N.Nodup)(hi:X.N[i]?=some x)(hx:Loc X.env.scope x)(hm:X.may i=true)(r:Zaa v u)
  (h: ∀ s',Inv X pins (σ.set i (some v)) H s'->(∃ a,Heap.SameBut a s.heap s'.heap/\(a=X.env.locals\/X.env.cells.lookup x=some a))->Q () s') (hf:X.fn x=true\/X.env.scope.names.lookup x=some .local:=by first | exact .inl rfl | exact .inr rfl | assumption):wpAny M A (storeName X.env x u) Q E s:=by
 obtain ⟨m,hn,hl⟩:=id I.loc
 have hcls:(X.env.scope.kind == .class || (X.env.scope.kind == .module && X.env.locals != X.env.globals))=false:=by rw[I.ok.kind];rfl
 have hiσ:i < σ.length:=by rw[I.len];exact (List.getElem?_eq_some_iff.mp hi).1
 have cne:=I.cne
 have tracked: ∀ {a:Addr} {h':Heap},(∃ o,s.heap.get? a=some o/\H a=none)->Heap.SameBut a s.heap h'->HOk X.prog X.w H h':=fun {a h'} ha hs b ob e=>by
  obtain ⟨_,_,hfree⟩:=ha
  refine (I.hok b ob e).stay (fun c w' hc q=>(hs.2 c ?_).trans q) (fun _ q=>q) fun _ _ q=>q
  rintro rfl
  rcases hc with rfl | hc
  ·rw[hfree] at e;cases e
  ·rw[hfree] at hc;cases hc
 rcases hx with hk | hk
 ·refine wpAny_storeName_local hk hn (fun h' hn' hs=> ?_) hcls
  obtain ⟨oL,_,_,hoL,_⟩:=id hn
  refine h _ ⟨I.ok,I.os,I.bare,⟨fun b o e n hb hx=> ?_,fun b o e n hb hx=> ?_,I.base.free,fun b o e hx=> ?_,I.base.tups,I.base.frzs,I.base.tbls⟩,⟨_,hn',fun j y v' e1 e2 e3=> ?_⟩,fun y c e=> ?_,I.free,I.freeC,fun p hp=> ?_,tracked ⟨oL,hoL,I.free⟩ hs,by simpa using I.len,I.qd,I.fx.set hm⟩ ⟨_,hs,.inl rfl⟩
  ·exact (hs.2 b (Nat.ne_of_lt (Nat.lt_of_lt_of_le (Heap.lt_size e) I.ok.above))).trans (I.base.keep b o e n hb hx)
  ·obtain ⟨sl,e1⟩:=I.base.slot b o e n hb hx
   exact ⟨sl,(hs.2 b (Nat.ne_of_lt (Nat.lt_of_lt_of_le (Heap.lt_size e) I.ok.above))).trans e1⟩
  ·obtain ⟨o',e1⟩:=I.base.there b o e hx
   exact ⟨o',(hs.2 b (Nat.ne_of_lt (Nat.lt_of_lt_of_le (Heap.lt_size e) I.ok.above))).trans e1⟩
  ·by_cases hj:j=i
   ·subst hj
    rw[hi] at e1;cases e1;rw[List.getElem?_set_self hiσ] at e2
    cases e2
    exact ⟨u,r,.inl ⟨hk,by simp⟩⟩
   ·rw[List.getElem?_set_ne (Ne.symm hj)] at e2
    obtain ⟨u',r',q⟩:=hl j y v' e1 e2 e3
    refine ⟨u',r',?_⟩
    rcases q with ⟨k,e⟩ | ⟨k,c,e,z⟩
    ·refine .inl ⟨k,?_⟩
     have:y≠x:=fun e=>hj (Zft hN e1 (e ▸ hi))
     simp[this,e]
    ·exact .inr ⟨k,c,e,z.sameBut hs (cne y c e)⟩
  ·obtain ⟨w',z⟩:=I.cell y c e
   exact ⟨w',z.sameBut hs (cne y c e)⟩
  ·obtain ⟨e,n,ne,nf,d⟩:=I.pin p hp
   exact ⟨(hs.2 p.1 ne).trans e,n,ne,nf,d⟩
 ·have hfn:X.fn x=true:=by
   rcases hf with z | z
   ·exact z
   ·rw[z] at hk;cases hk
  obtain ⟨c,hc⟩:=I.ok.has x (.inl hk)
  obtain ⟨w',z⟩:=I.cell x c hc
  refine wpAny_storeName_cell I.ok.kind hk hc z (fun h' hc' hs=> ?_)
  obtain ⟨oc,hoc,hocd⟩:=id z
  refine h { s with heap:=h' } ⟨I.ok,I.os,I.bare,⟨fun b o e n hb hx=> ?_,fun b o e n hb hx=> ?_,I.base.free,fun b o e hx=> ?_,I.base.tups,I.base.frzs,I.base.tbls⟩,⟨m,hn.sameBut hs (Ne.symm (cne x c hc)),fun j y v' e1 e2 e3=> ?_⟩,fun y c' e=> ?_,I.free,I.freeC,fun p hp=> ?_,tracked ⟨oc,hoc,I.freeC x c hc⟩ hs,by simpa using I.len,I.qd,I.fx.set hm⟩ ⟨c,hs,.inr hc⟩
  ·exact (hs.2 b (Nat.ne_of_lt (Nat.lt_of_lt_of_le (Heap.lt_size e) (I.ok.cab x c hfn hc)))).trans (I.base.keep b o e n hb hx)
  ·obtain ⟨sl,e1⟩:=I.base.slot b o e n hb hx
   exact ⟨sl,(hs.2 b (Nat.ne_of_lt (Nat.lt_of_lt_of_le (Heap.lt_size e) (I.ok.cab x c hfn hc)))).trans e1⟩
  ·obtain ⟨o',e1⟩:=I.base.there b o e hx
   exact ⟨o',(hs.2 b (Nat.ne_of_lt (Nat.lt_of_lt_of_le (Heap.lt_size e) (I.ok.cab x c hfn hc)))).trans e1⟩
  ·by_cases hj:j=i
   ·subst hj
    rw[hi] at e1;cases e1;rw[List.getElem?_set_self hiσ] at e2
    cases e2
    exact ⟨u,r,.inr ⟨.inl hk,c,hc,hc'⟩⟩
   ·rw[List.getElem?_set_ne (Ne.symm hj)] at e2
    obtain ⟨u',r',q⟩:=hl j y v' e1 e2 e3
    refine ⟨u',r',?_⟩
    rcases q with q | ⟨k,c',e,z'⟩
    ·exact .inl q
    ·refine .inr ⟨k,c',e,z'.sameBut hs ?_⟩
     rintro rfl
     exact hj (Zft hN e1 (I.ok.inj _ _ _ e hc ▸ hi))
  ·by_cases hcc:c'=c
   ·subst hcc;exact ⟨_,hc'⟩
   ·obtain ⟨w2,z2⟩:=I.cell y c' e
    exact ⟨w2,z2.sameBut hs hcc⟩
  ·obtain ⟨e,n,ne,nf,d⟩:=I.pin p hp
   refine ⟨(hs.2 p.1 ?_).trans e,n,ne,nf,d⟩
   intro q;rw[q,hoc] at e;have q':oc=p.2:=Option.some.inj e
   exact d w' (by rw[<- q'];exact hocd)
theorem ZcH {M:Model}{A:Around}{E:Value->Shared->Prop}{i:Nat}{x:Str}{v:V}{u:Value}{Q:Unit->Shared->Prop}(I:Inv X pins σ H s)(hN:X.N.Nodup)(hi:X.N[i]?=some x)(hx:Loc X.env.scope x)(hm:X.may i=true)(r:Zaa v u)
  (h: ∀ s',Inv X pins (σ.set i (some v)) H s'->Q () s') (hf:X.fn x=true\/X.env.scope.names.lookup x=some .local:=by first | exact .inl rfl | exact .inr rfl | assumption):wpAny M A (storeName X.env x u) Q E s:=
 Zd5 I hN hi hx hm r (fun s' I' _=>h s' I') hf
theorem Inv.call' {s':Shared}{ch:List Addr}(I:Inv X pins σ H s)(ho:s'.os=s.os)(u:Un (frs X.stack) ch H H' s.heap s'.heap)(hok:HOk X.prog X.w H' s'.heap)(hg:AllBare s'.gens)
  (hch: ∀ b∈ch,(b∈X.ex\/X.s₀.heap.objs.size<=b)/\b≠X.env.locals/\(∀ x c,X.env.cells.lookup x=some c->c≠b)/\ ∀ p∈X.pn ++ pins,p.1≠b):Inv X pins σ H' s':=by
 obtain ⟨h',g',d',t',o'⟩:=s'
 have e:o'=s.os:=ho
 subst e;exact I.call (g':=g') (t':=t') (d':=d') u hok hg hch
end
noncomputable abbrev XK:=Value->Option Addr->Hp->Prop
noncomputable abbrev St:=List (Option V)
noncomputable abbrev VK:=V->Hp->Prop
noncomputable abbrev TE:=St->Hp->VK->Prop
noncomputable abbrev TT:=St->Hp->(Bool->Hp->Prop)->Prop
noncomputable abbrev TA:=St->Hp->(List V->Hp->Prop)->Prop
structure Ends where
 nx:St->Hp->Prop
 rt:VK
 bk:St->Hp->Prop:=fun _ _=>False
 ct:St->Hp->Prop:=fun _ _=>False
noncomputable abbrev TS:=Ends->St->Hp->Prop
noncomputable def EP (X:Cx)(pins:List (Addr × Obj))(σ:St)(Q:VK)(u:Value)(s':Shared):Prop:= ∃ v H',Inv X pins σ H' s'/\Zaa v u/\Q v H'
noncomputable def TP (X:Cx)(pins:List (Addr × Obj))(σ:St)(Q:Bool->Hp->Prop)(b:Bool)(s':Shared):Prop:= ∃ H',Inv X pins σ H' s'/\Q b H'
noncomputable def AP (X:Cx)(pins:List (Addr × Obj))(σ:St)(Q:List V->Hp->Prop)(us:List Value)(s':Shared):Prop:= ∃ vs H',Inv X pins σ H' s'/\ZX vs us/\Q vs H'
noncomputable def SP (X:Cx)(pins:List (Addr × Obj))(D:Ends)(f:Flow)(s':Shared):Prop:=
 match f with
 | .next=> ∃ σ' H',Inv X pins σ' H' s'/\D.nx σ' H'
 | .brk=> ∃ σ' H',Inv X pins σ' H' s'/\D.bk σ' H'
 | .cont=> ∃ σ' H',Inv X pins σ' H' s'/\D.ct σ' H'
 | .ret u=> ∃ v σ' H',Inv X pins σ' H' s'/\Zaa v u/\D.rt v H'
noncomputable def PE (X:Cx)(e:Expr)(t:TE):Prop:=
 ∀ (pins:List (Addr × Obj)) (s:Shared) (σ:St) (H:Hp) (Q:VK),Inv X pins σ H s->t σ H Q->wpAny (model X.prog X.w) X.A (eval e X.env) (EP X pins σ Q) X.xe s
noncomputable def PT (X:Cx)(e:Expr)(t:TT):Prop:=
 ∀ (pins:List (Addr × Obj)) (s:Shared) (σ:St) (H:Hp) (Q:Bool->Hp->Prop),Inv X pins σ H s->t σ H Q->wpAny (model X.prog X.w) X.A (isTrue e X.env (eval e X.env)) (TP X pins σ Q) X.xe s
noncomputable def PW (X:Cx)(e:Expr)(t:TT):Prop:=
 ∀ (whole:Sem Value) (pins:List (Addr × Obj)) (s:Shared) (σ:St) (H:Hp) (Q:Bool->Hp->Prop),Inv X pins σ H s->t σ H Q->wpAny (model X.prog X.w) X.A (isTrue e X.env whole) (TP X pins σ Q) X.xe s
theorem PW.pt {X:Cx}{e:Expr}{t:TT}(h:PW X e t):PT X e t:=h _
noncomputable def PA (X:Cx)(es:List Expr)(t:TA):Prop:=
 ∀ (pos:Pos) (pins:List (Addr × Obj)) (s:Shared) (σ:St) (H:Hp) (Q:List V->Hp->Prop),Inv X pins σ H s->t σ H Q->wpAny (model X.prog X.w) X.A (spliced (backTo pos (starEach es X.env))) (AP X pins σ Q) X.xe s
noncomputable def PS (X:Cx)(st:Stmt)(t:TS):Prop:=
 ∀ (pins:List (Addr × Obj)) (s:Shared) (σ:St) (H:Hp) (D:Ends),Inv X pins σ H s->t D σ H->wpAny (model X.prog X.w) X.A (exec st X.env) (SP X pins D) X.xe s
noncomputable def PSs (X:Cx)(st:List Stmt)(t:TS):Prop:=
 ∀ (pins:List (Addr × Obj)) (s:Shared) (σ:St) (H:Hp) (D:Ends),Inv X pins σ H s->t D σ H->wpAny (model X.prog X.w) X.A (execs st X.env) (SP X pins D) X.xe s
theorem thn {α:Type}{t:Sem α}{Q Q':α->Shared->Prop}{M:Model}{A:Around}{E:Value->Shared->Prop}{s:Shared}(h:wpAny M A t Q E s)(hQ: ∀ a s,Q a s->Q' a s):wpAny M A t Q' E s:=wpAny_mono h hQ fun _ _ x=>x
end L2
namespace L2
open PySem PySem.Spec PyProof.Rows
section
variable {X:Cx}
theorem bin {a b:Expr}{ta tb:TE}(ha:PE X a ta)(hb:PE X b tb){pins:List (Addr × Obj)}{s:Shared}{σ:St}{H:Hp}{R:V->V->Hp->Prop}(I:Inv X pins σ H s)(h:ta σ H fun x H1=>tb σ H1 fun y H2=>R x y H2)
  {α:Type} {Q:α->Shared->Prop} {f:Value->Value->Sem α}
  (hf: ∀ v u s2 x y H2,Inv X pins σ H2 s2->Zaa x v->Zaa y u->R x y H2->wpAny (model X.prog X.w) X.A (f v u) Q X.xe s2):
  wpAny (model X.prog X.w) X.A (eval a X.env) (fun v s₁=>wpAny (model X.prog X.w) X.A (eval b X.env) (fun u s₂=>wpAny (model X.prog X.w) X.A (f v u) Q X.xe s₂) X.xe s₁) X.xe s:=by
 refine thn (ha pins s σ H _ I h) fun v s1 ⟨x,H1,I1,r1,q1⟩=> ?_
 refine thn (hb pins s1 σ H1 _ I1 q1) fun u s2 ⟨y,H2,I2,r2,q2⟩=> ?_
 exact hf v u s2 x y H2 I2 r1 r2 q2
noncomputable def ZsX (i:Nat):TE:=fun σ H Q=> ∃ v,σ[i]?=some (some v)/\Q v H
noncomputable def tC (v:V):TE:=fun _ H Q=>Q v H
theorem Zcm {i:Nat}{x:Str}{pos:Pos}(hN:X.N[i]?=some x)(hv:Vis X.env.scope x)(hd:(x == ("__debug__":Str))=false:=by decide)(hcd:(x == ("__classdict__":Str))=false:=by decide):PE X (.Name x pos) (ZsX i):=by
 intro pins s σ H Q I h;obtain ⟨v,e,h⟩:=h
 obtain ⟨m,hn,hl⟩:=I.loc
 obtain ⟨u,r,l⟩:=hl i x v hN e hv
 have fin:EP X pins σ Q u s:=⟨v,H,I,r,h⟩
 rcases l with ⟨hk,hm⟩ | ⟨hk,c,hc,hcell⟩
 ·exact wpAny_Name (wpAny_loadName_local I.ok.kind hk hn hm fin) hd
 ·rcases hk with hk | hk
  ·exact wpAny_Name (wpAny_loadName_cell I.ok.kind hk hc hcell fin) hd
  ·exact wpAny_Name (wpAny_loadName_free I.ok.kind hk hc hcell fin hcd) hd
theorem ZmC {i j pos}:PE X (.Constant (.int i) j pos) (tC (.int i)):=fun _ _ _ H _ I h=>wpAny_Constant_int ⟨.int i,H,I.tok _,⟨_,rfl⟩,h⟩
theorem ZpM {b j pos}:PE X (.Constant (.bool b) j pos) (tC (.bl b)):=fun _ _ _ H _ I h=>Constant_bool ⟨.bl b,H,I,rfl,h⟩
theorem ZmD {j pos}:PE X (.Constant .none j pos) (tC .non):=fun _ _ _ H _ I h=>Constant_none ⟨.non,H,I,rfl,h⟩
theorem ZgV {x j pos}:PE X (.Constant (.str x) j pos) (tC (.str x)):=fun _ _ _ H _ I h=>Calls.Constant_str ⟨.str x,H,I.tok _,⟨_,rfl⟩,h⟩
noncomputable def Gl (X:Cx)(x:Str):Prop:=X.env.kindOf x=some .globalImplicit
theorem Zdw {E:Value->Shared->Prop}{pins:List (Addr × Obj)}{s:Shared}{σ:St}{H:Hp}{x:Str}{u:Value}{pos:Pos}{Q:Value->Shared->Prop}(I:Inv X pins σ H s)(hg:Gl X x)(hm:X.mg x=some u)(h:Q u s)
  (hd:(x == ("__debug__":Str))=false:=by decide):wpAny (model X.prog X.w) X.A (eval (.Name x pos) X.env) Q E s:=
 Calls.Name_function_global I.ok.kind hg (Calls.loadGlobal_global (by rw[I.ok.glob];exact I.mod.glob.keeps I.bk) hm h) hd
theorem Zcn {E:Value->Shared->Prop}{pins:List (Addr × Obj)}{s:Shared}{σ:St}{H:Hp}{x:Str}{u:Value}{pos:Pos}{Q:Value->Shared->Prop}(I:Inv X pins σ H s)(hg:Gl X x)(hm:X.mg x=none)(hv:bootBuiltins x=some u)(h:Q u s)
  (hn:x≠"__name__":=by decide) (hd:(x == ("__debug__":Str))=false:=by decide):wpAny (model X.prog X.w) X.A (eval (.Name x pos) X.env) Q E s:=by
 obtain ⟨mb,h1,h2⟩:=I.mod.blt
 exact Calls.Name_function_global I.ok.kind hg (Calls.loadGlobal_builtin (by rw[I.ok.glob];exact I.mod.glob.keeps I.bk) hm (by rw[I.ok.blt];exact h1.keeps I.bk) ((h2 x hn).trans hv) h) hd
theorem ZkS {x:Str}{v:V}{u:Value}{pos:Pos}(hg:Gl X x)(hm:X.mg x=none)(hv:bootBuiltins x=some u)(r:Zaa v u)(hn:x≠"__name__":=by decide)(hd:(x == ("__debug__":Str))=false:=by decide):PE X (.Name x pos) (tC v):=
 fun _ _ _ H _ I h=>Zcn I hg hm hv ⟨v,H,I,r,h⟩ hn hd
variable {a b:Expr}{ta tb:TE}{pos:Pos}
noncomputable def PC (X:Cx)(op:CmpOp)(a b:Expr)(t:TE):Prop:=
 ∀ (pins:List (Addr × Obj)) (s:Shared) (σ:St) (H:Hp) (Q:VK),Inv X pins σ H s->t σ H Q->
  wpAny (model X.prog X.w) X.A (eval a X.env) (fun v s₁=>wpAny (model X.prog X.w) X.A (eval b X.env) (fun u s₂=>wpAny (model X.prog X.w) X.A (compareOp op v u) (EP X pins σ Q) X.xe s₂) X.xe s₁) X.xe s
theorem ZiY (b:Expr){op:CmpOp}(h:op≠ .In)(h2:op≠ .NotIn):behindInMarks op b=false:=by
 have e1:(op == CmpOp.In)=false:=by cases op<;>first | rfl | exact absurd rfl h
 have e2:(op == CmpOp.NotIn)=false:=by cases op<;>first | rfl | exact absurd rfl h2
 cases b<;>simp[behindInMarks,e1,e2]
noncomputable def tB (t:TE):TT:=fun σ H Q=>t σ H fun x H1=> ∃ c,x= .bl c/\Q c H1
theorem ZrO {op:CmpOp}{t:TE}(h:PC X op a b t)(h1:behindInMarks op b=false:=by first | exact ZiY _ (by decide) (by decide) | rfl):PT X (.Compare a [op] [b] pos) (tB t):=by
 intro pins s σ H Q I hw;refine wpAny_isTrue_Compare1 (thn (h pins s σ H _ I hw) fun v s1 h1=>thn h1 fun u s2 h2=>thn h2 fun c s3 ⟨x,H1,I1,r1,q1⟩=> ?_) h1
 obtain ⟨d,rfl,q⟩:=q1
 cases r1
 exact wpAny_truthy_bool ⟨H1,I1,q⟩
theorem ZmE {e:Expr}{t:TE}(h:PE X e t)(he: ∀ whole,isTrue e X.env whole=(do let v <- whole;standAt e.pos;holding [v] (truthy v)):=by intro _;rfl):PT X e (tB t):=by
 intro pins s σ H Q I hw;refine isTrue_plain (thn (h pins s σ H _ I hw) fun v s1 ⟨x,H1,I1,r1,q1⟩=> ?_) (he _)
 obtain ⟨d,rfl,q⟩:=q1
 cases r1
 exact wpAny_truthy_bool ⟨H1,I1,q⟩
variable {tA tB':TT}{Za7:List Expr}
noncomputable def ZsY (t u:TT):TT:=fun σ H Q=>t σ H fun c H1=>if c=true then u σ H1 Q else Q false H1
noncomputable def tOr (t u:TT):TT:=fun σ H Q=>t σ H fun c H1=>if c=true then Q true H1 else u σ H1 Q
noncomputable def ZsZ (t:TT):TT:=fun σ H Q=>t σ H fun c H1=>Q (!c) H1
theorem pw_and1 (ha:PT X a tA):PW X (.BoolOp .And [a] pos) tA:=by
 intro wh pins s σ H Q I h;refine isTrue_and (thn (ha pins s σ H Q I h) fun c s1 e=> ?_)
 cases c with
 |true=>exact isTrue_and_nil e
 |false=>exact e
theorem pw_or1 (ha:PT X a tA):PW X (.BoolOp .Or [a] pos) tA:=by
 intro wh pins s σ H Q I h;refine isTrue_or (thn (ha pins s σ H Q I h) fun c s1 e=> ?_)
 cases c with
 |false=>exact isTrue_or_nil e
 |true=>exact e
theorem pw_and (ha:PT X a tA)(hb:PW X (.BoolOp .And (b :: Za7) pos) tB'):PW X (.BoolOp .And (a :: b :: Za7) pos) (ZsY tA tB'):=by
 intro wh pins s σ H Q I h;refine isTrue_and (thn (ha pins s σ H _ I h) fun c s1 ⟨H1,I1,q1⟩=> ?_)
 cases c with
 |true=>exact hb wh pins s1 σ H1 Q I1 q1
 |false=>exact ⟨H1,I1,q1⟩
theorem pw_or (ha:PT X a tA)(hb:PW X (.BoolOp .Or (b :: Za7) pos) tB'):PW X (.BoolOp .Or (a :: b :: Za7) pos) (tOr tA tB'):=by
 intro wh pins s σ H Q I h;refine isTrue_or (thn (ha pins s σ H _ I h) fun c s1 ⟨H1,I1,q1⟩=> ?_)
 cases c with
 |true=>exact ⟨H1,I1,q1⟩
 |false=>exact hb wh pins s1 σ H1 Q I1 q1
theorem ZmF (ha:PT X a tA):PT X (.UnaryOp .Not a pos) (ZsZ tA):=by
 intro pins s σ H Q I h;exact isTrue_not (ha pins s σ H (fun c H1=>Q (!c) H1) I h)
noncomputable def ZpN (ta tb:TE):TE:=fun σ H Q=>ta σ H fun x H1=> ∃ c,x= .bl c/\if c=true then tb σ H1 Q else Q (.bl false) H1
noncomputable def Zs0 (ta tb:TE):TE:=fun σ H Q=>ta σ H fun x H1=> ∃ c,x= .bl c/\if c=true then Q (.bl true) H1 else tb σ H1 Q
noncomputable def ZpO (ta:TE):TE:=fun σ H Q=>ta σ H fun x H1=> ∃ c,x= .bl c/\Q (.bl (!c)) H1
theorem ZmG {op}{t:TE}(h:PE X a t):PE X (.BoolOp op [a] pos) t:=fun pins s σ H Q I hw=>BoolOp_one (h pins s σ H Q I hw)
theorem ZmH (ha:PE X a ta)(hb:PE X (.BoolOp .And (b :: Za7) pos) tb):PE X (.BoolOp .And (a :: b :: Za7) pos) (ZpN ta tb):=by
 intro pins s σ H Q I h;refine BoolOp_and (thn (ha pins s σ H _ I h) fun v s1 ⟨x,H1,I1,r1,q1⟩=> ?_)
 obtain ⟨c,rfl,q1⟩:=q1
 cases r1
 refine wpAny_truthy_bool ?_
 cases c with
 |true=>exact hb pins s1 σ H1 Q I1 q1
 |false=>exact ⟨.bl false,H1,I1,rfl,q1⟩
theorem ZpP (ha:PE X a ta)(hb:PE X (.BoolOp .Or (b :: Za7) pos) tb):PE X (.BoolOp .Or (a :: b :: Za7) pos) (Zs0 ta tb):=by
 intro pins s σ H Q I h;refine BoolOp_or (thn (ha pins s σ H _ I h) fun v s1 ⟨x,H1,I1,r1,q1⟩=> ?_)
 obtain ⟨c,rfl,q1⟩:=q1
 cases r1
 refine wpAny_truthy_bool ?_
 cases c with
 |false=>exact hb pins s1 σ H1 Q I1 q1
 |true=>exact ⟨.bl true,H1,I1,rfl,q1⟩
theorem ZmI (ha:PE X a ta):PE X (.UnaryOp .Not a pos) (ZpO ta):=by
 intro pins s σ H Q I h;refine UnaryOp_ (thn (ha pins s σ H _ I h) fun v s1 ⟨x,H1,I1,r1,q1⟩=> ?_)
 obtain ⟨c,rfl,q1⟩:=q1
 cases r1
 exact not_of (wpAny_truthy_bool ⟨.bl (!c),H1,I1,rfl,q1⟩)
end
end L2
namespace L2
open PySem PySem.Spec PyProof.Rows
noncomputable def SqL (K:PySem.W.Frag)(H:Hp)(a:Addr)(xs:List V):Prop:=
 Rd H a (.lst xs)\/
  ∃ (o:Obj) (its:Array Value) (n:Nat),K.lookup a=some o/\o.cls= .type "list"/\o.dict=none/\o.data= .seq its n/\its.size<=sizeLine/\ZX xs its.toList
noncomputable def SqT (K:PySem.W.Frag)(H:Hp)(a:Addr)(xs:List V):Prop:=
 Rd H a (.tup xs)\/
  ∃ (o:Obj) (its:Array Value) (n:Nat),K.lookup a=some o/\o.cls= .type "tuple"/\o.data= .seq its n/\its.size<=sizeLine/\ZX xs its.toList
noncomputable def Zs1:Value->Option V
 | .none=>some .non
 | .bool b=>some (.bl b)
 | .int i _=>some (.int i)
 | .str x _=>some (.str x)
 | .bytes b _=>some (.byt b)
 | .float b _=>some (.flt b)
 | .ref a=>some (.ref a)
 | .type n=>some (.ty n)
 |_=>none
theorem Zaa.abs {x:V}{u:Value}(r:Zaa x u):Zs1 u=some x:=by
 cases x with
 |non=>cases r;rfl
 |bl _=>cases r;rfl
 |int _=>obtain ⟨t,rfl⟩:=r;rfl
 |str _=>obtain ⟨t,rfl⟩:=r;rfl
 |byt _=>obtain ⟨t,rfl⟩:=r;rfl
 |flt _=>obtain ⟨t,rfl⟩:=r;rfl
 |ref _=>cases r;rfl
 |ty _=>cases r;rfl
theorem Zaa.inj {x y:V}{u:Value}(r:Zaa x u)(q:Zaa y u):x=y:=Option.some.inj (r.abs.symm.trans q.abs)
theorem ZX.inj: ∀ {xs ys:List V} {us:List Value},ZX xs us->ZX ys us->xs=ys
 |_,_,_,.nil,.nil=>rfl
 |_,_,_,.cons r t,.cons r' t'=>by rw[r.inj r',ZX.inj t t']
section
variable {X:Cx}{pins:List (Addr × Obj)}{σ:St}{H:Hp}{s:Shared}{a:Addr}{xs ys:List V}
theorem SqL.of {K:PySem.W.Frag}(h:H a=some (.lst xs)):SqL K H a xs:= .inl (.inl h)
theorem SqT.of {K:PySem.W.Frag}(h:H a=some (.tup xs)):SqT K H a xs:= .inl (.inl h)
theorem Inv.list (I:Inv X pins σ H s)(h:SqL X.K H a xs): ∃ its:List Value,ZX xs its/\PlainL s.heap a its.toArray/\xs.length<=sizeLine:=by
 rcases h with h | ⟨o,its,n,hk,hc,hd,hs,hz,r⟩
 ·obtain ⟨z,its,n,r,e⟩:=h.ok I.hok
  exact ⟨its,r,⟨_,n,e,rfl,rfl,rfl⟩,z⟩
 ·refine ⟨its.toList,r,⟨o,n,I.kIn a o hk,hc,hd,by simpa using hs⟩,?_⟩
  have e:=r.length
  simp only[Array.length_toList] at e;omega
theorem Inv.tuple (I:Inv X pins σ H s)(h:SqT X.K H a xs): ∃ its:List Value,ZX xs its/\IsTup s.heap a its.toArray/\xs.length<=sizeLine:=by
 rcases h with h | ⟨o,its,n,hk,hc,hs,hz,r⟩
 ·obtain ⟨z,its,r,p⟩:=h.ok I.hok
  exact ⟨its,r,p,z⟩
 ·refine ⟨its.toList,r,⟨o,I.kIn a o hk,hc,n,by simpa using hs⟩,?_⟩
  have e:=r.length
  simp only[Array.length_toList] at e;omega
theorem Inv.list_inj (I:Inv X pins σ H s)(h:SqL X.K H a xs)(h':SqL X.K H a ys):xs=ys:=by
 obtain ⟨its,r,⟨o,n,e,_,_,d⟩,_⟩:=I.list h
 obtain ⟨its',r',⟨o',n',e',_,_,d'⟩,_⟩:=I.list h'
 rw[e] at e';cases e';rw[d] at d'
 injection d' with d1 _
 have:its=its':=by simpa using congrArg Array.toList d1
 subst this;exact r.inj r'
theorem Inv.tuple_inj (I:Inv X pins σ H s)(h:SqT X.K H a xs)(h':SqT X.K H a ys):xs=ys:=by
 obtain ⟨its,r,⟨o,e,_,n,d⟩,_⟩:=I.tuple h
 obtain ⟨its',r',⟨o',e',_,n',d'⟩,_⟩:=I.tuple h'
 rw[e] at e';cases e';rw[d] at d'
 injection d' with d1 _
 have:its=its':=by simpa using congrArg Array.toList d1
 subst this;exact r.inj r'
end
section
variable {X:Cx}{pins:List (Addr × Obj)}{σ:St}{H:Hp}{s:Shared}{E:Value->Shared->Prop}
end
section
variable {X:Cx}{st:Stmt}{Za7:List Stmt}{t u:TS}{e:Expr}{te:TE}{pos:Pos}
noncomputable def tNext:TS:=fun D σ H=>D.nx σ H
noncomputable def ZpQ (t u:TS):TS:=fun D σ H=>t { D with nx:=u D } σ H
theorem ZkT:PSs X [] tNext:=fun _ _ σ H _ I h=>wpAny_execs_nil ⟨σ,H,I,h⟩
theorem Zdx (h1:PS X st t)(h2:PSs X Za7 u):PSs X (st :: Za7) (ZpQ t u):=by
 intro pins s σ H D I h;refine wpAny_execs_cons (thn (h1 pins s σ H { D with nx:=u D } I h) fun f s1 q=> ?_)
 cases f with
 |next=>
  obtain ⟨σ',H',I',q⟩:=q
  exact h2 pins s1 σ' H' D I' q
 |ret v=>exact q
 |brk=>exact q
 |cont=>exact q
theorem ZgW (h1:PS X st t):PSs X [st] t:=by
 intro pins s σ H D I h;refine wpAny_execs_cons (thn (h1 pins s σ H D I h) fun f s1 q=> ?_)
 cases f with
 |next=>exact wpAny_execs_nil q
 |ret v=>exact q
 |brk=>exact q
 |cont=>exact q
theorem Inv.quiet {pins:List (Addr × Obj)}{σ:St}{H:Hp}{s:Shared}(I:Inv X pins σ H s):interactive X.env=false:=by simp[interactive,I.ok.kind]
noncomputable def ZmJ (te:TE):TS:=fun D σ H=>te σ H fun _ H1=>D.nx σ H1
theorem ZgX (he:PE X e te)(hs:swapsWith e none pos.line X.env=pure false:=by rfl):PS X (.Expr e pos) (ZmJ te):=by
 intro pins s σ H D I h;exact wpAny_Expr_any (thn (he pins s σ H _ I h) fun v s1 ⟨x,H1,I1,r1,q1⟩=>⟨σ,H1,I1,q1⟩) I.quiet hs
noncomputable def Zs2 (te:TE):TS:=fun D σ H=>te σ H D.rt
theorem ZmK (he:PE X e te):PS X (.Return (some e) pos) (Zs2 te):=by
 intro pins s σ H D I h;exact wpAny_Return_some (thn (he pins s σ H _ I h) fun v s1 ⟨x,H1,I1,r1,q1⟩=>⟨x,σ,H1,I1,r1,q1⟩)
noncomputable def Zs3 (c:TT)(t u:TS):TS:=fun D σ H=>c σ H fun b H1=>if b=true then t D σ H1 else u D σ H1
theorem ZpR {c:Expr}{a b:List Stmt}{tc:TT}(hc:PT X c tc)(ha:PSs X a t)(hb:PSs X b u):PS X (.If c a b pos) (Zs3 tc t u):=by
 intro pins s σ H D I h;refine wpAny_If (thn (hc pins s σ H _ I h) fun d s1 ⟨H1,I1,q1⟩=> ?_)
 cases d with
 |true=>exact ha pins s1 σ H1 D I1 q1
 |false=>exact hb pins s1 σ H1 D I1 q1
noncomputable def tNever:TS:=fun _ _ _=>False
theorem ZiZ:PS X st tNever:=fun _ _ _ _ _ _ h=>h.elim
end
noncomputable abbrev TG:=V->St->Hp->(St->Hp->Prop)->Prop
noncomputable abbrev TGs:=List V->St->Hp->(St->Hp->Prop)->Prop
noncomputable def PG (X:Cx)(target:Expr)(t:TG):Prop:=
 ∀ (pins:List (Addr × Obj)) (s:Shared) (σ:St) (H:Hp) (v:V) (u:Value) (Q:St->Hp->Prop),Inv X pins σ H s->Zaa v u->t v σ H Q->
  wpAny (model X.prog X.w) X.A (assign target X.env u) (fun _ s'=> ∃ σ' H',Inv X pins σ' H' s'/\Q σ' H') X.xe s
noncomputable def PGs (X:Cx)(ts:List Expr)(t:TGs):Prop:=
 ∀ (pins:List (Addr × Obj)) (s:Shared) (σ:St) (H:Hp) (vs:List V) (us:List Value) (Q:St->Hp->Prop),Inv X pins σ H s->ZX vs us->t vs σ H Q->
  wpAny (model X.prog X.w) X.A (assignInOrder ((assignEach ts X.env).map (·.2)) us) (fun _ s'=> ∃ σ' H',Inv X pins σ' H' s'/\Q σ' H') X.xe s
noncomputable abbrev ZpS:=V->V->V->Hp->(Hp->Prop)->Prop
noncomputable def ZrP (X:Cx)(t:ZpS):Prop:=
 ∀ (pins:List (Addr × Obj)) (s:Shared) (σ:St) (H:Hp) (o i v:V) (ov iv u:Value) (Q:Hp->Prop),Inv X pins σ H s->Zaa o ov->Zaa i iv->Zaa v u->t o i v H Q->
  wpAny (model X.prog X.w) X.A (setItem ov iv u) (fun _ s'=> ∃ H',Inv X pins σ H' s'/\Q H') X.xe s
section
variable {X:Cx}{pos:Pos}
noncomputable def ZmL (i:Nat):TG:=fun v σ H Q=>Q (σ.set i (some v)) H
theorem ZkU {i:Nat}{x:Str}(hN:X.N.Nodup)(hi:X.N[i]?=some x)(hx:Loc X.env.scope x)(hm:X.may i=true)(hf:X.fn x=true\/X.env.scope.names.lookup x=some .local:=by first | exact .inl rfl | exact .inr rfl | assumption):PG X (.Name x pos) (ZmL i):=by
 intro pins s σ H v u Q I r h;exact wpAny_assign_Name (ZcH I hN hi hx hm r (fun s' I'=>⟨_,H,I',h⟩) hf)
noncomputable def gNil:TGs:=fun vs σ H Q=>vs=[]/\Q σ H
noncomputable def ZmM (t:TG)(u:TGs):TGs:=fun vs σ H Q=> ∃ v r,vs=v :: r/\t v σ H fun σ' H'=>u r σ' H' Q
theorem ZgY:PGs X [] gNil:=by
 intro pins s σ H vs us Q I r h;obtain ⟨e,h⟩:=h
 subst e;cases r
 exact assignInOrder_nil ⟨σ,H,I,h⟩
theorem Zdy {e:Expr}{es:List Expr}{t:TG}{u:TGs}(h1:PG X e t)(h2:PGs X es u)
  (hs:(assignEach (e :: es) X.env).map (·.2)=assign e X.env :: (assignEach es X.env).map (·.2):=by rfl):PGs X (e :: es) (ZmM t u):=by
 intro pins s σ H vs us Q I r h;obtain ⟨v,vr,e1,h⟩:=h
 subst e1;cases r with
 |cons r rr=>
  rw[hs];refine assignInOrder_cons (thn (h1 pins s σ H _ _ _ I r h) fun _ s1 ⟨σ1,H1,I1,q1⟩=> ?_)
  exact h2 pins s1 σ1 H1 _ _ Q I1 rr q1
noncomputable def Zs4 (K:PySem.W.Frag)(n:Nat)(t:TGs):TG:=fun v σ H Q=> ∃ a xs,v= .ref a/\SqT K H a xs/\xs.length=n/\t xs σ H Q
theorem Zj1 {es:List Expr}{k:Nat}{t:TGs}{n:Nat}(hc:X.calm=true)(h:PGs X es t)
  (hn:(assignEach es X.env).length=n:=by rfl) (hst:(assignEach es X.env).findIdx? (·.1)=none:=by rfl):PG X (.Tuple es k pos) (Zs4 X.K n t):=by
 intro pins s σ H v u Q I r hw;obtain ⟨a,xs,e1,hq,hl,hw⟩:=hw
 subst e1;cases r
 obtain ⟨its,rv,ht,hz⟩:=I.tuple hq
 refine assign_Tuple_tuple (I.ok.hd hc) ht (by simp[hn,<- hl,rv.length]) hst fun h' hx=> ?_
 have I1:Inv X pins σ H { s with heap:=h' }:=I.kept (t':=s.toks) fun b o e=>hx b o (Nat.ne_of_lt (Heap.lt_size e)) e
 exact h pins _ σ H xs _ Q I1 (by simpa using rv) hw
noncomputable def ZpT (to ti:TE)(t:ZpS):TG:=fun v σ H Q=>to σ H fun o H1=>ti σ H1 fun i H2=>t o i v H2 fun H3=>Q σ H3
theorem Zj2 {o i:Expr}{to ti:TE}{t:ZpS}(ho:PE X o to)(hi:PE X i ti)(hs:ZrP X t)
  (ha: ∀ v,assign (.Subscript o i pos) X.env v=(do
   let ov <- holding [v] (eval o X.env)
   let iv <- holding [v,ov] (eval i X.env)
   standAt pos
   holding [v,ov,iv] (setItem ov iv v)
   release [v,ov,iv] []):=by intro _;rfl):PG X (.Subscript o i pos) (ZpT to ti t):=by
 intro pins s σ H v u Q I r h;rw[ha];refine wpAny_bind (wpAny_holding (thn (ho pins s σ H _ I h) fun ov s1 ⟨x,H1,I1,r1,q1⟩=> ?_))
 refine wpAny_bind (wpAny_holding (thn (hi pins s1 σ H1 _ I1 q1) fun iv s2 ⟨y,H2,I2,r2,q2⟩=> ?_))
 refine wpAny_bind (wpAny_standAt (wpAny_bind (wpAny_holding (thn (hs pins s2 σ H2 x y v ov iv u _ I2 r1 r2 r q2) fun _ s3 ⟨H3,I3,q3⟩=> ?_))))
 exact wpAny_release ⟨σ,H3,I3,q3⟩
noncomputable def ZrQ (te:TE)(g:TG):TS:=fun D σ H=>te σ H fun x H1=>g x σ H1 D.nx
theorem Zj3 {tg e:Expr}{te:TE}{g:TG}(he:PE X e te)(hg:PG X tg g)(hs:swapsWithSole [tg] e pos.line X.env=pure false:=by rfl)(hw:swappedStores [tg] e X.env=pure none:=by rfl)
  (h1:(assignEach [tg] X.env).map (·.2)=[assign tg X.env]:=by rfl):PS X (.Assign [tg] e pos) (ZrQ te g):=by
 intro pins s σ H D I h;refine wpAny_Assign_stores (thn (he pins s σ H _ I h) fun v s1 ⟨x,H1,I1,r1,q1⟩=> ?_) hs hw
 rw[h1];exact thn (hg pins s1 σ H1 x v _ I1 r1 q1) fun _ s2 q=>q
theorem ZmN {i:Nat}{x:Str}{e:Expr}{te:TE}{pos':Pos}(hN:X.N.Nodup)(hi:X.N[i]?=some x)(hx:Loc X.env.scope x)(hm:X.may i=true)(he:PE X e te)(hs:swapsWith e (some (.Name x pos')) pos.line X.env=pure false:=by rfl)(hf:X.fn x=true\/X.env.scope.names.lookup x=some .local:=by first | exact .inl rfl | exact .inr rfl | assumption):
  PS X (.Assign [.Name x pos'] e pos) (ZrQ te (ZmL i)):=by
 intro pins s σ H D I h;refine wpAny_Assign_Name (thn (he pins s σ H _ I h) fun v s1 ⟨y,H1,I1,r1,q1⟩=> ?_) hs
 exact ZcH I1 hN hi hx hm r1 (fun s2 I2=>⟨_,H1,I2,q1⟩) hf
noncomputable def Zs5 (i j:Nat)(ta:TA):TS:=fun D σ H=>ta σ H fun vs H1=> ∃ v w,vs=[v,w]/\D.nx ((σ.set i (some v)).set j (some w)) H1
theorem ZmO {i j:Nat}{x y:Str}{a b:Expr}{ta:TA}{px py pt:Pos}{kt k2 pt2}(hc:X.calm=true)(mi:X.may i=true)(mj:X.may j=true)(hN:X.N.Nodup)(hi:X.N[i]?=some x)(hj:X.N[j]?=some y)(hij:i≠j)
  (hx:X.env.scope.names.lookup x=some .local) (hy:X.env.scope.names.lookup y=some .local) (ha:PA X [a,b] ta)
  (hw:swappedStores [.Tuple [.Name x px,.Name y py] kt pt] (.Tuple [a,b] k2 pt2) X.env=pure (some [x,y]))
  (hs:swapsWithSole [.Tuple [.Name x px,.Name y py] kt pt] (.Tuple [a,b] k2 pt2) pos.line X.env=pure false:=by rfl):
  PS X (.Assign [.Tuple [.Name x px,.Name y py] kt pt] (.Tuple [a,b] k2 pt2) pos) (Zs5 i j ta):=by
 intro pins s σ H D I h;rw[exec_Assign_arm];refine wpAny_bind (wpAny_standAt ?_)
 rw[hs];refine wpAny_bind (wpAny_pure ?_)
 rw[if_neg (by decide)]
 refine wpAny_bind (Tuple_ (thn (ha _ pins s σ H _ I h) fun us s1 ⟨vs,H1,I1,r1,q1⟩=> ?_))
 obtain ⟨v,w,e1,q1⟩:=q1
 subst e1;obtain ⟨u1,u2,rfl,rv,rw'⟩: ∃ u1 u2,us=[u1,u2]/\Zaa v u1/\Zaa w u2:=by
  cases r1 with
  |cons p q=>
   cases q with
   |cons p' q'=>
    cases q'
    exact ⟨_,_,rfl,p,p'⟩
 refine wpAny_newObj_type ?_ (by show 2<=sizeLine;decide)
 have I2:Inv X pins σ H1 { s1 with heap:=s1.heap.push { cls:= .type "tuple",data:= .seq [u1,u2].toArray } }:=I1.kept (t':=s1.toks) fun b o e=>Heap.get?_push_of_some _ e
 rw[hw];refine wpAny_bind (wpAny_pure ?_)
 show wpAny (model X.prog X.w) X.A (do rule "assign.swapped-stores";let items <- unpackItems (.ref s1.heap.objs.size) 2 none;assignInOrder [fun v=>bindName X.env y v,fun v=>bindName X.env x v] items.reverse;pure Flow.next) _ _ _
 refine wpAny_bind (wpAny_rule (wpAny_bind (unpackItems_tuple (items:= #[u1,u2]) (I.ok.hd hc) (IsTup.new s1.heap _) fun h' hx'=> ?_)))
 have I3:=I2.kept (h':=h') (t':=s1.toks) fun b o e=>hx' b o (Nat.ne_of_lt (Heap.lt_size e)) e
 show wpAny _ _ (assignInOrder [fun v=>bindName X.env y v,fun v=>bindName X.env x v] [u2,u1] >>= fun _=>pure Flow.next) _ _ _
 refine wpAny_bind (assignInOrder_cons (wpAny_bindName (ZcH I3 hN hj (.inl hy) mj rw' (fun s2 I4=> ?_) (.inr hy))))
 refine assignInOrder_cons (wpAny_bindName (ZcH I4 hN hi (.inl hx) mi rv (fun s3 I5=>assignInOrder_nil (wpAny_pure ?_)) (.inr hx)))
 rw[List.set_comm _ _ (Ne.symm hij)] at I5;exact ⟨_,H1,I5,q1⟩
end
section
variable {X:Cx}{pos:Pos}
noncomputable def ZmP (c:TT)(tb:TS):TS:=fun D σ H=> ∃ W:Nat->St->Hp->Prop,(∃ m,W m σ H)/\ ∀ m σ H,W m σ H->
 c σ H fun b H1=>if b=true then ∃ N:St->Hp->Prop,(∀ σ' H',N σ' H'-> ∃ m',m' < m/\W m' σ' H')/\tb { D with nx:=N,ct:=N,bk:=D.nx } σ H1 else D.nx σ H1
theorem Zi0 {c:Expr}{body:List Stmt}{tc:TT}{tb:TS}(hp:PassesOwn (model X.prog X.w) X.A X.env X.xe)(hc:PT X c tc)(hb:PSs X body tb):PS X (.While c body [] pos) (ZmP tc tb):=by
 intro pins s σ H D I h;obtain ⟨W,⟨m0,w0⟩,turn⟩:=h
 refine wpAny_While (codeAny_whileLoop (fun n s'=> ∃ σ' H',Inv X pins σ' H' s'/\W n σ' H') ?_ m0 ⟨σ,H,I,w0⟩)
 rintro n s1 ⟨σ1,H1,I1,w1⟩
 refine wpAny_passesOwn hp (thn (hc pins s1 σ1 H1 _ I1 (turn n σ1 H1 w1)) fun b s2 ⟨H2,I2,q2⟩=> ?_)
 cases b with
 |true=>
  obtain ⟨N,hN,q2⟩:=q2
  rw[if_pos rfl];refine wpAny_passesOwn hp (thn (hb pins s2 σ1 H2 _ I2 q2) fun f s3 q3=> ?_)
  cases f with
  |next=>
   obtain ⟨σ3,H3,I3,n3⟩:=q3
   obtain ⟨m',hm,w3⟩:=hN σ3 H3 n3
   exact ⟨m',hm,σ3,H3,I3,w3⟩
  |cont=>
   obtain ⟨σ3,H3,I3,n3⟩:=q3
   obtain ⟨m',hm,w3⟩:=hN σ3 H3 n3
   exact ⟨m',hm,σ3,H3,I3,w3⟩
  |brk=>exact q3
  |ret v=>exact q3
 |false=>
  rw[if_neg Bool.false_ne_true];exact wpAny_execs_nil ⟨σ1,H2,I2,q2⟩
end
structure It where
 go:Nat->Hp->Prop
 yld:Nat->Hp->V->Hp->Prop
 stop:Nat->Hp->Prop
noncomputable def Zd6 (X:Cx)(pins:List (Addr × Obj))(H:Hp)(b:Addr):Prop:=
 H b=none/\b≠X.env.locals/\b ∉ X.fs/\(b∈X.ex\/X.s₀.heap.objs.size<=b)/\(∀ x c,X.env.cells.lookup x=some c->c≠b)/\ ∀ p∈X.pn ++ pins,p.1≠b
theorem Inv.fpOk {X:Cx}{pins:List (Addr × Obj)}{σ:St}{H H':Hp}{s:Shared}{b:Addr}(I:Inv X pins σ H s)(hb:s.heap.objs.size<=b)(hn:H' b=none):Zd6 X pins H' b:=by
 refine ⟨hn,Nat.ne_of_gt (Nat.lt_of_lt_of_le I.lt hb),I.nofs hb,.inr (Nat.le_trans I.sz hb),fun x c e z=> ?_,fun p hp z=> ?_⟩
 ·obtain ⟨v,q⟩:=I.cell x c e
  exact absurd (Nat.lt_of_lt_of_le q.lt (by rw[z];exact hb)) (Nat.lt_irrefl _)
 ·exact absurd (Nat.lt_of_lt_of_le (Heap.lt_size (I.pin p hp).1) (by rw[z];exact hb)) (Nat.lt_irrefl _)
structure Turn (P:Program) (w:World) (K:PySem.W.Frag) (B:Around) (tg:Expr) (J:It) (fp:List Addr) (it:Addr) (tn:Nat->Heap->Prop):Prop where
 mem:it∈fp
 obj: ∀ i h,tn i h-> ∀ b∈fp,∃ o,h.get? b=some o/\ ∀ v,o.data≠ .cell v
 keep: ∀ i h h',tn i h->(∀ b∈fp,∀ o,h.get? b=some o->h'.get? b=some o)->tn i h'
 item: ∀ (X:Cx),X.prog=P->X.w=w->X.K=K->X.A=B-> ∀ (i:Nat) (pins:List (Addr × Obj)) (s:Shared) (σ:St) (H:Hp) (E:Value->Shared->Prop),Inv X pins σ H s->(∀ b∈fp,Zd6 X pins H b)->tn i s.heap->J.go i H->
  wpAny (model P w) X.A (pyNext (.ref it)) (fun r s1=> ∃ u,r=some u/\
   wpAny (model P w) X.A (letOwnedTupleGo tg (.ref it) u) (fun _ s2=> ∃ x H',Inv X pins σ H' s2/\Zaa x u/\J.yld i H x H'/\tn (i + 1) s2.heap/\ ∀ b∈fp,H' b=none) E s1) E s
 done: ∀ (X:Cx),X.prog=P->X.w=w->X.K=K->X.A=B-> ∀ (i:Nat) (pins:List (Addr × Obj)) (s:Shared) (σ:St) (H:Hp) (E:Value->Shared->Prop),Inv X pins σ H s->(∀ b∈fp,Zd6 X pins H b)->tn i s.heap->J.stop i H->
  wpAny (model P w) X.A (pyNext (.ref it)) (fun r s1=>r=none/\Inv X pins σ H s1) E s
 self: ∀ (A:Around) (i:Nat) (s:Shared) (Q:Value->Shared->Prop) (E:Value->Shared->Prop),tn i s.heap->Q (.ref it) s->wpAny (model P w) A (pyIter (.ref it)) Q E s
noncomputable abbrev TI:=St->Hp->(It->Hp->Prop)->Prop
noncomputable def PIE (X:Cx)(pins:List (Addr × Obj))(σ:St)(tg:Expr)(R:It->Hp->Prop)(itv:Value)(s2:Shared):Prop:=
 ∃ (it:Addr) (fp:List Addr) (tn:Nat->Heap->Prop) (J:It) (H':Hp),itv= .ref it/\Inv X pins σ H' s2/\Turn X.prog X.w X.K X.A tg J fp it tn/\tn 0 s2.heap/\(∀ b∈fp,Zd6 X pins H' b)/\R J H'
noncomputable def PI (X:Cx)(tg iter:Expr)(wi:TI):Prop:=
 ∀ (pins:List (Addr × Obj)) (s:Shared) (σ:St) (H:Hp) (R:It->Hp->Prop),Inv X pins σ H s->wi σ H R->
  wpAny (model X.prog X.w) X.A (eval iter X.env) (fun v s1=>wpAny (model X.prog X.w) X.A (pyIter v) (PIE X pins σ tg R) X.xe s1) X.xe s
theorem Zi1 {M:Model}{A:Around}{E:Value->Shared->Prop}{s:Shared}{tg:Expr}{it:Addr}{u:Value}{o:Obj}{n:String}{vs:Array Value}{Q:Unit->Shared->Prop}(ho:s.heap.get? it=some o)(hc:o.cls= .type n)(hd:o.data= .fields vs)
  (hn:["enumerate","zip","dict_itemiterator","dict_reverseitemiterator","odict_iterator","itertools.zip_longest","itertools.pairwise"].contains n=false) (hQ:Q () s):wpAny M A (letOwnedTupleGo tg (.ref it) u) Q E s:=by
 unfold letOwnedTupleGo;cases tg<;>first
  |exact wpAny_pure hQ
  | (cases u<;>first
    |exact wpAny_pure hQ
    | (refine wpAny_bind (wpAny_load ho ?_)
       rw[hc,hd];show wpAny M A (if (["enumerate","zip","dict_itemiterator","dict_reverseitemiterator","odict_iterator","itertools.zip_longest","itertools.pairwise"].contains n && vs[0]? == some (rawInt _))=true then _ else _) Q E s
       rw[if_neg (by intro h;rw[hn,Bool.false_and] at h;cases h)]
       exact wpAny_pure hQ))
noncomputable def Itl (K:PySem.W.Frag)(a:Addr):It:=
 ⟨fun i H=> ∃ xs x,SqL K H a xs/\xs[i]?=some x,fun i H x H'=>H'=H/\ ∀ xs,SqL K H a xs->xs[i]?=some x,fun i H=> ∃ xs,SqL K H a xs/\xs.length<=i⟩
noncomputable def Itt (K:PySem.W.Frag)(a:Addr):It:=
 ⟨fun i H=> ∃ xs x,SqT K H a xs/\xs[i]?=some x,fun i H x H'=>H'=H/\ ∀ xs,SqT K H a xs->xs[i]?=some x,fun i H=> ∃ xs,SqT K H a xs/\xs.length<=i⟩
noncomputable def Itr (lo:Int)(n:Nat):It:=⟨fun i _=>i < n,fun i H x H'=>H'=H/\x= .int (lo + i),fun i _=>n<=i⟩
theorem ZgZ {P:Program}{w:World}{K:PySem.W.Frag}{B:Around}{tg:Expr}(a it:Addr):Turn P w K B tg (Itl K a) [it] it (fun i h=>h.IsListIter it a i) where
 mem:=by simp
 obj:=fun i h st b hb=>by
  have e:b=it:=by simpa using hb
  subst e;obtain ⟨o,e,c,d⟩:=st
  exact ⟨o,e,fun v z=>by rw[d] at z;cases z⟩
 keep:=fun i h h' st k=>st.at fun o e=>k it (by simp) o e
 item:=by
  intro X hP hw hK hB i pins s σ H E I hf st hg;subst hP hw hK;obtain ⟨xs,x,hq,hx⟩:=hg
  obtain ⟨its,rv,p,hz⟩:=I.list hq
  obtain ⟨u,hu,ru⟩:=rv.get hx
  obtain ⟨f0,f1,f2,f3,f4,f5⟩:=hf it (by simp)
  refine wpAny_pyNext_list_item st p.isList (x:=u) (by simpa using hu) fun h' st' sb=> ?_
  have I1:Inv X pins σ H { s with heap:=h' }:=I.turned (t':=s.toks) (fun b o hb e=>(sb.2 b hb).trans e) f0 f1 f3 f4 f5
  obtain ⟨o,e,c,d⟩:=id st'
  exact ⟨u,rfl,Zi1 (s:={ s with heap:=h' }) e c d (by decide) ⟨x,H,I1,ru,⟨rfl,fun ys hy=>by rw[I.list_inj hy hq];exact hx⟩,st',fun b hb=>(hf b hb).1⟩⟩
 done:=by
  intro X hP hw hK hB i pins s σ H E I hf st hg;subst hP hw hK;obtain ⟨xs,hq,hx⟩:=hg
  obtain ⟨its,rv,p,hz⟩:=I.list hq
  obtain ⟨f0,f1,f2,f3,f4,f5⟩:=hf it (by simp)
  have hl:=rv.length
  exact DQ.ZiX I.qh st p.isList (by simp;omega) fun h' eb=>⟨rfl,I.turned (t':=s.toks) (fun b o hb e=>eb b o hb e) f0 f1 f3 f4 f5⟩
 self:=fun _ _ _ _ _ st h=>wpAny_pyIter_listiter st h
theorem Zgc {P:Program}{w:World}{K:PySem.W.Frag}{B:Around}{tg:Expr}(a it:Addr):Turn P w K B tg (Itt K a) [it] it (fun i h=>h.IsTupleIter it a i) where
 mem:=by simp
 obj:=fun i h st b hb=>by
  have e:b=it:=by simpa using hb
  subst e;obtain ⟨o,e,c,d⟩:=st
  exact ⟨o,e,fun v z=>by rw[d] at z;cases z⟩
 keep:=fun i h h' st k=>st.at fun o e=>k it (by simp) o e
 item:=by
  intro X hP hw hK hB i pins s σ H E I hf st hg;subst hP hw hK;obtain ⟨xs,x,hq,hx⟩:=hg
  obtain ⟨its,rv,p,hz⟩:=I.tuple hq
  obtain ⟨u,hu,ru⟩:=rv.get hx
  obtain ⟨f0,f1,f2,f3,f4,f5⟩:=hf it (by simp)
  refine wpAny_pyNext_tuple_item st (show s.heap.IsTuple a its.toArray from p) (x:=u) (by simpa using hu) fun h' st' sb=> ?_
  have I1:Inv X pins σ H { s with heap:=h' }:=I.turned (t':=s.toks) (fun b o hb e=>(sb.2 b hb).trans e) f0 f1 f3 f4 f5
  obtain ⟨o,e,c,d⟩:=id st'
  exact ⟨u,rfl,Zi1 (s:={ s with heap:=h' }) e c d (by decide) ⟨x,H,I1,ru,⟨rfl,fun ys hy=>by rw[I.tuple_inj hy hq];exact hx⟩,st',fun b hb=>(hf b hb).1⟩⟩
 done:=by
  intro X hP hw hK hB i pins s σ H E I hf st hg;subst hP hw hK;obtain ⟨xs,hq,hx⟩:=hg
  obtain ⟨its,rv,p,hz⟩:=I.tuple hq
  obtain ⟨f0,f1,f2,f3,f4,f5⟩:=hf it (by simp)
  have hl:=rv.length
  exact DQ.ZgR I.qh st (show s.heap.IsTuple a its.toArray from p) (by simp;omega) fun h' eb=>⟨rfl,I.turned (t':=s.toks) (fun b o hb e=>eb b o hb e) f0 f1 f3 f4 f5⟩
 self:=fun _ _ _ _ _ st h=>wpAny_pyIter_tupleiter st h
theorem Zgd {P:Program}{w:World}{K:PySem.W.Frag}{B:Around}{tg:Expr}(it:Addr)(lo:Int)(n:Nat):Turn P w K B tg (Itr lo n) [it] it (fun i h=>IsRangeIter h it (lo + (i:Nat) * 1) ((n:Int) - (i:Nat)) 1) where
 mem:=by simp
 obj:=fun i h st b hb=>by
  have e:b=it:=by simpa using hb
  subst e;exact ⟨_,st,fun v z=>by
   have z':Data.fields _=Data.cell v:=z
   cases z'⟩
 keep:=fun i h h' st k=>k it (by simp) _ st
 item:=by
  intro X hP hw hK hB i pins s σ H E I hf st hg;subst hP hw hK;obtain ⟨f0,f1,f2,f3,f4,f5⟩:=hf it (by simp)
  have hlt:i < n:=hg
  refine wpAny_pyNext_range_item st (by omega) fun h' st' sb=> ?_
  have I1:Inv X pins σ H { s with heap:=h',toks:=s.toks + 1 }:=I.turned (fun b o hb e=>(sb.2 b hb).trans e) f0 f1 f3 f4 f5
  have st2:IsRangeIter h' it (lo + ((i + 1:Nat):Int) * 1) ((n:Int) - ((i + 1:Nat):Int)) 1:=by
   have e1:lo + ((i + 1:Nat):Int) * 1=lo + (i:Nat) * 1 + 1:=by omega
   have e2:(n:Int) - ((i + 1:Nat):Int)=(n:Int) - (i:Nat) - 1:=by omega
   rw[e1,e2];exact st'
  refine ⟨_,rfl,Zi1 (s:={ s with heap:=h',toks:=s.toks + 1 }) (n:="range_iterator") st2 rfl rfl (by decide) ⟨.int (lo + i),H,I1,⟨s.toks,?_⟩,⟨rfl,rfl⟩,st2,fun b hb=>(hf b hb).1⟩⟩
  rw[Int.mul_one]
 done:=by
  intro X hP hw hK hB i pins s σ H E I hf st hg;subst hP hw hK;obtain ⟨f0,f1,f2,f3,f4,f5⟩:=hf it (by simp)
  exact DQ.Zd4 I.qh st (by have:n<=i:=hg;omega) fun h' eb=>⟨rfl,I.turned (t':=s.toks) (fun b o hb e=>eb b o hb e) f0 f1 f3 f4 f5⟩
 self:=fun _ _ _ _ _ st h=>wpAny_pyIter_rangeiter st h
end L2
namespace L2
open PySem PySem.Spec PyProof.Rows
section
variable {X:Cx}{tg:Expr}
theorem Zi2 {pins:List (Addr × Obj)}{σ:St}{H:Hp}{s:Shared}{R:It->Hp->Prop}{E:Value->Shared->Prop}{lo hi:Int}{t u v:Tok}{tk:Nat}(I:Inv X pins σ H s)(h1: -(2 ^ 62)<=lo)(h2:lo < 2 ^ 62)(h3: -(2 ^ 62)<=hi)(h4:hi < 2 ^ 62)
  (q:R (Itr lo (hi - lo).toNat) H):wpAny (model X.prog X.w) X.A (pyIter (.ref s.heap.objs.size)) (PIE X pins σ tg R) E { s with heap:=s.heap.push { cls:= .type "range",data:= .fields #[.int lo t,.int hi u,.int 1 v] },toks:=tk }:=by
 refine wpAny_pyIter_range (IsRange.new ..) (small_one h1 h2 h3 h4) ?_
 have I1:Inv X pins σ H { s with heap:=s.heap.push { cls:= .type "range",data:= .fields #[.int lo t,.int hi u,.int 1 v] },toks:=tk }:=I.kept fun b o e=>Heap.get?_push_of_some _ e
 refine ⟨(s.heap.push { cls:= .type "range",data:= .fields #[.int lo t,.int hi u,.int 1 v] }).objs.size,[(s.heap.push { cls:= .type "range",data:= .fields #[.int lo t,.int hi u,.int 1 v] }).objs.size],_,_,H,rfl,
  I1.kept (t':=tk) fun b o e=>Heap.get?_push_of_some _ e,Zgd _ lo (hi - lo).toNat,?_,fun b hb=> ?_,q⟩
 ·have e1:lo + ((0:Nat):Int) * 1=lo:=by simp
  have e2:(((hi - lo).toNat:Nat):Int) - ((0:Nat):Int)=Builtin.Range.rangeSize lo hi 1:=by rw[rangeSize_one];split<;>omega
  show IsRangeIter _ _ (lo + ((0:Nat):Int) * 1) ((((hi - lo).toNat:Nat):Int) - ((0:Nat):Int)) 1
  rw[e1,e2];exact Heap.get?_push_size _ rfl
 ·have e:b=(s.heap.push { cls:= .type "range",data:= .fields #[.int lo t,.int hi u,.int 1 v] }).objs.size:=by simpa using hb
  subst e;exact I1.fpOk (Nat.le_refl _) (I1.hok.fresh (Nat.le_refl _))
noncomputable def ZpU (ta:TA):TI:=fun σ H R=>ta σ H fun vs H1=> ∃ j:Int,vs=[.int j]/\ -(2 ^ 62)<=j/\j < 2 ^ 62/\R (Itr 0 j.toNat) H1
theorem Zd7 {a:Expr}{ta:TA}{p pos:Pos}(hg:Gl X "range")(hm:X.mg "range"=none)(ha:PA X [a] ta)(hs:starEach [a] X.env=[(false,eval a X.env)]:=by rfl):PI X tg (.Call (.Name "range" p) [a] [] pos) (ZpU ta):=by
 intro pins s σ H R I h;refine Call_ (Zcn I hg hm boot_range (PyProof.Rows.callWith_type1 (thn (ha pos pins s σ H _ I h) fun us s1 ⟨vs,H1,I1,r1,q1⟩=> ?_) hs rfl))
 obtain ⟨j,e,q1,q2,q⟩:=q1
 subst e;cases r1 with
 |cons r rr=>
  cases rr
  obtain ⟨t,rfl⟩:=r
  exact call_range_1 (Zi2 I1 (by omega) (by omega) q1 q2 (by simpa using q))
noncomputable def Zs6 (wi:TI)(g:TG)(tb:TS):TS:=fun D σ H=>wi σ H fun J H1=> ∃ W:Nat->Nat->St->Hp->Prop,(∃ m,W 0 m σ H1)/\ ∀ i m σ H,W i m σ H->
 (J.stop i H/\D.nx σ H)\/(J.go i H/\ ∃ N:St->Hp->Prop,(∀ σ' H',N σ' H'-> ∃ m',m' < m/\W (i + 1) m' σ' H')/\ ∀ x H',J.yld i H x H'->g x σ H' fun σ2 H2=>tb { D with nx:=N,ct:=N,bk:=D.nx } σ2 H2)
noncomputable def Zdj (fp:List Addr)(h:Heap):List (Addr × Obj):=fp.filterMap fun b=>(h.get? b).map fun o=>(b,o)
theorem ZbD {fp:List Addr}{h:Heap}{b:Addr}{o:Obj}(hb:b∈fp)(e:h.get? b=some o):(b,o)∈Zdj fp h:=List.mem_filterMap.mpr ⟨b,hb,by rw[e];rfl⟩
theorem Zg0 {fp:List Addr}{h:Heap}{p:Addr × Obj}(hp:p∈Zdj fp h):p.1∈fp/\h.get? p.1=some p.2:=by
 obtain ⟨b,hb,e⟩:=List.mem_filterMap.mp hp
 cases q:h.get? b with
 |none=>rw[q] at e;cases e
 |some o=>
  rw[q] at e;have e':(b,o)=p:=Option.some.inj e
  subst e';exact ⟨hb,q⟩
theorem Inv.pinned {pins:List (Addr × Obj)}{σ:St}{H:Hp}{s:Shared}{fp:List Addr}(I:Inv X pins σ H s)(hf: ∀ b∈fp,Zd6 X pins H b)(ho: ∀ b∈fp,∃ o,s.heap.get? b=some o/\ ∀ v,o.data≠ .cell v):Inv X (pins ++ Zdj fp s.heap) σ H s:=
 I.pins_of fun p hp=>(List.mem_append.mp hp).elim (fun z=>I.pin p (List.mem_append_right _ z)) fun z=>by
  obtain ⟨hb,e⟩:=Zg0 z
  obtain ⟨f0,f1,f2,_⟩:=hf p.1 hb
  obtain ⟨o,e',d⟩:=ho p.1 hb
  rw[e] at e';cases e';exact ⟨e,f0,f1,f2,d⟩
theorem Inv.unpinned {pins pl:List (Addr × Obj)}{σ:St}{H:Hp}{s:Shared}(I:Inv X (pins ++ pl) σ H s):Inv X pins σ H s:=I.pins_of fun p hp=>I.pin p (List.mem_append_right _ (List.mem_append_left _ hp))
theorem Zg1 {iter:Expr}{body:List Stmt}{wi:TI}{g:TG}{tb:TS}{pos:Pos}(hp:PassesOwn (model X.prog X.w) X.A X.env X.xe)(hi:PI X tg iter wi)(hg:PG X tg g)(hb:PSs X body tb)
  (hs: ∀ x,foldedSetIterable iter X.env x=pure x:=by intro _;rfl):PS X (.For tg iter body [] pos) (Zs6 wi g tb):=by
 intro pins s σ H D I h;refine wpAny_For (thn (hi pins s σ H _ I h) fun v s1 h1=>thn h1 fun itv s2 h2=> ?_) hs
 obtain ⟨it,fp,tn,J,H2,e,I2,T,st2,f2,W,⟨m0,w0⟩,turn⟩:=h2
 subst e;have stat: ∀ {H':Hp},(∀ b∈fp,H' b=none)-> ∀ b∈fp,Zd6 X pins H' b:=fun hn b hb=>⟨hn b hb,(f2 b hb).2⟩
 refine codeAny_forLoop_any (fun n s'=> ∃ i σ' H',Inv X pins σ' H' s'/\tn i s'.heap/\(∀ b∈fp,H' b=none)/\W i n σ' H') ?_ m0 ⟨0,σ,H2,I2,st2,fun b hb=>(f2 b hb).1,w0⟩
 rintro n s3 ⟨i,σ3,H3,I3,st3,fr3,w3⟩
 rcases turn i n σ3 H3 w3 with ⟨stop,qn⟩ | ⟨go,N,hN,step⟩
 ·refine wpAny_passesOwn hp (thn (T.done X rfl rfl rfl rfl i pins s3 σ3 H3 X.xe I3 (stat fr3) st3 stop) fun r s4 ⟨hr,I4⟩=> ?_)
  subst hr;exact wpAny_execs_nil ⟨σ3,H3,I4,qn⟩
 ·refine wpAny_passesOwn hp (thn (T.item X rfl rfl rfl rfl i pins s3 σ3 H3 X.xe I3 (stat fr3) st3 go) fun r s4 ⟨u,hr,h4⟩=> ?_)
  subst hr;refine wpAny_passesOwn hp (thn h4 fun _ s5 ⟨x,H5,I5,r5,y5,st5,fr5⟩=> ?_)
  have I5':=I5.pinned (stat fr5) (T.obj _ _ st5)
  refine wpAny_passesOwn hp (thn (hg _ s5 σ3 H5 x u _ I5' r5 (step x H5 y5)) fun _ s6 ⟨σ6,H6,I6,q6⟩=> ?_)
  refine wpAny_passesOwn hp (thn (hb _ s6 σ6 H6 _ I6 q6) fun f s7 q7=> ?_)
  have again: ∀ {σ7:St} {H7:Hp},Inv X (pins ++ Zdj fp s5.heap) σ7 H7 s7->N σ7 H7-> ∃ m,m < n/\ ∃ i σ' H',Inv X pins σ' H' s7/\tn i s7.heap/\(∀ b∈fp,H' b=none)/\W i m σ' H':=fun {σ7 H7} I7 n7=>by
   obtain ⟨m',hm,w7⟩:=hN σ7 H7 n7
   refine ⟨m',hm,i + 1,σ7,H7,I7.unpinned,T.keep _ _ _ st5 fun b hb o e=>(I7.pin (b,o) (List.mem_append_right _ (List.mem_append_right _ (ZbD hb e)))).1,fun b hb=> ?_,w7⟩
   obtain ⟨o,e,d⟩:=T.obj _ _ st5 b hb
   exact (I7.pin (b,o) (List.mem_append_right _ (List.mem_append_right _ (ZbD hb e)))).2.1
  cases f with
  |next=>obtain ⟨σ7,H7,I7,n7⟩:=q7;exact again I7 n7
  |cont=>obtain ⟨σ7,H7,I7,n7⟩:=q7;exact again I7 n7
  |brk=>obtain ⟨σ7,H7,I7,q7⟩:=q7;exact ⟨σ7,H7,I7.unpinned,q7⟩
  |ret v=>obtain ⟨x7,σ7,H7,I7,r7,q7⟩:=q7;exact ⟨x7,σ7,H7,I7.unpinned,r7,q7⟩
end
theorem Zi3 {K:PySem.W.Frag}{a:Addr}{xs:List V}{g:TG}{tb:TS}{D:Ends}{σ:St}{H:Hp}(Pv:Nat->St->Hp->Prop)(h0:Pv 0 σ H)(hl: ∀ i σ H,i<=xs.length->Pv i σ H->SqL K H a xs)
  (hs: ∀ i x σ H,xs[i]?=some x->Pv i σ H->g x σ H fun σ2 H2=>tb { D with nx:=Pv (i + 1),ct:=Pv (i + 1),bk:=D.nx } σ2 H2) (hd: ∀ σ H,Pv xs.length σ H->D.nx σ H):
  ∃ W:Nat->Nat->St->Hp->Prop,(∃ m,W 0 m σ H)/\ ∀ i m σ H,W i m σ H->
   ((Itl K a).stop i H/\D.nx σ H)\/((Itl K a).go i H/\ ∃ N:St->Hp->Prop,(∀ σ' H',N σ' H'-> ∃ m',m' < m/\W (i + 1) m' σ' H')/\ ∀ x H',(Itl K a).yld i H x H'->g x σ H' fun σ2 H2=>tb { D with nx:=N,ct:=N,bk:=D.nx } σ2 H2):=by
 refine ⟨fun i m σ H=>m=xs.length - i/\i<=xs.length/\Pv i σ H,⟨xs.length,by simp,Nat.zero_le _,h0⟩,?_⟩
 rintro i m σ H ⟨rfl,hi,p⟩
 have q:=hl i σ H hi p
 by_cases hlt:i < xs.length
 ·refine .inr ⟨⟨xs,xs[i],q,by simp[hlt]⟩,Pv (i + 1),fun σ' H' p'=>⟨xs.length - (i + 1),by omega,rfl,hlt,p'⟩,fun x H' y=> ?_⟩
  obtain ⟨e,y⟩:=y
  subst e;exact hs i x σ _ (y xs q) p
 ·have e:i=xs.length:=by omega
  subst e;exact .inl ⟨⟨xs,q,Nat.le_refl _⟩,hd σ H p⟩
theorem ZkV {K:PySem.W.Frag}{a:Addr}{xs:List V}{g:TG}{tb:TS}{D:Ends}{σ:St}{H:Hp}(Pv:Nat->St->Hp->Prop)(h0:Pv 0 σ H)(hl: ∀ i σ H,i<=xs.length->Pv i σ H->SqT K H a xs)
  (hs: ∀ i x σ H,xs[i]?=some x->Pv i σ H->g x σ H fun σ2 H2=>tb { D with nx:=Pv (i + 1),ct:=Pv (i + 1),bk:=D.nx } σ2 H2) (hd: ∀ σ H,Pv xs.length σ H->D.nx σ H):
  ∃ W:Nat->Nat->St->Hp->Prop,(∃ m,W 0 m σ H)/\ ∀ i m σ H,W i m σ H->
   ((Itt K a).stop i H/\D.nx σ H)\/((Itt K a).go i H/\ ∃ N:St->Hp->Prop,(∀ σ' H',N σ' H'-> ∃ m',m' < m/\W (i + 1) m' σ' H')/\ ∀ x H',(Itt K a).yld i H x H'->g x σ H' fun σ2 H2=>tb { D with nx:=N,ct:=N,bk:=D.nx } σ2 H2):=by
 refine ⟨fun i m σ H=>m=xs.length - i/\i<=xs.length/\Pv i σ H,⟨xs.length,by simp,Nat.zero_le _,h0⟩,?_⟩
 rintro i m σ H ⟨rfl,hi,p⟩
 have q:=hl i σ H hi p
 by_cases hlt:i < xs.length
 ·refine .inr ⟨⟨xs,xs[i],q,by simp[hlt]⟩,Pv (i + 1),fun σ' H' p'=>⟨xs.length - (i + 1),by omega,rfl,hlt,p'⟩,fun x H' y=> ?_⟩
  obtain ⟨e,y⟩:=y
  subst e;exact hs i x σ _ (y xs q) p
 ·have e:i=xs.length:=by omega
  subst e;exact .inl ⟨⟨xs,q,Nat.le_refl _⟩,hd σ H p⟩
theorem Zg2 {lo:Int}{n:Nat}{g:TG}{tb:TS}{D:Ends}{σ:St}{H:Hp}(Pv:Nat->St->Hp->Prop)(h0:Pv 0 σ H)
  (hs: ∀ i σ H,i < n->Pv i σ H->g (.int (lo + i)) σ H fun σ2 H2=>tb { D with nx:=Pv (i + 1),ct:=Pv (i + 1),bk:=D.nx } σ2 H2) (hd: ∀ σ H,Pv n σ H->D.nx σ H):
  ∃ W:Nat->Nat->St->Hp->Prop,(∃ m,W 0 m σ H)/\ ∀ i m σ H,W i m σ H->
   ((Itr lo n).stop i H/\D.nx σ H)\/((Itr lo n).go i H/\ ∃ N:St->Hp->Prop,(∀ σ' H',N σ' H'-> ∃ m',m' < m/\W (i + 1) m' σ' H')/\ ∀ x H',(Itr lo n).yld i H x H'->g x σ H' fun σ2 H2=>tb { D with nx:=N,ct:=N,bk:=D.nx } σ2 H2):=by
 refine ⟨fun i m σ H=>m=n - i/\i<=n/\Pv i σ H,⟨n,by simp,Nat.zero_le _,h0⟩,?_⟩
 rintro i m σ H ⟨rfl,hi,p⟩
 by_cases hlt:i < n
 ·refine .inr ⟨hlt,Pv (i + 1),fun σ' H' p'=>⟨n - (i + 1),by omega,rfl,hlt,p'⟩,fun x H' y=> ?_⟩
  obtain ⟨e,y⟩:=y
  subst e y;exact hs i σ _ hlt p
 ·have e:i=n:=by omega
  subst e;exact .inl ⟨Nat.le_refl _,hd σ H p⟩
end L2
namespace L2
open PySem PySem.Spec PyProof.Rows
noncomputable abbrev R2:=V->V->Hp->VK->Prop
noncomputable def OpR (X:Cx)(f:Value->Value->Sem Value)(r:R2):Prop:=
 ∀ (pins:List (Addr × Obj)) (s:Shared) (σ:St) (H:Hp) (x y:V) (v u:Value) (Q:VK),Inv X pins σ H s->Zaa x v->Zaa y u->r x y H Q->
  wpAny (model X.prog X.w) X.A (f v u) (EP X pins σ Q) X.xe s
noncomputable def UnR (X:Cx)(f:Value->Sem Value)(r:V->Hp->VK->Prop):Prop:=
 ∀ (pins:List (Addr × Obj)) (s:Shared) (σ:St) (H:Hp) (x:V) (v:Value) (Q:VK),Inv X pins σ H s->Zaa x v->r x H Q->
  wpAny (model X.prog X.w) X.A (f v) (EP X pins σ Q) X.xe s
noncomputable def ZbS (X:Cx)(f:Value)(r:List V->Hp->VK->Prop):Prop:=
 ∀ (pins:List (Addr × Obj)) (s:Shared) (σ:St) (H:Hp) (xs:List V) (us:List Value) (Q:VK),Inv X pins σ H s->ZX xs us->r xs H Q->
  wpAny (model X.prog X.w) X.A (call f us) (EP X pins σ Q) X.xe s
noncomputable def tOp (r:R2)(ta tb:TE):TE:=fun σ H Q=>ta σ H fun x H1=>tb σ H1 fun y H2=>r x y H2 Q
noncomputable def tUn (r:V->Hp->VK->Prop)(ta:TE):TE:=fun σ H Q=>ta σ H fun x H1=>r x H1 Q
noncomputable def rI (C:Int->Int->Prop)(g:Int->Int->V):R2:=fun x y H Q=> ∃ i j,x= .int i/\y= .int j/\C i j/\Q (g i j) H
noncomputable def rI0 (g:Int->Int->V):R2:=fun x y H Q=> ∃ i j,x= .int i/\y= .int j/\Q (g i j) H
noncomputable def rU (g:Int->V):V->Hp->VK->Prop:=fun x H Q=> ∃ i,x= .int i/\Q (g i) H
section
variable {X:Cx}{a b c:Expr}{ta tb tc:TE}{pos:Pos}
theorem ZpV (ha:PE X a ta)(hb:PE X b tb){pins:List (Addr × Obj)}{s:Shared}{σ:St}{H:Hp}{R:V->V->Hp->Prop}(I:Inv X pins σ H s)
  (h:ta σ H fun x H1=>tb σ H1 fun y H2=>R x y H2) {Q:Value->Shared->Prop} {f:Value->Value->Sem Value}
  (hf: ∀ v u s2 x y H2,Inv X pins σ H2 s2->Zaa x v->Zaa y u->R x y H2->wpAny (model X.prog X.w) X.A (f v u) Q X.xe s2):
  wpAny (model X.prog X.w) X.A (eval a X.env) (fun v s₁=>wpAny (model X.prog X.w) X.A (eval b X.env) (fun u s₂=>wpAny (model X.prog X.w) X.A (f v u) Q X.xe s₂) X.xe s₁) X.xe s:=by
 refine thn (ha pins s σ H _ I h) fun v s1 ⟨x,H1,I1,r1,q1⟩=> ?_
 refine thn (hb pins s1 σ H1 _ I1 q1) fun u s2 ⟨y,H2,I2,r2,q2⟩=> ?_
 exact hf v u s2 x y H2 I2 r1 r2 q2
theorem ZpW {op:Operator}{r:R2}(ho:OpR X (binaryOp op) r)(ha:PE X a ta)(hb:PE X b tb):PE X (.BinOp a op b pos) (tOp r ta tb):=by
 intro pins s σ H Q I h;exact wpAny_BinOp (ZpV ha hb I h fun v u s2 x y H2 I2 rx ry q=>ho pins s2 σ H2 x y v u Q I2 rx ry q)
theorem ZpX {op:UnaryOp}{r:V->Hp->VK->Prop}(ho:UnR X (unaryOp op) r)(ha:PE X a ta):PE X (.UnaryOp op a pos) (tUn r ta):=by
 intro pins s σ H Q I h;exact UnaryOp_ (thn (ha pins s σ H _ I h) fun v s1 ⟨x,H1,I1,r1,q1⟩=>ho pins s1 σ H1 x v Q I1 r1 q1)
theorem opI {f:Value->Value->Sem Value}{C:Int->Int->Prop}{g:Int->Int->Int}
  (rule: ∀ (i j:Int) (t u:Tok) (s:Shared) (Q:Value->Shared->Prop) (E:Value->Shared->Prop),C i j->Q (.int (g i j) s.toks) { s with toks:=s.toks + 1 }->wpAny (model X.prog X.w) X.A (f (.int i t) (.int j u)) Q E s):
  OpR X f (rI C fun i j=> .int (g i j)):=by
 intro pins s σ H x y v u Q I rx ry h;obtain ⟨i,j,rfl,rfl,hc,q⟩:=h
 obtain ⟨t,rfl⟩:=rx
 obtain ⟨t',rfl⟩:=ry
 exact rule i j t t' s _ _ hc ⟨.int (g i j),H,I.tok _,⟨_,rfl⟩,q⟩
theorem ZrR {f:Value->Value->Sem Value}{g:Int->Int->Int}
  (rule: ∀ (i j:Int) (t u:Tok) (s:Shared) (Q:Value->Shared->Prop) (E:Value->Shared->Prop),Q (.int (g i j) s.toks) { s with toks:=s.toks + 1 }->wpAny (model X.prog X.w) X.A (f (.int i t) (.int j u)) Q E s):
  OpR X f (rI0 fun i j=> .int (g i j)):=by
 intro pins s σ H x y v u Q I rx ry h;obtain ⟨i,j,rfl,rfl,q⟩:=h
 obtain ⟨t,rfl⟩:=rx
 obtain ⟨t',rfl⟩:=ry
 exact rule i j t t' s _ _ ⟨.int (g i j),H,I.tok _,⟨_,rfl⟩,q⟩
theorem Zpz {f:Value->Value->Sem Value}{g:Int->Int->Bool}
  (rule: ∀ (i j:Int) (t u:Tok) (s:Shared) (Q:Value->Shared->Prop) (E:Value->Shared->Prop),Q (.bool (g i j)) s->wpAny (model X.prog X.w) X.A (f (.int i t) (.int j u)) Q E s):
  OpR X f (rI0 fun i j=> .bl (g i j)):=by
 intro pins s σ H x y v u Q I rx ry h;obtain ⟨i,j,rfl,rfl,q⟩:=h
 obtain ⟨t,rfl⟩:=rx
 obtain ⟨t',rfl⟩:=ry
 exact rule i j t t' s _ _ ⟨.bl (g i j),H,I,rfl,q⟩
noncomputable def ZrS (i j:Int):Prop:=0<=j/\j<=1000000/\i.natAbs < 2 ^ 64
theorem ZmQ:OpR X (binaryOp .Add) (rI0 fun i j=> .int (i + j)):=ZrR fun _ _ _ _ _ _ _ q=>add_int q
theorem ZmR:OpR X (binaryOp .Sub) (rI0 fun i j=> .int (i - j)):=ZrR fun _ _ _ _ _ _ _ q=>sub_int q
theorem ZkW:OpR X (binaryOp .Mod) (rI (fun _ j=>j≠0) fun i j=> .int (i.fmod j)):=opI fun _ _ _ _ _ _ _ hc q=>mod_int' hc q
theorem ZmS:OpR X (binaryOp .Pow) (rI ZrS fun i j=> .int (i ^ j.toNat)):=opI fun _ _ _ _ _ _ _ hc q=>pow_int_small hc.1 hc.2.1 hc.2.2 q
theorem unI {f:Value->Sem Value}{g:Int->Int}
  (rule: ∀ (i:Int) (t:Tok) (s:Shared) (Q:Value->Shared->Prop) (E:Value->Shared->Prop),Q (.int (g i) s.toks) { s with toks:=s.toks + 1 }->wpAny (model X.prog X.w) X.A (f (.int i t)) Q E s):
  UnR X f (rU fun i=> .int (g i)):=by
 intro pins s σ H x v Q I rx h;obtain ⟨i,rfl,q⟩:=h
 obtain ⟨t,rfl⟩:=rx
 exact rule i t s _ _ ⟨.int (g i),H,I.tok _,⟨_,rfl⟩,q⟩
theorem ZmT:UnR X (unaryOp .USub) (rU fun i=> .int (-i)):=unI fun _ _ _ _ _ q=>neg_int q
end
section
variable {X:Cx}{a b c:Expr}{ta tb tc:TE}{pos:Pos}
theorem ZcN:OpR X (compareOp .Lt) (rI0 fun i j=> .bl (decide (i < j))):=Zpz fun _ _ _ _ _ _ _ q=>lt_int q
theorem Zd8:OpR X (compareOp .LtE) (rI0 fun i j=> .bl (decide (i<=j))):=Zpz fun _ _ _ _ _ _ _ q=>le_int q
theorem Zcy:OpR X (compareOp .Gt) (rI0 fun i j=> .bl (decide (j < i))):=Zpz fun _ _ _ _ _ _ _ q=>gt_int q
theorem ZpY:OpR X (compareOp .GtE) (rI0 fun i j=> .bl (decide (j<=i))):=Zpz fun _ _ _ _ _ _ _ q=>ge_int q
theorem OpR.or {f:Value->Value->Sem Value}{r r':R2}(h:OpR X f r)(h':OpR X f r'):OpR X f (fun x y H Q=>r x y H Q\/r' x y H Q):=by
 intro pins s σ H x y v u Q I rx ry q
 rcases q with q | q
 ·exact h pins s σ H x y v u Q I rx ry q
 ·exact h' pins s σ H x y v u Q I rx ry q
theorem Zj4 (b:Expr){op:CmpOp}(h:op≠ .In:=by decide)(h2:op≠ .NotIn:=by decide):behindInMarks op b=false:=by
 have e1:(op == CmpOp.In)=false:=by cases op<;>first | rfl | exact absurd rfl h
 have e2:(op == CmpOp.NotIn)=false:=by cases op<;>first | rfl | exact absurd rfl h2
 cases b<;>simp[behindInMarks,e1,e2]
theorem ZkX {op:CmpOp}{r:R2}(ho:OpR X (compareOp op) r)(ha:PE X a ta)(hb:PE X b tb)(hm:behindInMarks op b=false):PE X (.Compare a [op] [b] pos) (tOp r ta tb):=by
 intro pins s σ H Q I h;exact wpAny_Compare1 (ZpV ha hb I h fun v u s2 x y H2 I2 rx ry q=>ho pins s2 σ H2 x y v u Q I2 rx ry q) hm
noncomputable def ZkY (t:TE):TT:=fun σ H Q=>t σ H fun x H'=> ∃ k,x= .bl k/\Q k H'
theorem ZkZ {op:CmpOp}{r:R2}(ho:OpR X (compareOp op) r)(ha:PE X a ta)(hb:PE X b tb)(hm:behindInMarks op b=false):PT X (.Compare a [op] [b] pos) (ZkY (tOp r ta tb)):=by
 intro pins s σ H Q I h;refine wpAny_isTrue_Compare1 (thn (ha pins s σ H _ I h) fun v s1 ⟨x,H1,I1,r1,q1⟩=>thn (hb pins s1 σ H1 _ I1 q1) fun u s2 ⟨y,H2,I2,r2,q2⟩=>
  thn (ho pins s2 σ H2 x y v u _ I2 r1 r2 q2) fun c s3 ⟨z,H3,I3,r3,k,e,q3⟩=> ?_) hm
 subst e;cases r3
 exact wpAny_truthy_bool ⟨H3,I3,q3⟩
noncomputable def Zg3 (r r':R2)(ta tb tc:TE):TE:=fun σ H Q=>ta σ H fun x H1=>tb σ H1 fun y H2=>r x y H2 fun z H3=> ∃ k,z= .bl k/\
 (if k=true then tc σ H3 fun w' H4=>r' y w' H4 Q else Q (.bl false) H3)
theorem Zi4 {op op':CmpOp}{r r':R2}(ho:OpR X (compareOp op) r)(ho':OpR X (compareOp op') r')(ha:PE X a ta)(hb:PE X b tb)(hc:PE X c tc)
  (hm:lastMarks [op,op'] [b,c]=false:=by with_unfolding_all rfl):PE X (.Compare a [op,op'] [b,c] pos) (Zg3 r r' ta tb tc):=by
 intro pins s σ H Q I h;refine Compare_chain (thn (ha pins s σ H _ I h) fun v s1 ⟨x,H1,I1,r1,q1⟩=>chain_link (thn (hb pins s1 σ H1 _ I1 q1) fun u s2 ⟨y,H2,I2,r2,q2⟩=>
  thn (ho pins s2 σ H2 x y v u _ I2 r1 r2 q2) fun d s3 ⟨z,H3,I3,r3,k,e,q3⟩=> ?_)) hm
 subst e;cases r3
 refine wpAny_truthy_bool ?_
 cases k with
 |false=>exact ite_ff ⟨.bl false,H3,I3,rfl,q3⟩
 |true=>exact ite_tt (chain_last (thn (hc pins s3 σ H3 _ I3 q3) fun w' s4 ⟨z',H4,I4,r4,q4⟩=>ho' pins s4 σ H4 y z' u w' Q I4 r2 r4 q4))
theorem Zi5 {op op':CmpOp}{r r':R2}(ho:OpR X (compareOp op) r)(ho':OpR X (compareOp op') r')(ha:PE X a ta)(hb:PE X b tb)(hc:PE X c tc)
  (hm:lastMarks [op,op'] [b,c]=false:=by with_unfolding_all rfl):PT X (.Compare a [op,op'] [b,c] pos) (ZkY (Zg3 r r' ta tb tc)):=by
 intro pins s σ H Q I h;refine isTrue_chain (thn (ha pins s σ H _ I h) fun v s1 ⟨x,H1,I1,r1,q1⟩=>test_link (thn (hb pins s1 σ H1 _ I1 q1) fun u s2 ⟨y,H2,I2,r2,q2⟩=>
  thn (ho pins s2 σ H2 x y v u _ I2 r1 r2 q2) fun d s3 ⟨z,H3,I3,r3,k,e,q3⟩=> ?_)) hm
 subst e;cases r3
 refine wpAny_truthy_bool ?_
 cases k with
 |false=>
  obtain ⟨k',e',q'⟩:=q3
  cases e'
  exact ite_ff ⟨H3,I3,q'⟩
 |true=>
  refine ite_tt (test_last (thn (hc pins s3 σ H3 _ I3 q3) fun w' s4 ⟨z',H4,I4,r4,q4⟩=>thn (ho' pins s4 σ H4 y z' u w' _ I4 r2 r4 q4) fun d' s5 ⟨z2,H5,I5,r5,k2,e2,q5⟩=> ?_))
  subst e2;cases r5
  exact wpAny_truthy_bool ⟨H5,I5,q5⟩
theorem Zfu:(sizeLine:Nat) < 2 ^ 63:=by rw[sizeLine_eq];decide
theorem Zge:OpR X (binaryOp .Add) (fun x y H Q=> ∃ i j,x= .str i/\y= .str j/\i.length + j.length<=sizeLine/\Q (.str (i ++ j)) H):=by
 intro pins s σ H x y v u Q I rx ry h;obtain ⟨i,j,rfl,rfl,hz,q⟩:=h
 obtain ⟨t,rfl⟩:=rx
 obtain ⟨t',rfl⟩:=ry
 exact add_str (fun t' tk=>⟨.str (i ++ j),H,I.tok _,⟨_,rfl⟩,q⟩) hz
theorem ZcO {x:V}{us:List Value}(r:ZX [x] us): ∃ u,us=[u]/\Zaa x u:=by
 cases r with
 |cons r1 r2=>cases r2;exact ⟨_,rfl,r1⟩
theorem Zi6 {x y:V}{us:List Value}(r:ZX [x,y] us): ∃ u w',us=[u,w']/\Zaa x u/\Zaa y w':=by
 cases r with
 |cons r1 r2=>
  cases r2 with
  |cons r3 r4=>cases r4;exact ⟨_,_,rfl,r1,r3⟩
theorem Zaw:ZbS X (.builtin "abs") (fun xs H Q=> ∃ i,xs=[.int i]/\Q (.int (if i < 0 then -i else i)) H):=by
 intro pins s σ H xs us Q I r h;obtain ⟨i,rfl,q⟩:=h
 obtain ⟨u,rfl,t,rfl⟩:=ZcO r
 exact call_abs_int fun u tk=>⟨.int (if i < 0 then -i else i),H,I.tok _,⟨_,rfl⟩,q⟩
theorem Zg4 (hc:X.calm=true):ZbS X (.builtin "max") (fun xs H Q=> ∃ i j,xs=[.int i,.int j]/\Q (.int (if j > i then j else i)) H):=by
 intro pins s σ H xs us Q I r h;obtain ⟨i,j,rfl,q⟩:=h
 obtain ⟨u,w',rfl,⟨t,rfl⟩,⟨t',rfl⟩⟩:=Zi6 r
 refine max_two_ints (I.ok.hd hc) fun h' tk k=>⟨_,H,I.kept k,?_,q⟩
 by_cases hj:j > i
 ·rw[if_pos hj,if_pos hj];exact ⟨_,rfl⟩
 ·rw[if_neg hj,if_neg hj];exact ⟨_,rfl⟩
theorem Zg5 (hc:X.calm=true):ZbS X (.builtin "min") (fun xs H Q=> ∃ i j,xs=[.int i,.int j]/\Q (.int (if j < i then j else i)) H):=by
 intro pins s σ H xs us Q I r h;obtain ⟨i,j,rfl,q⟩:=h
 obtain ⟨u,w',rfl,⟨t,rfl⟩,⟨t',rfl⟩⟩:=Zi6 r
 refine min_two_ints (I.ok.hd hc) fun h' tk k=>⟨_,H,I.kept k,?_,q⟩
 by_cases hj:j < i
 ·rw[if_pos hj,if_pos hj];exact ⟨_,rfl⟩
 ·rw[if_neg hj,if_neg hj];exact ⟨_,rfl⟩
theorem Zd9:ZbS X (.type "int") (fun xs H Q=>(∃ i,xs=[.int i]/\Q (.int i) H)\/ ∃ k,xs=[.bl k]/\Q (.int (if k then 1 else 0)) H):=by
 intro pins s σ H xs us Q I r h
 rcases h with ⟨i,rfl,q⟩ | ⟨k,rfl,q⟩
 ·obtain ⟨u,rfl,t,rfl⟩:=ZcO r
  exact call_int_int ⟨.int i,H,I,⟨_,rfl⟩,q⟩
 ·obtain ⟨u,rfl,r1⟩:=ZcO r
  cases r1
  exact call_int_bool ⟨.int (if k then 1 else 0),H,I.tok _,⟨_,rfl⟩,q⟩
end
end L2
namespace L2
open PySem PySem.Spec PyProof.Rows
section
variable {prog:Program}{w:World}{A:Around}{E:Value->Shared->Prop}{s:Shared}{K:PySem.W.Frag}{x dx C f:Addr}{mA:Str->Option Value}{name:Str}{v:Value}
end
noncomputable def Zj5 (f:Str)(v:V):List (Str × V)->List (Str × V)
 | []=>[(f,v)]
 | (g,x) :: r=>if g=f then (g,v) :: r else (g,x) :: Zj5 f v r
theorem ZcP (f g:Str)(v:V): ∀ fs:List (Str × V),(Zj5 f v fs).lookup g=if g=f then some v else fs.lookup g
 | []=>by
  show List.lookup g [(f,v)]=_
  by_cases h:g=f
  ·have hb:(g == f)=true:=beq_iff_eq.mpr h
   simp only[List.lookup,hb,if_pos h]
  ·have hb:(g == f)=false:=beq_eq_false_iff_ne.mpr h
   simp only[List.lookup,hb,if_neg h]
 | (k,x) :: r=>by
  have ih:=ZcP f g v r
  rw[show Zj5 f v ((k,x) :: r)=(if k=f then (k,v) :: r else (k,x) :: Zj5 f v r) from rfl]
  by_cases hk:k=f
  ·rw[if_pos hk]
   by_cases h:g=k
   ·have hb:(g == k)=true:=beq_iff_eq.mpr h
    simp only[List.lookup,hb,if_pos (h.trans hk)]
   ·have hb:(g == k)=false:=beq_eq_false_iff_ne.mpr h
    simp only[List.lookup,hb,if_neg (fun e:g=f=>h (e.trans hk.symm))]
  ·rw[if_neg hk]
   by_cases h:g=k
   ·have hb:(g == k)=true:=beq_iff_eq.mpr h
    simp only[List.lookup,hb,if_neg (fun e:g=f=>hk (h.symm.trans e))]
   ·have hb:(g == k)=false:=beq_eq_false_iff_ne.mpr h
    simp only[List.lookup,hb];exact ih
theorem ZmB.none_of {o:Option Value}(r:ZmB none o):o=none:=by
 cases o with
 |none=>rfl
 |some u=>exact (show False from r).elim
section
variable {P:Program}{w:World}{H H':Hp}{h h':Heap}{a C dx:Addr}{fs fs':List (Str × V)}
end
section
variable {X:Cx}{pins:List (Addr × Obj)}{σ:St}{H:Hp}{s:Shared}{a C dx:Addr}{fs:List (Str × V)}{f:Str}{v:V}{A:Around}{E:Value->Shared->Prop}
end
section
variable {X:Cx}{o e value:Expr}{f:Str}{pos pos' tpos:Pos}{ta tv:TE}
end
section
variable {X:Cx}{pins:List (Addr × Obj)}{σ:St}{H:Hp}{s:Shared}{A:Around}{E:Value->Shared->Prop}{Q:Value->Shared->Prop}{c:Value}{b:Bool}
end
end L2
namespace L2
open PySem PySem.Spec PyProof.Rows
structure Room (k:Nat) (A:Around):Prop where
 hd:100<=k->A.handled=none
 gd:A.guards=some []
 dp:A.depth + 3 * k + 5 < recursionLimit
 un:A.units + 16 * k + 200 < cLine
theorem Room.mono {j k:Nat}{A:Around}(r:Room k A)(h:j<=k):Room j A:=⟨fun z=>r.hd (Nat.le_trans z h),r.gd,by have:=r.dp;omega,by have:=r.un;omega⟩
theorem Room.deeper {k:Nat}{A:Around}(r:Room (k + 1) A)(env:Env):Room k (A.deeper env):=
 ⟨fun z=>r.hd (Nat.le_succ_of_le z),r.gd,by have:=r.dp;show A.depth + 1 + 3 * k + 5 < _;omega,by have:=r.un;show A.units + 3 + 16 * k + 200 < _;omega⟩
theorem Zgf {A:Around}{C:Addr}{us:List Value}{kw:List (Str × Value)}:(A.under (.builtin "type.__call__" ⟨.ref C :: us,kw⟩)).depth=A.depth + 1:=by
 first | rfl | simp[Around.under,Code.weight,Code.isCreation,Code.isGuard,Code.isCaller,Code.frames,Code.isFrame,guardIds]
theorem Zgg {A:Around}{C:Addr}{us:List Value}{kw:List (Str × Value)}:(A.under (.builtin "type.__call__" ⟨.ref C :: us,kw⟩)).units=A.units + 1:=by
 first | rfl | simp[Around.under,Code.cUnits,Code.frames,Code.isFrame]
theorem Room.make {k:Nat}{A:Around}(r:Room (k + 1) A)(C:Addr)(us:List Value)(kw:List (Str × Value)):Room k (A.under (.builtin "type.__call__" ⟨.ref C :: us,kw⟩)):=
 ⟨fun z=>r.hd (Nat.le_succ_of_le z),r.gd,by have:=r.dp;rw[Zgf];omega,by have:=r.un;rw[Zgg];omega⟩
theorem Room.depth {k:Nat}{A:Around}(r:Room k A):A.depth < recursionLimit:=by have:=r.dp;omega
theorem Room.units {k:Nat}{A:Around}(r:Room k A):A.units + 64 < cLine:=by have:=r.un;omega
noncomputable def tNil:TA:=fun _ H Q=>Q [] H
noncomputable def ZpZ (ta:TE)(tr:TA):TA:=fun σ H Q=>ta σ H fun x H1=>tr σ H1 fun xs H2=>Q (x :: xs) H2
section
variable {X:Cx}{e:Expr}{es:List Expr}{te:TE}{t:TA}{pos:Pos}
theorem Zg6:PA X [] tNil:=fun _ _ _ _ H Q I h=>Calls.spliced_nil ⟨[],H,I,.nil,h⟩
theorem ZcQ (ha:PE X e te)(hr:PA X es t)(hs:starEach (e :: es) X.env=(false,eval e X.env) :: starEach es X.env:=by rfl):PA X (e :: es) (ZpZ te t):=by
 intro pos pins s σ H Q I h;rw[hs];show wpAny _ _ (spliced ((false,eval e X.env) :: backTo pos (starEach es X.env))) _ _ s
 refine Calls.spliced_cons (thn (ha pins s σ H _ I h) fun u s1 ⟨x,H1,I1,r1,q1⟩=> ?_)
 exact thn (hr pos pins s1 σ H1 _ I1 q1) fun us s2 ⟨xs,H2,I2,r2,q2⟩=>⟨x :: xs,H2,I2,.cons r1 r2,q2⟩
noncomputable def Zs7 (t:TA):TE:=fun σ H Q=>t σ H fun xs H1=>xs.length<=sizeLine/\ ∀ p,H1 p=none->Q (.ref p) (upd H1 p (.tup xs))
noncomputable def Zs8 (t:TA):TE:=fun σ H Q=>t σ H fun xs H1=>xs.length<=sizeLine/\ ∀ p,H1 p=none->Q (.ref p) (upd H1 p (.lst xs))
theorem ZmU {x1}(h:PA X es t):PE X (.Tuple es x1 pos) (Zs7 t):=by
 intro pins s σ H Q I hq;refine wpAny_Tuple_spliced (thn (h pos pins s σ H _ I hq) fun us s1 ⟨xs,H1,I1,r,z,q⟩=>⟨by rw[<- r.length];exact z,?_⟩)
 have hf:H1 s1.heap.objs.size=none:=I1.hok.fresh (Nat.le_refl _)
 refine ⟨.ref s1.heap.objs.size,upd H1 s1.heap.objs.size (.tup xs),I1.laid (t':=s1.toks) (fun b u e=>Heap.get?_push_of_some _ e) (Nat.le_refl _) ?_,rfl,q _ hf⟩
 exact ⟨z,us,r,⟨_,Heap.get?_push_size _ rfl,rfl,_,rfl⟩⟩
theorem ZmV (h:PA X es t):PE X (.List es pos) (Zs8 t):=by
 intro pins s σ H Q I hq;refine wpAny_List_spliced (thn (h pos pins s σ H _ I hq) fun us s1 ⟨xs,H1,I1,r,z,q⟩=>⟨by rw[<- r.length];exact z,?_⟩)
 have hf:H1 s1.heap.objs.size=none:=I1.hok.fresh (Nat.le_refl _)
 refine ⟨.ref s1.heap.objs.size,upd H1 s1.heap.objs.size (.lst xs),I1.laid (t':=s1.toks) (fun b u e=>Heap.get?_push_of_some _ e) (Nat.le_refl _) ?_,rfl,q _ hf⟩
 exact ⟨z,us,0,r,Heap.get?_push_size _ rfl⟩
end
noncomputable abbrev Sp:=List V->Hp->VK->XK->Prop
noncomputable abbrev CXT:=List Env->Hp->Shared->XK->Value->Shared->Prop
structure Env0 (P:Program) (w:World) (K:PySem.W.Frag) (mg:Str->Option Value) (base:Heap) (A:Around) (outer:List Env) (s:Shared) (H:Hp):Prop where
 frames:A.frames=some outer
 mod:Mod K mg base
 bs: ∀ b o,base.get? b=some o->s.heap.get? b=some o/\H b=none
 bsz:base.objs.size<=s.heap.objs.size
 funs:s.heap.FunFrames base outer
 frf: ∀ b∈frs outer,H b=none
 hok:HOk P w H s.heap
 bare:AllBare s.gens
 qd:Qd A H
noncomputable def CE (outer:List Env)(P:Program)(w:World)(H:Hp)(s:Shared)(Q:VK)(u:Value)(s':Shared):Prop:=
 ∃ v H',s'.os=s.os/\AllBare s'.gens/\Un (frs outer) [] H H' s.heap s'.heap/\HOk P w H' s'.heap/\Zaa v u/\Q v H'
noncomputable def CR (CX:CXT)(outer:List Env)(P:Program)(w:World)(H:Hp)(s:Shared)(Q:VK)(E:XK)(r:Result)(s':Shared):Prop:=
 match r with
 | .ok (.ret u)=>CE outer P w H s Q u s'
 | .ok _=>False
 | .error e=>CX outer H s E e s'
structure FnOk (P:Program) (w:World) (K:PySem.W.Frag) (mg:Str->Option Value) (base:Heap) (CX:CXT) (k:Nat) (f:Addr) (fd:FuncData) (ps:List Str) (sp:Sp):Prop where
 len: ∀ vs H Q E,sp vs H Q E->vs.length=ps.length
 run: ∀ (A:Around) (outer:List Env) (s:Shared) (H:Hp) (args:Args) (us:List Value) (vs:List V) (Q:VK) (E:XK),Room k A->Env0 P w K mg base A outer s H->BindsTo s fd args (ps.zip us)->ZX vs us->sp vs H Q E->
  codeAny (model P w) A (.call (.ref f) args) (CR CX outer P w H s Q E) s
theorem Env0.make {P:Program}{w:World}{K:PySem.W.Frag}{mg:Str->Option Value}{base:Heap}{A:Around}{outer:List Env}{s:Shared}{H:Hp}(e:Env0 P w K mg base A outer s H)(C:Addr)(us:List Value)(kw:List (Str × Value)):
  Env0 P w K mg base (A.under (.builtin "type.__call__" ⟨.ref C :: us,kw⟩)) outer s H:=⟨by first | exact e.frames | (simpa [Around.under,Code.envs,Code.isFrame,pushEnvs] using e.frames),e.mod,e.bs,e.bsz,e.funs,e.frf,e.hok,e.bare,e.qd⟩
section
variable {X:Cx}{pins:List (Addr × Obj)}{σ:St}{H:Hp}{s s':Shared}
theorem Inv.env0 (I:Inv X pins σ H s):Env0 X.prog X.w X.K X.mg X.base X.A X.stack s H:=
 ⟨I.ok.frames,I.ok.mod,I.bs,Nat.le_trans I.ok.bsz I.sz,I.stack,I.stkFree,I.hok,I.bare,I.qd⟩
theorem Inv.after {Q:VK}{u:Value}(I:Inv X pins σ H s)(h:CE X.stack X.prog X.w H s Q u s'):EP X pins σ Q u s':=by
 obtain ⟨v,H',os,bare,un,hok,r,q⟩:=h
 obtain ⟨hh,g,d,t,os'⟩:=s'
 obtain rfl:os'=s.os:=os
 exact ⟨v,H',I.call (h':=hh) (g':=g) (d':=d) (t':=t) (ch:=[]) un hok bare (fun b z=>absurd z (by simp)),r,q⟩
end
noncomputable def Zp0 (sp:Sp)(dvs:List V)(E:XK)(t:TA):TE:=fun σ H Q=>t σ H fun vs H1=>sp (vs ++ dvs) H1 Q E
noncomputable def Zdz (K:PySem.W.Frag)(fd:FuncData)(ps:List Str)(ds:List Value):Prop:=
 ∀ (s:Shared) (us:List Value),K.In s.heap->(us ++ ds).length=ps.length->BindsTo s fd ⟨us,[]⟩ (ps.zip (us ++ ds))
theorem Zdz.all {K:PySem.W.Frag}{fd:FuncData}{ps:List Str}(h: ∀ us:List Value,us.length=ps.length->bindArgs fd ⟨us,[]⟩=pure (ps.zip us)):Zdz K fd ps []:=fun s us _ hl=>by
 rw[List.append_nil] at hl ⊢;exact .of_eq (h us hl)
noncomputable def Zg7 (CX:CXT)(X:Cx)(E:XK):Prop:= ∀ (pins:List (Addr × Obj)) (σ:St) (H:Hp) (s:Shared) (e:Value) (s':Shared),Inv X pins σ H s->CX X.stack H s E e s'->X.xe e s'
section
variable {X:Cx}{CX:CXT}{k:Nat}{f C:Addr}{fd:FuncData}{ps:List Str}{sp:Sp}{dvs:List V}{ds:List Value}{E:XK}{x m:Str}{p pos apos:Pos}{e o:Expr}{es:List Expr}{ta:TE}{t:TA}
theorem ZmW {pins:List (Addr × Obj)}{σ:St}{H:Hp}{s:Shared}{Q:VK}{us:List Value}{vs:List V}(F:FnOk X.prog X.w X.K X.mg X.base CX k f fd ps sp)(hr:Room k X.A)(hb:Zdz X.K fd ps ds)(hd:ZX dvs ds)(hx:Zg7 CX X E)
  (I:Inv X pins σ H s) (r:ZX vs us) (h:sp (vs ++ dvs) H Q E):wpAny (model X.prog X.w) X.A (call (.ref f) us) (EP X pins σ Q) X.xe s:=by
 have r2:ZX (vs ++ dvs) (us ++ ds):=r.append hd
 have hl:(us ++ ds).length=ps.length:=by rw[<- r2.length];exact F.len _ _ _ _ h
 refine wpAny_call (codeAny_mono (F.run X.A X.stack s H ⟨us,[]⟩ (us ++ ds) (vs ++ dvs) Q E hr I.env0 (hb s us I.kIn hl) r2 h) fun r s' hq=> ?_)
 cases r with
 |error e=>exact hx pins σ H s e s' I hq
 |ok fl=>
  cases fl with
  |ret u=>exact I.after hq
  |next=>exact False.elim hq
  |brk=>exact False.elim hq
  |cont=>exact False.elim hq
theorem Zk0 (F:FnOk X.prog X.w X.K X.mg X.base CX k f fd ps sp)(hr:Room k X.A)(hg:Gl X x)(hm:X.mg x=some (.ref f))(hk:PySem.W.keepIn X.K (.ref f)=true)(hb:Zdz X.K fd ps ds)(hd:ZX dvs ds)(hx:Zg7 CX X E)
  (ha:PA X (e :: es) t) (hdb:(x == ("__debug__":Str))=false:=by decide) (he:starEach (e :: es) X.env=(false,eval e X.env) :: starEach es X.env:=by rfl) (hpl:(backTo pos (starEach es X.env)).any (·.1)=false:=by rfl):
  PE X (.Call (.Name x p) (e :: es) [] pos) (Zp0 sp dvs E t):=by
 intro pins s σ H Q I h;refine wpAny_Call_Name_kw (Zdw I hg hm ?_ hdb)
 refine PySem.W.callWith_K (h₀:=X.base) I.ok.mod.kin hk (thn (ha pos pins s σ H _ I h) fun us s1 ⟨vs,H1,I1,r,q⟩=>⟨I1.kIn,?_⟩) he hpl
 exact ZmW F hr hb hd hx I1 r q
end
section
variable {X:Cx}{CX:CXT}{k:Nat}{f C:Addr}{fd:FuncData}{ps ks:List Str}{sp:Sp}{E:XK}{x m:Str}{p pos apos kpos:Pos}{e o:Expr}{es:List Expr}{kws:List Keyword}{te ta:TE}{t tk:TA}{nm:Option Str}
variable {g:List Value->List Value->List Value}{gV:List V->List V->List V}
end
structure FnScope (N P:List Str) (sc:Scope):Prop where
 kind:sc.kind= .function
 co:sc.isCoroutine=false
 gen:sc.isGenerator=false
 nd:N.Nodup
 pre:N.take P.length=P
 par: ∀ x∈P,sc.names.lookup x=some .local\/sc.names.lookup x=some .cell
 nofree: ∀ y∈sc.names,y.2≠ .free
theorem Zea {kindOf:Str->Option NameKind}{x:Str}: ∀ {binds:List (Str × Value)} {m:Str->Option Value},(∀ v,(x,v) ∉ binds)->bindL kindOf binds m x=m x
 | [],_,_=>rfl
 | (n,v) :: r,m,h=>by
  unfold bindL;rw[Zea fun w hw=>h w (List.mem_cons_of_mem _ hw)]
  split
  ·have:x≠n:=by rintro rfl;exact h v List.mem_cons_self
   simp[this]
  ·rfl
theorem Zeb {kindOf:Str->Option NameKind}{x:Str}: ∀ {binds:List (Str × Value)} {m:Str->Option Value},(∀ v,(x,v) ∉ binds)->bindC kindOf binds m x=m x
 | [],_,_=>rfl
 | (n,v) :: r,m,h=>by
  unfold bindC;rw[Zeb fun w hw=>h w (List.mem_cons_of_mem _ hw)]
  split
  ·rfl
  ·have:x≠n:=by rintro rfl;exact h v List.mem_cons_self
   simp[this]
theorem Zec {kindOf:Str->Option NameKind}{x:Str}{v:Value}: ∀ {P:List Str} {vs:List Value} {i:Nat} {m:Str->Option Value},P.Nodup->P[i]?=some x->vs[i]?=some v->kindOf x=some .local->
  bindL kindOf (P.zip vs) m x=some v
 | [],_,_,_,_,h,_,_=>by simp at h
 |_ :: _,[],_,_,_,_,h,_=>by simp at h
 |p :: P,w :: vs,0,m,nd,h1,h2,hk=>by
  simp at h1 h2;subst h1;subst h2
  show bindL kindOf ((p,w) :: P.zip vs) m p=_
  unfold bindL;rw[Zea fun v hv=>(List.nodup_cons.mp nd).1 (List.of_mem_zip hv).1,if_pos hk]
  simp
 |p :: P,w :: vs,i + 1,m,nd,h1,h2,hk=>by
  show bindL kindOf ((p,w) :: P.zip vs) m x=_
  unfold bindL;exact Zec (i:=i) (List.nodup_cons.mp nd).2 (by simpa using h1) (by simpa using h2) hk
theorem Zed {kindOf:Str->Option NameKind}{x:Str}{v:Value}: ∀ {P:List Str} {vs:List Value} {i:Nat} {m:Str->Option Value},P.Nodup->P[i]?=some x->vs[i]?=some v->kindOf x≠some .local->
  bindC kindOf (P.zip vs) m x=some v
 | [],_,_,_,_,h,_,_=>by simp at h
 |_ :: _,[],_,_,_,_,h,_=>by simp at h
 |p :: P,w :: vs,0,m,nd,h1,h2,hk=>by
  simp at h1 h2;subst h1;subst h2
  show bindC kindOf ((p,w) :: P.zip vs) m p=_
  unfold bindC;rw[Zeb fun v hv=>(List.nodup_cons.mp nd).1 (List.of_mem_zip hv).1,if_neg hk]
  simp
 |p :: P,w :: vs,i + 1,m,nd,h1,h2,hk=>by
  show bindC kindOf ((p,w) :: P.zip vs) m x=_
  unfold bindC;exact Zed (i:=i) (List.nodup_cons.mp nd).2 (by simpa using h1) (by simpa using h2) hk
noncomputable def start (N:List Str)(vs:List V):St:=vs.map some ++ List.replicate (N.length - vs.length) none
noncomputable def Zg8 (CX:CXT)(P:Program)(w:World)(K:PySem.W.Frag)(mg:Str->Option Value)(base:Heap)(N:List Str)(qual:Str)(scope:Scope)(f:Addr)(cd:Value)(A:Around)(outer:List Env)(s:Shared)(H:Hp)(E:XK):Cx where
 prog:=P
 w:=w
 K:=K
 mg:=mg
 base:=base
 A:=A.deeper (envOfC qual scope s.heap.objs.size f cd)
 N:=N
 s₀:=s
 H₀:=H
 env:=envOfC qual scope s.heap.objs.size f cd
 outer:=outer
 stack:=envOfC qual scope s.heap.objs.size f cd :: outer
 ex:=[]
 calm:=A.handled.isNone
 fxs:=none
 fn:=fun _=>true
 pn:=[]
 xe:=fun e s'=>wpAny (model P w) (A.deeper (envOfC qual scope s.heap.objs.size f cd)) (leaving (envOfC qual scope s.heap.objs.size f cd) e) (fun _ s''=>CX outer H s E e s'') (fun e' s''=>CX outer H s E e' s'') s'
theorem Zfv {sc:Scope}{n:Nat}{x:Str}(h:sc.names.lookup x=some .cell): ∃ c,(cellsFrom n sc.names []).lookup x=some c:=by
 have q:=PySem.W.cellsFrom_some sc.names n [] (.inl h)
 exact Option.isSome_iff_exists.mp q
theorem Zg9 {CX:CXT}{P:Program}{w:World}{K:PySem.W.Frag}{mg:Str->Option Value}{base:Heap}{N ps:List Str}{qual:Str}{scope:Scope}{f:Addr}{cd:Value}{A:Around}{outer:List Env}{s s1:Shared}{H:Hp}{E:XK}{us:List Value}{vs:List V}
  (S:FnScope N ps scope) (e0:Env0 P w K mg base A outer s H) (hl:vs.length=ps.length) (r:ZX vs us)
  (x:InCallC s s.heap.objs.size (bindL (envOfC qual scope s.heap.objs.size f cd).kindOf (ps.zip us) fun _=>none) (cellsFrom (s.heap.objs.size + 1) scope.names []) (bindC (envOfC qual scope s.heap.objs.size f cd).kindOf (ps.zip us) fun _=>none) s1):
  Inv (Zg8 CX P w K mg base N qual scope f cd A outer s H E) [] (start N vs) H s1:=by
 have hpl:ps.length<=N.length:=by have:=congrArg List.length S.pre;rw[List.length_take] at this;omega
 obtain ⟨h1,tk,rfl,hk⟩:=x.done
 have noA: ∀ b:Addr,b ∉ (Zg8 CX P w K mg base N qual scope f cd A outer s H E).ex:=fun b z=>absurd (show b∈([]:List Addr) from z) (by simp)
 refine ⟨⟨e0.mod,S.kind,rfl,rfl,Nat.le_refl _,fun y z c h1 h2=> ?_,fun y hy=> ?_,fun y c _ h=> ?_,fun z=>Option.isNone_iff_eq_none.mp z,Around.frames_deeper e0.frames,.inr ⟨rfl,rfl⟩,fun b z=>absurd z (noA b),e0.bs,e0.bsz,fun b _ _=>noA b,fun b z=>absurd z (noA b),e0.funs,e0.frf⟩,
  rfl,e0.bare,Un.kept hk,⟨_,x.toInCall.ns,fun i y v h1 h2 h3=> ?_⟩,fun y c h=>⟨_,x.cell y c h⟩,e0.hok.fresh (Nat.le_refl _),fun y c h=> ?_,fun p hp=>absurd (show p∈([]:List (Addr × Obj)) from hp) (by simp),e0.hok.kept hk,?_,e0.qd,.free rfl⟩
 ·exact name_of_addr x.apart (PySem.mem_of_lookup h1) (PySem.mem_of_lookup h2)
 ·have hy:scope.names.lookup y=some .cell\/scope.names.lookup y=some .free:=hy
  rcases hy with hy | hy
  ·exact Zfv hy
  ·exact absurd rfl (S.nofree _ (PySem.mem_of_lookup hy))
 ·exact Nat.le_of_lt (x.above y c (PySem.mem_of_lookup h))
 ·have hi:i < vs.length:=by
   unfold start at h2
   by_cases hi:i < vs.length
   ·exact hi
   ·rw[List.getElem?_append_right (by simpa using hi)] at h2
    rw[List.getElem?_replicate] at h2
    split at h2<;>cases h2
  have ha:vs[i]?=some v:=by
   unfold start at h2;rw[List.getElem?_append_left (by simpa using hi),List.getElem?_map] at h2
   cases e:vs[i]? with
   |none=>rw[e] at h2;cases h2
   |some a=>rw[e] at h2;cases h2;rfl
  obtain ⟨u,hu,rv⟩:=r.get ha
  have hp:ps[i]?=some y:=by
   rw[<- S.pre,List.getElem?_take_of_lt (by omega)];exact h1
  have ndP:ps.Nodup:=by rw[<- S.pre];exact S.nd.sublist (List.take_sublist _ _)
  refine ⟨u,rv,?_⟩
  rcases S.par y (List.mem_of_getElem? hp) with k | k
  ·exact .inl ⟨k,Zec ndP hp hu k⟩
  ·obtain ⟨c,e⟩:=Zfv (n:=s.heap.objs.size + 1) k
   refine .inr ⟨.inl k,c,e,?_⟩
   have q:=x.cell y c e
   rw[Zed ndP hp hu (by show scope.names.lookup y≠_;rw[k];decide)] at q
   exact q
 ·exact e0.hok.fresh (Nat.le_of_lt (x.above y c (PySem.mem_of_lookup h)))
 ·unfold start
  show _=N.length
  rw[List.length_append,List.length_map,List.length_replicate];omega
theorem ZmX {CX:CXT}{P:Program}{w:World}{K:PySem.W.Frag}{mg:Str->Option Value}{base:Heap}{k:Nat}{f:Addr}{name qual:Str}{params:Arguments}{body:List Stmt}{scope:Scope}{dV kV doc pm cdv ct oc:Value}{an od:Option Addr}
  {osl:Array (Option Value)} {N ps:List Str} {sp:Sp} (lk:K.lookup f=some ⟨oc,od,.func (PySem.W.fnOf name qual params body scope dV kV doc pm an cdv ct),osl⟩) (hcd:PySem.W.codeIn K cdv qual=true) (S:FnScope N ps scope)
  (len: ∀ vs H Q E,sp vs H Q E->vs.length=ps.length)
  (hbody: ∀ (A:Around) (outer:List Env) (s:Shared) (H:Hp) (vs:List V) (Q:VK) (E:XK),Room k (A.deeper (envOfC qual scope s.heap.objs.size f cdv))->sp vs H Q E->
   ∃ t,PSs (Zg8 CX P w K mg base N qual scope f cdv A outer s H E) body t/\t { nx:=fun _ H'=>Q .non H',rt:=Q } (start N vs) H):
  FnOk P w K mg base CX (k + 1) f (PySem.W.fnOf name qual params body scope dV kV doc pm an cdv ct) ps sp:=by
 refine ⟨len,fun A outer s H args us vs Q E hr e0 hb r hsp=> ?_⟩
 have hl:=len _ _ _ _ hsp
 have KX:K.In s.heap:=e0.mod.kin.keeps fun b o e=>(e0.bs b o e).1
 have lim:s.heap.NoLimit:=e0.mod.nolimit.keeps fun b o e=>(e0.bs b o e).1
 have hkind: ∀ y∈ps.zip us,scope.names.lookup y.1=some .local\/(scope.names.lookup y.1=some .cell/\((cellsFrom (s.heap.objs.size + 1) scope.names []).lookup y.1).isSome=true):=fun ⟨n,v⟩ hy=>by
  rcases S.par n (List.of_mem_zip hy).1 with q | q
  ·exact .inl q
  ·exact .inr ⟨q,PySem.W.cellsFrom_some _ _ _ (.inl q)⟩
 refine codeAny_call_function hr.depth (KX _ _ lk) rfl S.co S.gen rfl (PySem.W.codeRec_of KX hcd) (hb _ _ _ _ ?_)
 refine wpAny_newFunctionEnv_cells S.kind hkind fun env he s1 x=> ?_
 subst he;refine ⟨lim.keeps x.toInCall.keep,codeAny_func ?_⟩
 obtain ⟨t,ht,hq⟩:=hbody A outer s H vs Q E (hr.deeper _) hsp
 have I:Inv (Zg8 CX P w K mg base N qual scope f cdv A outer s H E) [] (start N vs) H s1:=Zg9 S e0 hl r x
 refine wpAny_mono (ht [] s1 (start N vs) H _ I hq) (fun fl s' hs=> ?_) fun e s' hs=>hs
 have fin: ∀ {σ':St} {H':Hp} {v:V} {u:Value},Inv (Zg8 CX P w K mg base N qual scope f cdv A outer s H E) [] σ' H' s'->Zaa v u->Q v H'->CE outer P w H s Q u s':=
  fun {σ' H' v u} J rv q=>⟨v,H',J.os,J.bare,J.base,J.hok,rv,q⟩
 cases fl with
 |ret u=>
  obtain ⟨v,σ',H',J,rv,q⟩:=hs
  exact fin J rv q
 |next=>
  obtain ⟨σ',H',J,q⟩:=hs
  exact fin (v:=V.non) (u:=Value.none) J rfl q
 |brk=>
  obtain ⟨_,_,_,q⟩:=hs
  exact False.elim q
 |cont=>
  obtain ⟨_,_,_,q⟩:=hs
  exact False.elim q
end L2
namespace L2
open PySem PySem.Spec PyProof.Rows
section
variable {X:Cx}{x:Str}{p pos:Pos}{e:Expr}{es:List Expr}{t:TA}{id T:String}{r:List V->Hp->VK->Prop}
noncomputable def tCB (r:List V->Hp->VK->Prop)(t:TA):TE:=fun σ H Q=>t σ H fun vs H1=>r vs H1 Q
theorem Zfw (hc:ZbS X (.builtin id) r)(hg:Gl X x)(hm:X.mg x=none)(hv:bootBuiltins x=some (.builtin id))(ha:PA X (e :: es) t)(hn:x≠"__name__":=by decide)(hdb:(x == ("__debug__":Str))=false:=by decide)
  (he:starEach (e :: es) X.env=(false,eval e X.env) :: starEach es X.env:=by rfl) (hpl:(backTo pos (starEach es X.env)).any (·.1)=false:=by rfl):PE X (.Call (.Name x p) (e :: es) [] pos) (tCB r t):=by
 intro pins s σ H Q I h;refine wpAny_Call_Name_kw (Zcn I hg hm hv ?_ hn hdb)
 exact PyProof.Rows.callWith_builtin1 (thn (ha pos pins s σ H _ I h) fun us s1 ⟨vs,H1,I1,r1,q1⟩=>hc pins s1 σ H1 vs us Q I1 r1 q1) he hpl
theorem Zha (hc:ZbS X (.type T) r)(hg:Gl X x)(hm:X.mg x=none)(hv:bootBuiltins x=some (.type T))(ha:PA X (e :: es) t)(hn:x≠"__name__":=by decide)(hdb:(x == ("__debug__":Str))=false:=by decide)
  (he:starEach (e :: es) X.env=(false,eval e X.env) :: starEach es X.env:=by rfl) (hpl:(backTo pos (starEach es X.env)).any (·.1)=false:=by rfl):PE X (.Call (.Name x p) (e :: es) [] pos) (tCB r t):=by
 intro pins s σ H Q I h;refine wpAny_Call_Name_kw (Zcn I hg hm hv ?_ hn hdb)
 exact PyProof.Rows.callWith_type1 (thn (ha pos pins s σ H _ I h) fun us s1 ⟨vs,H1,I1,r1,q1⟩=>hc pins s1 σ H1 vs us Q I1 r1 q1) he hpl
end
end L2
namespace HT
open PySem PyProof.Rows
noncomputable def Zbf:List Int->List Int->Bool
 | [],[]=>false
 | [],_ :: _=>true
 |_ :: _,[]=>false
 |x :: xs,y :: ys=>if x=y then Zbf xs ys else decide (x < y)
theorem ZaR (x y:Int)(xs ys:List Int):Zbf (x :: xs) (y :: ys)=if x=y then Zbf xs ys else decide (x < y):=rfl
theorem Zi7 (A:Around)(s:Shared)(a:Int)(t:Tok)(c:Int)(u:Tok): ∃ e,SeqAt.EqAt A s (.int a t) (.int c u) e/\(e=true ↔ a=c):=
 ⟨(a == c),SeqAt.EqAt.int_int a t c u,by simp⟩
theorem Zi8 (A:Around)(s:Shared)(a:Int)(t:Tok)(c:Int)(u:Tok)(prog:Program)(w:World)(E:Value->Shared->Prop)(Q:Value->Shared->Prop)(h:Q (.bool (decide (a < c))) s):
  wpAny (model prog w) A (richCompare .Lt (.int a t) (.int c u)) Q E s:=
 (PyProof.Rows.lt_int h:wpAny (model prog w) A (compareOp .Lt (.int a t) (.int c u)) Q E s)
section
open PySem.SeqAt
open PySem.AutoSeq1 (wpAny_loadPart')
open PySem.MeetsSeq PySem.MeetsSeq2 PySem.MeetsSeq3
end
section
variable {prog:Program}{w:World}{A:Around}{E:Value->Shared->Prop}{s:Shared}
theorem Zk1 {t b:Addr}{vs ws:List Value}{Q:Value->Shared->Prop}(ht:IsTup s.heap t vs.toArray)(hb:IsTup s.heap b ws.toArray)(hv:vs≠[])
  (h1:ws=[]->Q (.ref t) s) (h2:ws≠[]->Q (.ref s.heap.objs.size) { s with heap:=s.heap.push { cls:= .type "tuple",data:= .seq (vs ++ ws).toArray } })
  (hsz:vs.length + ws.length<=sizeLine):wpAny (model prog w) A (binaryOp .Add (.ref t) (.ref b)) Q E s:=by
 obtain ⟨⟨cls,dd,data,sl⟩,ho,hc,n,hd⟩:=id ht
 obtain ⟨⟨cls2,dd2,data2,sl2⟩,ho2,hc2,n2,hd2⟩:=id hb
 simp only at hc hd hc2 hd2
 subst hc hd hc2 hd2;have e:vs.toArray ++ ws.toArray=(vs ++ ws).toArray:=by simp
 by_cases hw:ws=[]
 ·exact concat_meets ⟨_,ho,rfl⟩ ⟨_,ho2,rfl⟩ noFill_tuple_add seq_tuple_add PySem.F.slot_tuple_add PySem.F.entry_tuple_add (PySem.F.args_tuple_add_2 _ _)
   (tuple_addW1 t b vs.toArray ws.toArray n n2 dd dd2 sl sl2 (by simpa using hv) (by simp[hw])) ⟨ho,ho2,h1 hw⟩
 ·refine concat_meets ⟨_,ho,rfl⟩ ⟨_,ho2,rfl⟩ noFill_tuple_add seq_tuple_add PySem.F.slot_tuple_add PySem.F.entry_tuple_add (PySem.F.args_tuple_add_2 _ _)
   (tuple_addW2 t b vs.toArray ws.toArray n n2 dd dd2 sl sl2 (by simpa using hv) (by simpa using hw) (by rw[List.size_toArray,List.size_toArray];exact hsz)) ⟨ho,ho2,?_⟩
  rw[e];exact h2 hw
noncomputable def sIx (n d:Nat):Option Int->Nat
 |none=>d
 |some v=>if v < 0 then (v + (n:Int)).toNat else min v.toNat n
theorem ZmY (n d:Nat)(hd:d<=n)(o:Option Int):sIx n d o<=n:=by
 cases o with
 |none=>exact hd
 |some v=>
  show (if v < 0 then (v + (n:Int)).toNat else min v.toNat n)<=n
  by_cases hv:v < 0
  ·rw[if_pos hv];omega
  ·rw[if_neg hv];exact Nat.min_le_right _ _
theorem Zhb (v:Int)(n d:Nat):(if v < 0 then max (v + (n:Int)) 0 else min v (n:Int))=((sIx n d (some v):Nat):Int):=by
 show (if v < 0 then max (v + (n:Int)) 0 else min v (n:Int))=(((if v < 0 then (v + (n:Int)).toNat else min v.toNat n):Nat):Int)
 by_cases hv:v < 0
 ·simp only[if_pos hv];omega
 ·simp only[if_neg hv];omega
theorem Zgh (lo hi:Option Int)(n:Nat):Builtin.Slice.sliceAdjust lo hi 1 (n:Int)=(((sIx n 0 lo:Nat):Int),((sIx n n hi:Nat):Int)):=by
 have h1: ¬ ((1:Int) < 0):=by omega
 unfold Builtin.Slice.sliceAdjust;simp only[h1,if_false];refine Prod.ext ?_ ?_
 ·cases lo with
  |none=>rfl
  |some v=>exact Zhb v n 0
 ·cases hi with
  |none=>rfl
  |some v=>exact Zhb v n n
theorem Zgi (i j:Nat):Builtin.Slice.slicePlaces (i:Int) (j:Int) 1=j - i:=by
 unfold Builtin.Slice.slicePlaces;have h1:(1:Int) > 0:=by omega
 simp only[h1,if_true,Int.ediv_one]
 split<;>omega
theorem Zdk {v:Value}{o:Option Int}{Q:Option Int->Shared->Prop}(p:IsPart v o)(h:Q o s):wpAny (model prog w) A (Builtin.Slice.slicePartIndex v) Q E s:=by
 cases p with
 |none=>exact slicePart_none h
 |int i t=>exact slicePart_int h
theorem Zcz {sl:Addr}{vl vu:Value}{lo hi:Option Int}{n:Nat}{Q:Int × Int × Nat->Shared->Prop}(hs:s.heap.IsSliceOf sl vl vu .none)(pl:IsPart vl lo)(pu:IsPart vu hi)
  (h:Q (((sIx n 0 lo:Nat):Int),1,sIx n n hi - sIx n 0 lo) s):wpAny (model prog w) A (Builtin.Slice.sliceApplied (.ref sl) (pure (n:Int))) Q E s:=by
 obtain ⟨os,hos,hcs,hds⟩:=id hs
 unfold Builtin.Slice.sliceApplied Builtin.Slice.sliceFields;refine wpAny_bind (wpAny_bind (wpAny_field hos hds (x:=vl) rfl (wpAny_bind (wpAny_field hos hds (x:=vu) rfl (wpAny_bind (wpAny_field hos hds (x:= .none) rfl (wpAny_pure ?_)))))))
 refine wpAny_bind (slicePart_none ?_)
 show wpAny _ _ (if ((1:Int) == 0)=true then _ else _) _ _ s
 rw[if_neg (by decide)]
 refine wpAny_bind (Zdk pl (wpAny_bind (Zdk pu (wpAny_bind (wpAny_pure ?_)))))
 show wpAny _ _ (match Builtin.Slice.sliceAdjust lo hi 1 (n:Int) with | (lo,hi)=>pure (lo,(1:Int),Builtin.Slice.slicePlaces lo hi 1)) _ _ s
 rw[Zgh lo hi n];show wpAny _ _ (pure (((sIx n 0 lo:Nat):Int),(1:Int),Builtin.Slice.slicePlaces ((sIx n 0 lo:Nat):Int) ((sIx n n hi:Nat):Int) 1)) _ _ s
 rw[Zgi];exact wpAny_pure h
theorem Zi9 (xs:Array Value)(i k:Nat):((List.range k).filterMap fun (m:Nat)=>xs[((i:Int) + (m:Int) * 1).toNat]?).toArray=((xs.toList.drop i).take k).toArray:=by
 have e:(fun (m:Nat)=>xs[((i:Int) + (m:Int) * 1).toNat]?)=fun m=>xs[i + m]?:=by
  funext m
  have:((i:Int) + (m:Int) * 1).toNat=i + m:=by omega
  rw[this]
 rw[e]
 have:=pick_run xs i k
 rw[List.filterMap_map] at this;have e2:((fun x=>xs[x]?) ∘ fun x=>i + x)=fun m=>xs[i + m]?:=rfl
 rw[e2] at this;rw[this]
theorem Zcc {t sl:Addr}{items:Array Value}{vl vu:Value}{lo hi:Option Int}{Q:Value->Shared->Prop}(ht:IsTup s.heap t items)(hs:s.heap.IsSliceOf sl vl vu .none)(pl:IsPart vl lo)(pu:IsPart vu hi)
  (hw: ¬ (sIx items.size 0 lo=0/\sIx items.size items.size hi=items.size))
  (h:Q (.ref s.heap.objs.size) { s with heap:=s.heap.push { cls:= .type "tuple",data:= .seq ((items.toList.drop (sIx items.size 0 lo)).take (sIx items.size items.size hi - sIx items.size 0 lo)).toArray } })
  (hsz:items.size<=sizeLine):wpAny (model prog w) A (getItem (.ref t) (.ref sl)) Q E s:=by
 have htake:sizeOk (.seq ((items.toList.drop (sIx items.size 0 lo)).take (sIx items.size items.size hi - sIx items.size 0 lo)).toArray):=by
  show ((items.toList.drop (sIx items.size 0 lo)).take (sIx items.size items.size hi - sIx items.size 0 lo)).toArray.size<=sizeLine
  rw[List.size_toArray,List.length_take,List.length_drop,Array.length_toList];omega
 have hj:sIx items.size items.size hi<=items.size:=ZmY _ _ (Nat.le_refl _) hi
 obtain ⟨os,hos,hcs,hds⟩:=id hs
 have hTs:s.TypeIs (.ref sl) "slice":=⟨os,hos,hcs⟩
 unfold getItem
 try with_reducible refine wpAny_holding ?_
 first | refine wpAny_bind (wpAny_pure ?_) | skip
 refine wpAny_bind (wpAny_sequenceKey ht.typeIs (by decide) ?_)
 refine wpAny_bind (wpAny_callSpecial?_slot (name:=Str.ofString "__getitem__") ht.typeIs PyProof.Rows.slot_tuple_getitem
  (wpAny_call_entry PyProof.Rows.slot_tuple_getitem ht.typeIs entry_tuple_getitem ?_ (args_tuple_getitem _ _)))
 show wpAny _ _ (Builtin.Tuple.tupleItemsOf (.ref t) >>= _) _ _ s
 refine wpAny_bind (tupleItemsOf_ ht ?_)
 refine wpAny_bind (wpAny_typeOf hTs ?_)
 rw[if_pos (by decide)]
 refine wpAny_bind (Zcz hs pl pu ?_)
 have hno: ¬ ((((sIx items.size 0 lo:Nat):Int) == 0 && (1:Int) == 1 && (sIx items.size items.size hi - sIx items.size 0 lo) == items.size)=true):=by
  intro q;rw[Bool.and_eq_true,Bool.and_eq_true] at q;have q1:((sIx items.size 0 lo:Nat):Int)=0:=eq_of_beq q.1.1
  have q2:sIx items.size items.size hi - sIx items.size 0 lo=items.size:=eq_of_beq q.2
  exact hw ⟨by omega,by omega⟩
 show wpAny _ _ (if (((sIx items.size 0 lo:Nat):Int) == 0 && (1:Int) == 1 && (sIx items.size items.size hi - sIx items.size 0 lo) == items.size)=true then _ else _) _ _ s
 rw[if_neg hno,Zi9]
 first
  |exact wpAny_bind (m:=Builtin.Tuple.tupleExact _) (wpAny_newObj_type (wpAny_pure ⟨_,rfl,wpAny_pure h⟩) htake)
  |exact wpAny_bind (m:=Builtin.Tuple.tupleExact _) (wpAny_newObj_type (wpAny_bind (wpAny_pure (wpAny_pure ⟨_,rfl,wpAny_pure h⟩))) htake)
  |exact wpAny_bind (wpAny_bind (m:=Builtin.Tuple.tupleExact _) (wpAny_newObj_type (wpAny_pure (wpAny_pure ⟨_,rfl,wpAny_pure h⟩)) htake))
  |exact wpAny_bind (wpAny_bind (m:=Builtin.Tuple.tupleExact _) (wpAny_newObj_type (wpAny_pure ⟨_,rfl,wpAny_pure h⟩) htake))
end
end HT
namespace L2
open PySem PySem.Spec PyProof.Rows
noncomputable abbrev TO:=St->Hp->(Option Int->Hp->Prop)->Prop
noncomputable def PO (X:Cx)(e:Option Expr)(t:TO):Prop:=
 ∀ (pins:List (Addr × Obj)) (s:Shared) (σ:St) (H:Hp) (Q:Option Int->Hp->Prop),Inv X pins σ H s->t σ H Q->
  wpAny (model X.prog X.w) X.A (evalPart e X.env) (fun u s'=> ∃ o H',Inv X pins σ H' s'/\IsPart u o/\Q o H') X.xe s
noncomputable def tNoPart:TO:=fun _ H Q=>Q none H
noncomputable def Zp1 (t:TE):TO:=fun σ H Q=>t σ H fun x H1=> ∃ i,x= .int i/\Q (some i) H1
theorem Zgj {ns:List Int}: ∀ {us:List Value},ZX (ns.map V.int) us->IntsAre us ns:=by
 induction ns with
 |nil=>intro us r;rw[List.map_nil] at r;cases r;exact .nil
 |cons n ns ih=>
  intro us r;rw[List.map_cons] at r;cases r with
  |cons r1 r2=>
   obtain ⟨t,e⟩:=r1
   subst e;exact .cons n t (ih r2)
section
variable {X:Cx}{e:Expr}{te:TE}{lo hi:Option Expr}{tl th:TO}{pos p2:Pos}
theorem Zk2:PO X none tNoPart:=by
 intro pins s σ H Q I h;rw[evalPart_none];exact wpAny_pure ⟨none,H,I,.none,h⟩
theorem Zk3 (h:PE X e te):PO X (some e) (Zp1 te):=by
 intro pins s σ H Q I hw;rw[evalPart_some];refine thn (h pins s σ H _ I hw) fun u s1 ⟨x,H1,I1,r1,q1⟩=> ?_
 obtain ⟨i,rfl,q⟩:=q1
 obtain ⟨t,rfl⟩:=r1
 exact ⟨some i,H1,I1,.int i t,q⟩
noncomputable def SlR (X:Cx)(r:V->Option Int->Option Int->Hp->VK->Prop):Prop:=
 ∀ (pins:List (Addr × Obj)) (s:Shared) (σ:St) (H:Hp) (x:V) (v vl vu:Value) (lo hi:Option Int) (sl:Addr) (Q:VK),Inv X pins σ H s->Zaa x v->s.heap.IsSliceOf sl vl vu .none->IsPart vl lo->IsPart vu hi->r x lo hi H Q->
  ∃ T id,typeLookup (.type T) "__getitem__"=pure (some (.builtin id))/\s.TypeIs v T/\wpAny (model X.prog X.w) X.A (getItem v (.ref sl)) (EP X pins σ Q) X.xe s
theorem SlR.or {r r':V->Option Int->Option Int->Hp->VK->Prop}(h:SlR X r)(h':SlR X r'):SlR X (fun x lo hi H Q=>r x lo hi H Q\/r' x lo hi H Q):=by
 intro pins s σ H x v vl vu lo hi sl Q I rx hs pl pu q
 rcases q with q | q
 ·exact h pins s σ H x v vl vu lo hi sl Q I rx hs pl pu q
 ·exact h' pins s σ H x v vl vu lo hi sl Q I rx hs pl pu q
noncomputable def tSl (r:V->Option Int->Option Int->Hp->VK->Prop)(te:TE)(tl th:TO):TE:=fun σ H Q=>te σ H fun x H1=>tl σ H1 fun l H2=>th σ H2 fun u H3=>r x l u H3 Q
theorem Zja {r:V->Option Int->Option Int->Hp->VK->Prop}(hr:SlR X r)(he:PE X e te)(hl:PO X lo tl)(hu:PO X hi th):PE X (.Subscript e (.Slice lo hi none p2) pos) (tSl r te tl th):=by
 intro pins s σ H Q I h;refine Subscript_ (thn (he pins s σ H _ I h) fun v s1 ⟨x,H1,I1,r1,q1⟩=> ?_)
 refine wpAny_Slice (thn (hl pins s1 σ H1 _ I1 q1) fun vl s2 ⟨l,H2,I2,pl,q2⟩=>thn (hu pins s2 σ H2 _ I2 q2) fun vu s3 ⟨u,H3,I3,pu,q3⟩=> ?_)
 rw[evalPart_none];refine wpAny_pure ?_
 have I4:Inv X pins σ H3 { s3 with heap:=s3.heap.push { cls:= .type "slice",data:= .fields #[vl,vu,.none] } }:=I3.kept (t':=s3.toks) fun b ob q=>Heap.get?_push_of_some _ q
 obtain ⟨T,id,hT,ht,hg⟩:=hr pins { s3 with heap:=s3.heap.push { cls:= .type "slice",data:= .fields #[vl,vu,.none] } } σ H3 x v vl vu l u s3.heap.objs.size Q I4 r1 (Heap.IsSliceOf.new ..) pl pu q3
 show wpAny (model X.prog X.w) X.A (subscriptTail e (.Slice lo hi none p2) v (.ref s3.heap.objs.size)) (EP X pins σ Q) X.xe { s3 with heap:=s3.heap.push { cls:= .type "slice",data:= .fields #[vl,vu,.none] } }
 exact tail_any (ops:=[.ref s3.heap.objs.size,v]) ht hT hg (by with_unfolding_all rfl)
noncomputable def Zj6 (xs:List V)(lo hi:Option Int):List V:=(xs.drop (HT.sIx xs.length 0 lo)).take (HT.sIx xs.length xs.length hi - HT.sIx xs.length 0 lo)
theorem ZcR (xs:List V)(lo hi:Option Int):(Zj6 xs lo hi).length<=xs.length:=by
 unfold Zj6;rw[List.length_take,List.length_drop];omega
noncomputable def Zs9 (K:PySem.W.Frag):V->Option Int->Option Int->Hp->VK->Prop:=fun x lo hi H Q=> ∃ a xs,x= .ref a/\SqT K H a xs/\
 ¬ (HT.sIx xs.length 0 lo=0/\HT.sIx xs.length xs.length hi=xs.length)/\ ∀ p,H p=none->Q (.ref p) (upd H p (.tup (Zj6 xs lo hi)))
theorem ZmZ:SlR X (Zs9 X.K):=by
 intro pins s σ H x v vl vu lo hi sl Q I rx hs pl pu h;obtain ⟨a,xs,rfl,hx,hw,q⟩:=h
 cases rx
 obtain ⟨its,r,ht,hz⟩:=I.tuple hx
 have hlen:its.toArray.size=xs.length:=by rw[List.size_toArray];exact r.length.symm
 refine ⟨"tuple",_,PyProof.Rows.slot_tuple_getitem.lookup,ht.typeIs,?_⟩
 refine HT.Zcc ht hs pl pu (by rw[hlen];exact hw) ?_ (by rw[hlen];exact hz)
 rw[hlen];refine ⟨.ref s.heap.objs.size,_,I.laid (t':=s.toks) (o:= .tup (Zj6 xs lo hi)) (fun b ob q=>Heap.get?_push_of_some _ q) (Nat.le_refl _) ?_,rfl,q _ (I.hok.fresh (Nat.le_refl _))⟩
 exact ⟨Nat.le_trans (ZcR xs lo hi) hz,_,(r.drop (HT.sIx xs.length 0 lo)).take (HT.sIx xs.length xs.length hi - HT.sIx xs.length 0 lo),IsTup.new _ _⟩
noncomputable def Zk4 (K:PySem.W.Frag):R2:=fun x y H Q=> ∃ a b xs ys,x= .ref a/\y= .ref b/\SqT K H a xs/\SqT K H b ys/\xs≠[]/\xs.length + ys.length<=sizeLine/\
 (ys=[]->Q (.ref a) H)/\(ys≠[]-> ∀ p,H p=none->Q (.ref p) (upd H p (.tup (xs ++ ys))))
theorem ZX.nil_iff {xs:List V}{us:List Value}(r:ZX xs us):us=[] ↔ xs=[]:=by
 cases r with
 |nil=>simp
 |cons _ _=>simp
theorem Zk5:OpR X (binaryOp .Add) (Zk4 X.K):=by
 intro pins s σ H x y v u Q I rx ry h;obtain ⟨a,b,xs,ys,rfl,rfl,ha,hb,hx,hz,q1,q2⟩:=h
 cases rx
 cases ry
 obtain ⟨its,r1,p1,_⟩:=I.tuple ha
 obtain ⟨its2,r2,p2,_⟩:=I.tuple hb
 refine HT.Zk1 p1 p2 (fun z=>hx (r1.nil_iff.mp z)) (fun z=>⟨.ref a,H,I,rfl,q1 (r2.nil_iff.mp z)⟩) (fun z=> ?_) (by rw[<- r1.length,<- r2.length];exact hz)
 refine ⟨.ref s.heap.objs.size,_,I.laid (t':=s.toks) (o:= .tup (xs ++ ys)) (fun b ob q=>Heap.get?_push_of_some _ q) (Nat.le_refl _) ?_,rfl,q2 (fun w=>z (r2.nil_iff.mpr w)) _ (I.hok.fresh (Nat.le_refl _))⟩
 exact ⟨by rw[List.length_append];exact hz,_,r1.append r2,IsTup.new _ _⟩
end
end L2
namespace L2
open PySem PySem.Spec PyProof.Rows
noncomputable def ixN (n:Nat)(i:Int):Option Nat:=if 0<=i then (if i < n then some i.toNat else none) else if -(n:Int)<=i then some (i + n).toNat else none
noncomputable def atI {α:Type}(xs:List α)(i:Int):Option α:=(ixN xs.length i).bind fun j=>xs[j]?
theorem Zhc {n:Nat}{i:Int}{j:Nat}(h:ixN n i=some j):seqIndex? i n=some j/\j < n/\ -(n:Int)<=i/\i < n:=by
 unfold ixN at h
 by_cases h0:0<=i
 ·rw[if_pos h0] at h
  by_cases h1:i < n
  ·rw[if_pos h1] at h
   have e:i.toNat=j:=Option.some.inj h
   exact ⟨by rw[seqIndex_of h0 h1,e],by omega,by omega,h1⟩
  ·rw[if_neg h1] at h;cases h
 ·rw[if_neg h0] at h
  by_cases h1: -(n:Int)<=i
  ·rw[if_pos h1] at h
   have e:(i + n).toNat=j:=Option.some.inj h
   exact ⟨by rw[seqIndex_neg (by omega) h1,e],by omega,h1,by omega⟩
  ·rw[if_neg h1] at h;cases h
theorem Zhd {α:Type}{xs:List α}{i:Int}{v:α}(h:atI xs i=some v): ∃ j,seqIndex? i xs.length=some j/\xs[j]?=some v/\j < xs.length/\ -(xs.length:Int)<=i/\i < xs.length:=by
 unfold atI at h;cases e:ixN xs.length i with
 |none=>rw[e] at h;cases h
 |some j=>
  rw[e] at h;obtain ⟨h1,h2,h3,h4⟩:=Zhc e
  exact ⟨j,h1,h,h2,h3,h4⟩
theorem Zk6 {α:Type}{xs:List α}{j:Nat}{v:α}(h:xs[j]?=some v):atI xs (j:Int)=some v:=by
 have hj:j < xs.length:=(List.getElem?_eq_some_iff.mp h).1
 have e:ixN xs.length (j:Int)=some j:=by
  unfold ixN;rw[if_pos (by omega),if_pos (by omega)];simp
 unfold atI;rw[e];exact h
noncomputable def Zhe (b:Expr):Prop:= ∀ o i,subscripted b false o i=operate [o,i] (getItem o i)
noncomputable def IxR (X:Cx)(r:R2):Prop:=
 ∀ (value slice:Expr) (pins:List (Addr × Obj)) (s:Shared) (σ:St) (H:Hp) (x y:V) (v u:Value) (Q:VK),Inv X pins σ H s->Zaa x v->Zaa y u->r x y H Q->
  subscripted slice false v u=operate [v,u] (getItem v u)->wpAny (model X.prog X.w) X.A (subscriptTail value slice v u) (EP X pins σ Q) X.xe s
noncomputable def MtR (X:Cx)(id:String)(r:V->List V->Hp->VK->Prop):Prop:=
 ∀ (pins:List (Addr × Obj)) (s:Shared) (σ:St) (H:Hp) (x:V) (xs:List V) (v:Value) (us:List Value) (Q:VK),Inv X pins σ H s->Zaa x v->ZX xs us->r x xs H Q->
  wpAny (model X.prog X.w) X.A (call (.builtin id) (v :: us)) (EP X pins σ Q) X.xe s
section
variable {X:Cx}{a b:Expr}{ta tb:TE}{pos:Pos}
theorem IxR.or {r r':R2}(h:IxR X r)(h':IxR X r'):IxR X (fun x y H Q=>r x y H Q\/r' x y H Q):=by
 intro value slice pins s σ H x y v u Q I rx ry q hs
 rcases q with q | q
 ·exact h value slice pins s σ H x y v u Q I rx ry q hs
 ·exact h' value slice pins s σ H x y v u Q I rx ry q hs
theorem Zp2 {r:R2}(hr:IxR X r)(ha:PE X a ta)(hb:PE X b tb)(hs:Zhe b):PE X (.Subscript a b pos) (tOp r ta tb):=by
 intro pins s σ H Q I h;exact Subscript_ (ZpV ha hb I h fun v u s2 x y H2 I2 rx ry q=>hr a b pins s2 σ H2 x y v u Q I2 rx ry q (hs _ _))
noncomputable def ZrT (K:PySem.W.Frag):R2:=fun x y H Q=> ∃ p xs i v,x= .ref p/\y= .int i/\SqL K H p xs/\atI xs i=some v/\Q v H
noncomputable def ZrU (K:PySem.W.Frag):R2:=fun x y H Q=> ∃ p xs i v,x= .ref p/\y= .int i/\SqT K H p xs/\atI xs i=some v/\Q v H
theorem Zk7:IxR X (ZrT X.K):=by
 intro value slice pins s σ H x y v u Q I rx ry h hs;obtain ⟨p,xs,i,z,rfl,rfl,hq,he,q⟩:=h
 cases rx
 obtain ⟨t,rfl⟩:=ry
 obtain ⟨its,r,pl,hz⟩:=I.list hq
 obtain ⟨j,h1,h2,h3,h4,h5⟩:=Zhd he
 obtain ⟨w,ew,rw'⟩:=r.get h2
 have hl:=r.length
 have hn:=Zfu
 have fin:EP X pins σ Q w s:=⟨z,H,I,rw',q⟩
 by_cases h0:0<=i
 ·have hj:i.toNat=j:=by
   rw[seqIndex_of h0 h5] at h1;exact Option.some.inj h1
  exact item_listR pl.isList h0 (by omega) (by rw[hj];simpa using ew) fin hs
 ·have hj:(i + (its.toArray.size:Int)).toNat=j:=by
   rw[seqIndex_neg (by omega) h4] at h1
   rw[List.size_toArray,<- hl];exact Option.some.inj h1
  exact subscriptTail_builtinR (x:=w) pl.isList.typeIs slot_list_getitem.lookup
   (wpAny_getItem_list_neg (Q:=fun r s'=>r=w/\EP X pins σ Q r s') pl.isList (by omega) (by rw[List.size_toArray]<;>omega) (by omega) (by rw[hj];simpa using ew) ⟨rfl,fin⟩) hs
theorem Zm0:IxR X (ZrU X.K):=by
 intro value slice pins s σ H x y v u Q I rx ry h hs;obtain ⟨p,xs,i,z,rfl,rfl,hq,he,q⟩:=h
 cases rx
 obtain ⟨t,rfl⟩:=ry
 obtain ⟨its,r,pl,hz⟩:=I.tuple hq
 obtain ⟨j,h1,h2,h3,h4,h5⟩:=Zhd he
 obtain ⟨w,ew,rw'⟩:=r.get h2
 have hl:=r.length
 have hn:=Zfu
 have fin:EP X pins σ Q w s:=⟨z,H,I,rw',q⟩
 exact subscriptTail_builtinR (x:=w) pl.typeIs slot_tuple_getitem.lookup
  (getItem_tuple (j:=j) (Q:=fun r s'=>r=w/\EP X pins σ Q r s') pl (by omega) (by omega) (by rw[List.size_toArray,<- hl];exact h1) (by simpa using ew) ⟨rfl,fin⟩) hs
theorem Zgk (its:List Value)(n j:Nat)(u:Value):Obj.mapSeq (·.setIfInBounds j u) { cls:= .type "list",data:= .seq its.toArray n }={ cls:= .type "list",data:= .seq (its.set j u).toArray n }:=by
 simp[Obj.mapSeq]
theorem Inv.lst {pins:List (Addr × Obj)}{σ:St}{H:Hp}{s:Shared}{p:Addr}{xs:List V}(I:Inv X pins σ H s)(h:H p=some (.lst xs)):
  ∃ (its:List Value) (n:Nat),ZX xs its/\s.heap.get? p=some { cls:= .type "list",data:= .seq its.toArray n }/\xs.length<=sizeLine:=by
 obtain ⟨z,its,n,r,e⟩:=I.hok p _ h
 exact ⟨its,n,r,e,z⟩
theorem Inv.lstUpd {pins:List (Addr × Obj)}{σ:St}{H:Hp}{s:Shared}{p:Addr}{xs ys:List V}{its its':List Value}{n n':Nat}{f:Obj->Obj}(I:Inv X pins σ H s)(h:H p=some (.lst xs))
  (ho:s.heap.get? p=some { cls:= .type "list",data:= .seq its.toArray n }) (hf:f { cls:= .type "list",data:= .seq its.toArray n }={ cls:= .type "list",data:= .seq its'.toArray n' }) (r:ZX ys its') (hz:ys.length<=sizeLine) (t:Nat):
  Inv X pins σ (upd H p (.lst ys)) { s with heap:=s.heap.update p f,toks:=t }:=by
 have e:(s.heap.update p f).get? p=some { cls:= .type "list",data:= .seq its'.toArray n' }:=by
  rw[Heap.get?_update_self f ho (by rw[hf]<;>rfl),hf]
 refine I.write (x:=p) (e:=p) (by rw[h];trivial) (.inl rfl) (fun b u hb q=>(Heap.get?_update_other _ _ (Ne.symm hb)).trans q) ⟨_,e⟩ ?_
 exact ⟨hz,its',n',r,e⟩
noncomputable def rSetL:V->V->V->Hp->(Hp->Prop)->Prop:=fun o i v H Q=> ∃ p xs k j,o= .ref p/\i= .int k/\H p=some (.lst xs)/\ixN xs.length k=some j/\Q (upd H p (.lst (xs.set j v)))
theorem Zfx:ZrP X rSetL:=by
 intro pins s σ H o i v ov iv u Q I ro ri rv h;obtain ⟨p,xs,k,j,rfl,rfl,hp,hj,q⟩:=h
 cases ro
 obtain ⟨t,rfl⟩:=ri
 obtain ⟨its,n,r,ho,hz⟩:=I.lst hp
 obtain ⟨h1,h2,h3,h4⟩:=Zhc hj
 have hl:=r.length
 have hn:=Zfu
 have I':Inv X pins σ (upd H p (.lst (xs.set j v))) { s with heap:=s.heap.update p (Obj.mapSeq (·.setIfInBounds j u)) }:=
  I.lstUpd hp ho (Zgk its n j u) (r.set rv j) (by rw[List.length_set];exact hz) s.toks
 by_cases h0:0<=k
 ·have hk:k.toNat=j:=by
   rw[seqIndex_of h0 h4] at h1;exact Option.some.inj h1
  exact PySem.W.ki_setAt ho h0 (by omega) (by rw[List.size_toArray,<- hl];exact h4) (by rw[hk];exact ⟨_,I',q⟩)
 ·have hk:(k + (its.toArray.size:Int)).toNat=j:=by
   rw[seqIndex_neg (by omega) h3] at h1
   rw[List.size_toArray,<- hl];exact Option.some.inj h1
  exact PySem.W.ki_setBack ho (by omega) (by rw[List.size_toArray,<- hl];exact h3) (by omega) (by rw[hk];exact ⟨_,I',q⟩)
theorem Zee (lo hi:Option Int)(n:Nat):(sliceBounds lo hi none n).1=((HT.sIx n 0 lo:Nat):Int)/\(sliceBounds lo hi none n).2.1=((HT.sIx n n hi:Nat):Int)/\(sliceBounds lo hi none n).2.2=1:=by
 refine ⟨?_,?_,rfl⟩
 ·cases lo with
  |none=>simp[sliceBounds,HT.sIx]
  |some i=>
   simp only[sliceBounds,HT.sIx,Option.getD_none,show (1:Int) > 0 by decide,if_true]
   by_cases h:i < 0
   ·simp only[h,if_true]<;>omega
   ·simp only[h,if_false]<;>omega
 ·cases hi with
  |none=>simp[sliceBounds,HT.sIx]
  |some i=>
   simp only[sliceBounds,HT.sIx,Option.getD_none,show (1:Int) > 0 by decide,if_true]
   by_cases h:i < 0
   ·simp only[h,if_true]<;>omega
   ·simp only[h,if_false]<;>omega
theorem ZdA (its:List Value)(lo hi:Option Int):slicePick its.toArray lo hi none=((its.drop (HT.sIx its.length 0 lo)).take (HT.sIx its.length its.length hi - HT.sIx its.length 0 lo)).toArray:=by
 obtain ⟨h1,h2,h3⟩:=Zee lo hi its.toArray.size
 unfold slicePick;rw[h1,h2,h3];simp only[sliceRange_one,pick_run,List.size_toArray]<;>rfl
noncomputable def Zta (K:PySem.W.Frag):V->Option Int->Option Int->Hp->VK->Prop:=fun x lo hi H Q=> ∃ a xs,x= .ref a/\SqL K H a xs/\ ∀ p,H p=none->Q (.ref p) (upd H p (.lst (Zj6 xs lo hi)))
theorem Zk8:SlR X (Zta X.K):=by
 intro pins s σ H x v vl vu lo hi sl Q I rx hs pl pu h;obtain ⟨a,xs,rfl,hx,q⟩:=h
 cases rx
 obtain ⟨its,r,ht,hz⟩:=I.list hx
 have hlen:=r.length
 refine ⟨"list",_,slot_list_getitem.lookup,ht.isList.typeIs,?_⟩
 refine wpAny_getItem_list_slice ht.isList hs pl pu .none (by simp) ?_ (by rw[List.size_toArray]<;>omega)
 rw[ZdA,<- hlen];refine ⟨.ref s.heap.objs.size,_,I.laid (t':=s.toks) (o:= .lst (Zj6 xs lo hi)) (fun b ob q=>Heap.get?_push_of_some _ q) (Nat.le_refl _) ?_,rfl,q _ (I.hok.fresh (Nat.le_refl _))⟩
 exact ⟨Nat.le_trans (ZcR xs lo hi) hz,_,0,(r.drop (HT.sIx xs.length 0 lo)).take (HT.sIx xs.length xs.length hi - HT.sIx xs.length 0 lo),Heap.get?_push_size _ rfl⟩
theorem Zk:ZbS X (.builtin "len") (fun xs H Q=> ∃ p ys,xs=[.ref p]/\(SqL X.K H p ys\/SqT X.K H p ys)/\Q (.int ys.length) H):=by
 intro pins s σ H xs us Q I r h;obtain ⟨p,ys,rfl,hq,q⟩:=h
 obtain ⟨u,rfl,rx⟩:=ZcO r
 cases rx
 have hn:=Zfu
 rcases hq with hq | hq
 ·obtain ⟨its,r',pl,hz⟩:=I.list hq
  have hlen:=r'.length
  exact Calls.call_len_list pl.isList (by simp only[List.size_toArray]<;>omega) ⟨.int ys.length,H,I.tok _,⟨s.toks + 1,by rw[List.size_toArray,hlen]⟩,q⟩
 ·obtain ⟨its,r',pl,hz⟩:=I.tuple hq
  have hlen:=r'.length
  exact len_tuple pl (by simp only[List.size_toArray]<;>omega) ⟨.int ys.length,H,I.tok _,⟨s.toks + 1,by rw[List.size_toArray,hlen]⟩,q⟩
theorem Zbs:ZbS X (.type "list") (fun xs H Q=> ∃ p ys,xs=[.ref p]/\(SqL X.K H p ys\/SqT X.K H p ys)/\ ∀ l,H l=none->Q (.ref l) (upd H l (.lst ys))):=by
 intro pins s σ H xs us Q I r h;obtain ⟨p,ys,rfl,hq,q⟩:=h
 obtain ⟨u,rfl,rx⟩:=ZcO r
 cases rx
 have fin: ∀ (its:List Value),ZX ys its->ys.length<=sizeLine-> ∀ (h':Heap) (c':Nat),(∀ b o',s.heap.get? b=some o'->h'.get? b=some o')->
   h'.get? s.heap.objs.size=some { cls:= .type "list",dict:=none,data:= .seq its.toArray c',slots:= #[] }->EP X pins σ Q (.ref s.heap.objs.size) { s with heap:=h' }:=fun its r' hz h' c' kp e=>
  ⟨.ref s.heap.objs.size,_,I.laid (t':=s.toks) kp (Nat.le_refl _) (show Zbr X.prog X.w _ h' _ (.lst ys) from ⟨hz,its,c',r',e⟩),rfl,q _ (I.hok.fresh (Nat.le_refl _))⟩
 rcases hq with hq | hq
 ·obtain ⟨its,r',pl,hz⟩:=I.list hq
  have hlen:=r'.length
  obtain ⟨o,ho,hc,n,hd⟩:=pl.isList
  exact call_list_seq p (.inl rfl) ho hc hd (fun h' c' kp e=>fin its r' hz h' c' kp e) (by simp only[List.size_toArray]<;>omega)
 ·obtain ⟨its,r',pl,hz⟩:=I.tuple hq
  have hlen:=r'.length
  obtain ⟨o,ho,hc,n,hd⟩:=pl
  exact call_list_seq p (.inr rfl) ho hc hd (fun h' c' kp e=>fin its r' hz h' c' kp e) (by simp only[List.size_toArray]<;>omega)
theorem Zaj:ZbS X (.type "tuple") (fun xs H Q=> ∃ p ys,xs=[.ref p]/\((SqL X.K H p ys/\ ∀ l,H l=none->Q (.ref l) (upd H l (.tup ys)))\/(SqT X.K H p ys/\Q (.ref p) H))):=by
 intro pins s σ H xs us Q I r h;obtain ⟨p,ys,rfl,h⟩:=h
 obtain ⟨u,rfl,rx⟩:=ZcO r
 cases rx
 rcases h with ⟨hq,q⟩ | ⟨hq,q⟩
 ·obtain ⟨its,r',pl,hz⟩:=I.list hq
  have hlen:=r'.length
  refine call_tuple_list pl.isList (fun h' kp=> ?_) (by simp only[List.size_toArray]<;>omega)
  have I1:Inv X pins σ H { s with heap:=h' }:=I.kept (t':=s.toks) kp
  have I2:Inv X pins σ (upd H h'.objs.size (.tup ys)) { s with heap:=h'.push { cls:= .type "tuple",data:= .seq its.toArray } }:=
   I1.laid (t':=s.toks) (fun b o e=>Heap.get?_push_of_some _ e) (Nat.le_refl _) (show Zbr X.prog X.w _ _ _ (.tup ys) from ⟨hz,its,r',IsTup.new _ _⟩)
  exact ⟨.ref h'.objs.size,_,I2,rfl,q _ (I1.hok.fresh (Nat.le_refl _))⟩
 ·obtain ⟨its,r',pl,hz⟩:=I.tuple hq
  exact call_tuple_same pl ⟨.ref p,H,I,rfl,q⟩
noncomputable def tyV (K:PySem.W.Frag)(T:String)(x:V)(H:Hp):Prop:=match x with
 | .str _=>T="str"
 | .int _=>T="int"
 | .ref p=>(T="list"/\ ∃ xs,SqL K H p xs)\/(T="tuple"/\ ∃ o,K.lookup p=some o/\o.cls= .type "tuple"/\o.dict=none)\/
   (T="dict"/\((∃ kvs,H p=some (.dK kvs))\/ ∃ kvs,H p=some (.dT kvs)))\/(T="set"/\ ∃ S n,H p=some (.set S n))
 |_=>False
theorem Zm1 {pins:List (Addr × Obj)}{σ:St}{H:Hp}{s:Shared}{T:String}{x:V}{v:Value}(I:Inv X pins σ H s)(r:Zaa x v)(ty:tyV X.K T x H):
  s.TypeIs v T/\ ∀ a,v= .ref a-> ∃ ob,s.heap.get? a=some ob/\ob.dict=none:=by
 cases x with
 |str z=>
  obtain ⟨t,rfl⟩:=r
  cases (show T="str" from ty)
  exact ⟨typeIs_str s z t,fun _ e=>nomatch e⟩
 |int i=>
  obtain ⟨t,rfl⟩:=r
  cases (show T="int" from ty)
  exact ⟨typeIs_int s i t,fun _ e=>nomatch e⟩
 |ref p=>
  cases r
  rcases ty with ⟨rfl,xs,hq⟩ | ⟨rfl,o,hk,hc,hd⟩ | ⟨rfl,hk⟩ | ⟨rfl,S,n,hk⟩
  ·obtain ⟨its,_,pl,_⟩:=I.list hq
   refine ⟨pl.isList.typeIs,fun a e=> ?_⟩
   cases e
   obtain ⟨o,n,e,c,hd,_⟩:=pl
   exact ⟨o,e,hd⟩
  ·refine ⟨⟨o,I.kIn p o hk,hc⟩,fun a e=> ?_⟩
   cases e
   exact ⟨o,I.kIn _ o hk,hd⟩
  ·have z: ∃ o,s.heap.get? p=some o/\o.ExactDict:=by
    rcases hk with ⟨kvs,hk⟩ | ⟨kvs,hk⟩
    ·obtain ⟨_,_,_,_,o,_,_,e,ex,_⟩:=I.hok p _ hk
     exact ⟨o,e,ex⟩
    ·obtain ⟨_,_,_,_,o,_,_,e,ex,_⟩:=I.hok p _ hk
     exact ⟨o,e,ex⟩
   obtain ⟨o,e,ex⟩:=z
   refine ⟨⟨o,e,ex.1⟩,fun a e2=> ?_⟩
   cases e2
   exact ⟨o,e,ex.2.1⟩
  ·obtain ⟨o,_,_,_,e,ex,_⟩:=I.hok p _ hk
   refine ⟨⟨o,e,ex.1⟩,fun a e2=> ?_⟩
   cases e2
   exact ⟨o,e,ex.2.1⟩
 |_=>exact False.elim ty
noncomputable def tBM (K:PySem.W.Frag)(T:String)(r:V->List V->Hp->VK->Prop)(to:TE)(t:TA):TE:=fun σ H Q=>to σ H fun x H1=>tyV K T x H1/\t σ H1 fun xs H2=>r x xs H2 Q
variable {o e:Expr}{es:List Expr}{to:TE}{t:TA}{name:Str}{apos cpos:Pos}{T id:String}{r:V->List V->Hp->VK->Prop}
theorem Zp3 (pa:PlainAttrs T)(slot:Slot T name id)(hty:typeOf (.builtin id)=pure (.type "method_descriptor"))(hm:MtR X id r)(ho:PE X o to)(ha:PA X (e :: es) t)
  (hbase:attributeBase o name X.env (eval o X.env)=eval o X.env:=by rfl)
  (hfew:((backTo cpos (starEach (e :: es) X.env)).all (fun x=> !x.1) && (backToKw cpos (keywordEach [] X.env)).all (fun x=>x.1.isSome)
   && decide ((e :: es).length + ([]:List Keyword).length + (if ([]:List Keyword).isEmpty then 0 else 1) < 30))=true:=by rfl)
  (hline:(apos.endLine == cpos.line)=true:=by rfl) (hs:starEach (e :: es) X.env=(false,eval e X.env) :: starEach es X.env:=by rfl) (hplain:(backTo cpos (starEach es X.env)).any (·.1)=false:=by rfl):
  PE X (.Call (.Attribute o name apos) (e :: es) [] cpos) (tBM X.K T r to t):=by
 intro pins s σ H Q I h;refine wpAny_Call_method_late hbase hfew hline rfl (thn (ho pins s σ H _ I h) fun v s1 ⟨x,H1,I1,r1,ty,q1⟩=> ?_)
 obtain ⟨h1,h2⟩:=Zm1 I1 r1 ty
 refine ⟨T,id,pa,slot,hty,h1,h2,?_⟩
 have hA:=ha cpos pins s1 σ H1 _ I1 q1
 rw[hs] at hA ⊢;refine Calls.callWith_builtin (by show (false || (backTo cpos (starEach es X.env)).any (·.1))=false;rw[hplain]<;>rfl) (Calls.evalArgs_plain ?_)
 exact thn hA fun us s2 ⟨vs,H2,I2,r2,q2⟩=>hm pins s2 σ H2 x vs v us Q I2 r1 r2 q2
end
end L2
namespace L2
open PySem PySem.Spec PyProof.Rows
noncomputable def MtM (X:Cx)(id:String)(r:V->List V->Hp->VK->Prop):Prop:=
 ∀ (pins:List (Addr × Obj)) (s:Shared) (σ:St) (H:Hp) (x:V) (xs:List V) (v:Value) (us:List Value) (Q:VK),Inv X pins σ H s->Zaa x v->ZX xs us->r x xs H Q->
  wpAny (model X.prog X.w) X.A (call (.builtin id) (v :: us)) (EP X pins σ Q) X.xe s
theorem ZX.one: ∀ {x:V} {us:List Value},ZX [x] us-> ∃ u,us=[u]/\Zaa x u
 |_,_,.cons r .nil=>⟨_,rfl,r⟩
theorem ZX.reverse {xs:List V}{us:List Value}(h:ZX xs us):ZX xs.reverse us.reverse:=by
 induction h with
 |nil=>exact .nil
 |cons r t ih=>rw[List.reverse_cons,List.reverse_cons];exact ZX.append ih (.cons r .nil)
section
variable {X:Cx}{pins:List (Addr × Obj)}{σ:St}{H:Hp}{s:Shared}{l b:Addr}{xs ys zs:List V}
theorem Inv.lset {its its':List Value}{n:Nat}{f:Array Value->Array Value}{t':Nat}(I:Inv X pins σ H s)(hH:H l=some (.lst xs))
  (e:s.heap.get? l=some { cls:= .type "list",data:= .seq its.toArray n }) (hf:f its.toArray=its'.toArray) (hv:ZX ys its') (hz:ys.length<=sizeLine):
  Inv X pins σ (upd H l (.lst ys)) { s with heap:=s.heap.update l (Obj.mapSeq f),toks:=t' }:=by
 have q:=PySem.IsL.update e f
 rw[hf] at q;refine I.write (x:=l) (e:=l) (by rw[hH];exact trivial) (.inl rfl) (fun b' u hb hu=>(Heap.get?_update_other s.heap (Obj.mapSeq f) (Ne.symm hb)).trans hu) ⟨_,q⟩ ?_
 exact ⟨hz,its',_,hv,q⟩
theorem Inv.lnew {its:List Value}{t':Nat}(I:Inv X pins σ H s)(hv:ZX ys its)(hz:ys.length<=sizeLine):
  Inv X pins σ (upd H s.heap.objs.size (.lst ys)) { s with heap:=s.heap.push { cls:= .type "list",data:= .seq its.toArray },toks:=t' }:=
 I.laid (fun _ _ q=>Heap.get?_push_of_some _ q) (Nat.le_refl _) ⟨hz,its,0,hv,Heap.get?_push_size _ rfl⟩
theorem Inv.fresh (I:Inv X pins σ H s):H s.heap.objs.size=none:=I.hok.fresh (Nat.le_refl _)
theorem Inv.lstM (I:Inv X pins σ H s)(hH:H l=some (.lst xs)):xs.length<=sizeLine/\ ∃ (its:List Value) (n:Nat),ZX xs its/\xs.length=its.length/\s.heap.get? l=some { cls:= .type "list",data:= .seq its.toArray n }:=by
 obtain ⟨z,its,n,r,e⟩:=I.hok l _ hH
 exact ⟨z,its,n,r,r.length,e⟩
theorem Zjb {n:Nat}(h:n<=sizeLine):Builtin.List.listTooLong n=false:=by
 unfold Builtin.List.listTooLong;exact decide_eq_false (by omega)
end
section
variable {X:Cx}
noncomputable def rAppend:V->List V->Hp->VK->Prop:=fun x vs H Q=> ∃ l xs y,x= .ref l/\vs=[y]/\H l=some (.lst xs)/\xs.length < sizeLine/\Q .non (upd H l (.lst (xs ++ [y])))
theorem Zef:MtM X "list.append" rAppend:=by
 intro pins s σ H x vs v us Q I rx rv h;obtain ⟨l,xs,y,rfl,rfl,hH,hz,q⟩:=h
 cases rx
 obtain ⟨u,rfl,ru⟩:=rv.one
 obtain ⟨z,its,n,r,hl,e⟩:=I.lstM hH
 refine call_meets F.slot_list_append ⟨_,e,rfl⟩ F.entry_list_append (F.args_list_append_2 _ _) (PySem.list_append l its.toArray n u (by rw[List.size_toArray];omega)) ⟨e,?_⟩
 refine ⟨.non,_,I.lset (its':=its ++ [u]) hH e (by simp) (r.append (.cons ru .nil)) ?_,rfl,q⟩
 rw[List.length_append,List.length_singleton];omega
noncomputable def rExtend:V->List V->Hp->VK->Prop:=fun x vs H Q=> ∃ l b xs zs,x= .ref l/\vs=[.ref b]/\H l=some (.lst xs)/\H b=some (.lst zs)/\xs.length + zs.length<=sizeLine/\Q .non (upd H l (.lst (xs ++ zs)))
theorem Zm2:MtM X "list.extend" rExtend:=by
 intro pins s σ H x vs v us Q I rx rv h;obtain ⟨l,b,xs,zs,rfl,rfl,hH,hB,hz,q⟩:=h
 cases rx
 obtain ⟨u,rfl,ru⟩:=rv.one
 cases ru
 obtain ⟨z,its,n,r,hl,e⟩:=I.lstM hH
 obtain ⟨z2,its2,n2,r2,hl2,e2⟩:=I.lstM hB
 have hsz:its.toArray.size + its2.toArray.size<=sizeLine:=by rw[List.size_toArray,List.size_toArray];omega
 have hlong: ¬ (!its.toArray.isEmpty && Builtin.List.listTooLong (its.toArray.size + its2.toArray.size))=true:=by
  rw[Zjb hsz,Bool.and_false];exact Bool.false_ne_true
 refine call_meets F.slot_list_extend ⟨_,e,rfl⟩ F.entry_list_extend (F.args_list_extend_2 _ _)
  (AutoSeq1.list_extend_list_list_0 l its.toArray n b its2.toArray n2 hlong (by rw[List.size_toArray];omega) (by omega)) ⟨e,e2,?_⟩
 refine ⟨.non,_,I.lset (its':=its ++ its2) hH e (by simp) (r.append r2) ?_,rfl,q⟩
 rw[List.length_append];omega
noncomputable def rCat:R2:=fun x y H Q=> ∃ l b xs zs,x= .ref l/\y= .ref b/\H l=some (.lst xs)/\H b=some (.lst zs)/\xs.length + zs.length<=sizeLine/\ ∀ p,H p=none->Q (.ref p) (upd H p (.lst (xs ++ zs)))
theorem Zm3:OpR X (binaryOp .Add) rCat:=by
 intro pins s σ H x y v u Q I rx ry h;obtain ⟨l,b,xs,zs,rfl,rfl,hH,hB,hz,q⟩:=h
 cases rx
 cases ry
 obtain ⟨z,its,n,r,hl,e⟩:=I.lstM hH
 obtain ⟨z2,its2,n2,r2,hl2,e2⟩:=I.lstM hB
 refine PySem.P.add_list e e2 ?_ (by rw[List.size_toArray,List.size_toArray];omega)
 have ea:its.toArray ++ its2.toArray=(its ++ its2).toArray:=by simp
 rw[ea];exact ⟨.ref _,_,I.lnew (t':=s.toks) (r.append r2) (by rw[List.length_append];omega),rfl,q _ I.fresh⟩
end
section
variable {prog:Program}{w:World}{A:Around}{E:Value->Shared->Prop}{s:Shared}
end
section
variable {X:Cx}
end
end L2
namespace Att
open PySem PySem.W PySem.Calls PyProof.Rows
theorem ZcS {P:Params}{h:Heap}: ∀ (ns:List Int) (vs:List Value),WellAll P h vs (ns.map WData.int)->IntsAre vs ns:=by
 intro ns
 induction ns with
 |nil=>
  intro vs w;rw[List.map_nil] at w;cases w
  exact .nil
 |cons n ns ih=>
  intro vs w;rw[List.map_cons] at w;cases w with
  |cons a b=>
   cases a
   exact .cons _ _ (ih _ b)
theorem Zhf {l:OpenLaw}{n:Nat}(hn:l.most=some n){P:Params}{h:Heap}{args:List WData}{vals:List Value}
  (hpre:l.row.toRowW.claim.pre args=true) (hwl:WellAll P h vals args):
  ∃ a vs ns,vals=[Value.ref a]/\args=[WData.list (ns.map WData.int)]/\h.get? a=some { cls:= .type "list",data:= .seq vs.toArray }/\IntsAre vs ns/\ns.length<=n:=by
 have hsh:WShape.hasAll [] args [.list .int]=true:=(pre_splitW hpre).1
 have hc:l.pre.holds [] { args:=args }=true:=(pre_splitW hpre).2
 obtain ⟨d,r,rfl,h1,h2⟩:=hasAllW_cons hsh
 obtain rfl:=hasAllW_nil h2
 obtain ⟨xs,rfl,h3⟩:=hasW_list h1
 obtain ⟨ns,rfl⟩:=items_int h3
 have hlen:ns.length<=n:=by
  unfold OpenLaw.pre at hc;have h4:(WTm.not (.lt (.lit (.int (n:Int))) (.len (.arg 0)))).holds [] { args:=[.list (ns.map .int)] }=true:=by
   have h4:=(holds_andW hc).1
   rw[hn] at h4;exact h4
  have h5:=condW_of h4 (w_not (w_lt w_lit (w_len_list (w_arg rfl))))
  rw[List.length_map] at h5;refine Nat.le_of_not_lt fun q=> ?_
  have q':(n:Int) < ((ns.length:Nat):Int):=by omega
  first
   | (rw[decide_eq_true q'] at h5;exact absurd h5 (by decide))
   | (simp at h5;omega)
 cases hwl with
 |cons w1 w2=>
  cases w2
  cases w1 with
  |list ho hall=>exact ⟨_,_,ns,rfl,rfl,ho,ZcS ns _ hall,hlen⟩
theorem Zhg (l:OpenLaw)(args:List WData):l.row.toRowW.claim.post args (.bool true) args=true:=
 postW_of (r:=l.row.toRowW) (X:=(true == true))
  (show WShape.has [] (.bool true) .bool=true by first | rfl | decide | simp[WShape.has,WShape.arms,WShape.armsAll])
  (show (WTm.eq .res (.lit (.bool true))).value [] { args:=args,res:=some (.bool true),after:=args }=some (.bool (true == true)) from w_eq_bool (w_res rfl) w_lit) rfl
theorem ZeV {l:OpenLaw}{n:Nat}{q:Program}{loose:List Str}{XP:(Str->Option Value)->Heap->Prop}{YP:World->Heap->Prop}{d:DefRec}
  (hn:l.most=some n) (hdf:d.params.defaults=[])
  (call: ∀ (w:World) (s₀ s₁:Shared) (mg mb:Str->Option Value) (fa:Addr) (o:Obj) (pm cd doc:Value) (a:Addr) (vs:List Value) (ns:List Int),
   Ground q loose [] XP w s₀ mg mb s₁.heap->YP w s₁.heap->
   s₁.heap.get? fa=some o->o.data= .func (docDef d.name d.params d.body d.scope pm cd doc)->s₁.heap.CodeRec cd d.name->mg d.name=some (.ref fa)->
   s₁.heap.get? a=some { cls:= .type "list",data:= .seq vs.toArray }->IntsAre vs ns->ns.length<=n->s₁.gens= #[]->
   codeAny (model l.prog w) callerA (.call (.ref fa) ⟨[.ref a],[]⟩) (fun r s'=>r= .ok (.ret (.bool true))/\OldK s₁.heap s'.heap/\s'.os=s₁.os/\AllBare s'.gens) s₁):
  WalkO q loose XP YP l.row.toRowW d [] (fun f vs=>PySem.call f vs):=by
 intro w s₀ s₁ mg mb G Y fa o pm cd doc dV kV ho hd hcd hD hmg hg args vals as hpre hlay hrd hwl hlo;obtain rfl:dV= .none:=Dflts.none hD hdf
 obtain rfl:kV= .none:=Dflts.noKw hD
 obtain ⟨a,vs,ns,rfl,rfl,hobj,hints,hlen⟩:=Zhf hn hpre hwl
 refine enter_call (codeAny_mono (call w s₀ s₁ mg mb fa o pm cd doc a vs ns G Y ho (fd_plain hd) hcd hmg hobj hints hlen hg) fun r s' hq=> ?_)
 obtain ⟨rfl,h2,h3,h4⟩:=hq
 exact ⟨.inl ⟨.bool true,.bool true,[],rfl,fun _=>rfl,.bool true,Zhg l _,fun _=>⟨List.Pairwise.nil,fun _ hm=>(nomatch hm)⟩⟩,h2,h3,h4⟩
section
variable {prog:Program}{w:World}{A:Around}{E:Value->Shared->Prop}{s:Shared}{K:Frag}
end
end Att
namespace L2
open PySem PySem.Spec PyProof.Rows
theorem Zeg: ∀ {vs:List Value} {ns:List Int},IntsAre vs ns->ZX (ns.map V.int) vs
 |_,_,.nil=> .nil
 |_,_,.cons n t h=> .cons ⟨t,rfl⟩ (Zeg h)
noncomputable def ZpA (H:Hp):Prop:= ∀ b,H b=none\/ ∃ o xs,H b=some (.frz o (.lst xs))
theorem Zjc {P:Program}{w:World}{K:PySem.W.Frag}{mg mb:Str->Option Value}{CX:CXT}{k:Nat}{fa a:Addr}{fd:FuncData}{x:Str}{sp:Sp}{s₁:Shared}{vs:List Value}{ns:List Int}
  (KX:K.In s₁.heap) (hns:s₁.heap.Ns mainGlobals mg) (hb:s₁.heap.Ns builtinsNs mb) (hbb: ∀ x:Str,x≠"__name__"->mb x=bootBuiltins x) (hlim:s₁.heap.NoLimit) (hg:s₁.gens= #[])
  (ha:s₁.heap.get? a=some { cls:= .type "list",data:= .seq vs.toArray }) (hi:IntsAre vs ns) (hl:ns.length<=sizeLine) (hr:Room k callerA)
  (F: ∀ base:Heap,K.In base->base.Ns mainGlobals mg->FnOk P w K mg base CX k fa fd [x] sp) (hbind: ∀ (s:Shared) (u:Value),BindsTo s fd ⟨[u],[]⟩ [(x,u)])
  (hsp: ∀ H:Hp,ZpA H->SqL K H a (ns.map V.int)->sp [.ref a] H (fun v _=>v= .bl true) fun _ _ _=>False)
  (hCX: ∀ H e s',CX [] H s₁ (fun _ _ _=>False) e s'->False):
  codeAny (model P w) callerA (.call (.ref fa) ⟨[.ref a],[]⟩) (fun r s'=>r= .ok (.ret (.bool true))/\OldK s₁.heap s'.heap/\s'.os=s₁.os/\AllBare s'.gens) s₁:=by
 have rv:=Zeg hi
 have lenV:=hi.length
 have core: ∀ H:Hp,ZpA H->SqL K H a (ns.map V.int)->HOk P w H s₁.heap->(∀ b,H b≠none->b=a)->(H a≠none->K.lookup a=none)->
   codeAny (model P w) callerA (.call (.ref fa) ⟨[.ref a],[]⟩) (fun r s'=>r= .ok (.ret (.bool true))/\OldK s₁.heap s'.heap/\s'.os=s₁.os/\AllBare s'.gens) s₁:=by
  intro H hO hS hok hA hK;have base_of: ∀ {b:Addr} {o:Obj},s₁.heap.get? b=some o->H b=none->(ZiV s₁.heap H).get? b=some o:=fun e n=>Zfs e n
  have noA: ∀ {b:Addr} {o:Obj} {es:Array DictEntry} {ep:Nat},s₁.heap.get? b=some o->o.data= .dict es ep->H b=none:=fun {b o es ep} e d=>by
   cases q:H b with
   |none=>rfl
   |some u=>
    have e':b=a:=hA b (by rw[q];simp)
    subst e';rw[ha] at e;cases e;have d':Data.seq vs.toArray _=Data.dict es ep:=d
    cases d'
  have nsK: ∀ {b:Addr} {m:Str->Option Value},s₁.heap.Ns b m->(ZiV s₁.heap H).Ns b m:=fun {b m} ⟨o,es,ep,e,d,r⟩=>⟨o,es,ep,base_of e (noA e d),d,r⟩
  have hKb:K.In (ZiV s₁.heap H):=fun b o e=>base_of (KX b o e) (by
   cases q:H b with
   |none=>rfl
   |some u=>
    have e':b=a:=hA b (by rw[q];simp)
    subst e';rw[hK (by rw[q];simp)] at e;cases e)
  have hM:Mod K mg (ZiV s₁.heap H):=⟨hKb,nsK hns,⟨mb,nsK hb,hbb⟩,let ⟨mc,h1,h2⟩:=hlim;⟨mc,nsK h1,h2⟩⟩
  have e0:Env0 P w K mg (ZiV s₁.heap H) callerA [] s₁ H:=⟨rfl,hM,fun b o e=>ZgU e,Nat.le_of_eq (ZgT _ _),trivial,fun b hb=>absurd (show b∈([]:List Addr) from hb) (by simp),hok,.of_eq hg,.inl rfl⟩
  refine codeAny_mono ((F _ hKb (nsK hns)).run callerA [] s₁ H ⟨[.ref a],[]⟩ [.ref a] [.ref a] _ _ hr e0 (hbind s₁ (.ref a)) (.cons rfl .nil) (hsp H hO hS)) fun r s' h=> ?_
  cases r with
  |error e=>exact (hCX H e s' h).elim
  |ok fl=>
   cases fl with
   |next=>exact False.elim h
   |brk=>exact False.elim h
   |cont=>exact False.elim h
   |ret u=>
    obtain ⟨v,H',os,bare,un,hok',r',q⟩:=h
    have q':v= .bl true:=q
    subst q';obtain rfl:u=Value.bool true:=r'
    refine ⟨rfl,OldK.of_keep fun b o e=> ?_,os,bare⟩
    cases q:H b with
    |none=>exact un.keep b o e q (by intro z;exact absurd (show b∈([]:List Addr) from z) (by simp)) (by simp)
    |some u=>
     rcases hO b with z | ⟨ob,xs,z⟩
     ·rw[q] at z;cases z
     ·have z2:=un.frzs b ob _ z
      obtain ⟨e1,_⟩:=hok b _ z
      obtain ⟨e2,_⟩:=hok' b _ z2
      rw[e] at e1;cases e1;exact e2
 cases hk:K.lookup a with
 |some o=>
  have e:=KX a o hk
  rw[ha] at e;cases e
  refine core (fun _=>none) (fun _=> .inl rfl) (.inr ⟨_,vs.toArray,_,hk,rfl,rfl,rfl,by rw[List.size_toArray,lenV];exact hl,by simpa using rv⟩) (fun b u z=>by have z':(none:Option HO)=some u:=z;cases z') (fun b z=>absurd rfl z) fun z=>absurd rfl z
 |none=>
  refine core (fun b=>if b=a then some (.frz { cls:= .type "list",data:= .seq vs.toArray } (.lst (ns.map V.int))) else none) (fun b=> ?_) (.inl (.inr ⟨{ cls:= .type "list",data:= .seq vs.toArray },if_pos rfl⟩)) (fun b u z=> ?_) (fun b z=> ?_) fun _=>hk
  ·by_cases hb:b=a
   ·exact .inr ⟨_,_,if_pos hb⟩
   ·exact .inl (if_neg hb)
  ·by_cases hb:b=a
   ·have z':=(if_pos hb).symm.trans z
    cases z'
    subst hb;exact ⟨ha,by rw[List.length_map];exact hl,vs,_,rv,ha⟩
   ·have z':=(if_neg hb).symm.trans z
    cases z'
  ·by_cases hb:b=a
   ·exact hb
   ·exact absurd (if_neg hb) z
end L2
namespace L2
open PySem PySem.Spec PyProof.Rows
theorem Zk9 {l:PySem.W.OpenLaw}{n k:Nat}{q:Program}{loose:List Str}{XP:(Str->Option Value)->Heap->Prop}{YP:World->Heap->Prop}{d:DefRec}{K:Params->PySem.W.Frag}{CX:World->CXT}{sp:World->Sp}{x:Str}
  (hn:l.most=some n) (hn2:n<=sizeLine) (hdf:d.params.defaults=[]) (hr:Room k callerA)
  (hY: ∀ (w:World) (h:Heap),YP w h->(K w.params).In h)
  (F: ∀ (w:World) (mg:Str->Option Value) (fa:Addr) (h:Heap),(K w.params).In h->h.Ns mainGlobals mg->mg d.name=some (.ref fa)->
   ∃ fd:FuncData,(∀ (s:Shared) (u:Value),BindsTo s fd ⟨[u],[]⟩ [(x,u)])/\
    ∀ base:Heap,(K w.params).In base->base.Ns mainGlobals mg->FnOk l.prog w (K w.params) mg base (CX w) k fa fd [x] (sp w))
  (hsp: ∀ (w:World) (H:Hp) (a:Addr) (ns:List Int),ns.length<=n->ZpA H->SqL (K w.params) H a (ns.map V.int)->sp w [.ref a] H (fun v _=>v= .bl true) fun _ _ _=>False)
  (hCX: ∀ (w:World) (H:Hp) (s:Shared) (e:Value) (s':Shared),CX w [] H s (fun _ _ _=>False) e s'->False):
  PySem.W.WalkO q loose XP YP l.row.toRowW d [] (fun f vs=>PySem.call f vs):=by
 refine Att.ZeV hn hdf fun w s₀ s₁ mg mb fa o pm cd doc a vs ns G Y ho hd hcd hmg hobj hints hlen hg=> ?_
 have KX:=hY w _ Y
 obtain ⟨fd,hb,hF⟩:=F w mg fa _ KX G.T.g hmg
 exact Zjc KX G.T.g G.T.b G.T.builtins G.T.nolimit hg hobj hints (Nat.le_trans hlen hn2) hr hF hb (fun H hO hS=>hsp w H a ns hlen hO hS) fun H e s'=>hCX w H s₁ e s'
end L2
namespace L2
open PySem PySem.Spec PyProof.Rows
noncomputable def Zbg (s:Stmt):Arguments:=match s with
 | .FunctionDef _ a _ _ _ _ _ _ _ _=>a
 |_=>{ posonlyargs:=[],args:=[],vararg:=none,kwonlyargs:=[],kw_defaults:=[],kwarg:=none,defaults:=[] }
noncomputable def ZaF (s:Stmt):List Stmt:=match s with
 | .FunctionDef _ _ b _ _ _ _ _ _ _=>b
 |_=>[]
noncomputable def Zy (s:Stmt):Scope:=match s with
 | .FunctionDef _ _ _ _ _ _ sc _ _ _=>sc
 |_=>{ kind:= .function,names:=[],isGenerator:=false,isCoroutine:=false }
noncomputable abbrev E0:XK:=fun _ _ _=>False
structure Fun (K:PySem.W.Frag) (x qual:Str) (st:Stmt) (f:Addr) (fd:FuncData):Prop where
 ex: ∃ (oc:Value) (od:Option Addr) (kV doc pm:Value) (an:Option Addr) (cdv ct:Value) (osl:Array (Option Value)),
  fd=PySem.W.fnOf x qual (Zbg st) (ZaF st) (Zy st) .none kV doc pm an cdv ct/\K.lookup f=some ⟨oc,od,.func fd,osl⟩/\PySem.W.codeIn K cdv qual=true
 kp:PySem.W.keepIn K (.ref f)=true
section
variable {P:Program}{w:World}{K:PySem.W.Frag}{mg:Str->Option Value}{base:Heap}
theorem Fun.binds {x qual:Str}{st:Stmt}{f:Addr}{fd:FuncData}{ps:List Str}(F:Fun K x qual st f fd)
  (h: ∀ (kV doc pm:Value) (an:Option Addr) (cdv ct:Value) (us:List Value),us.length=ps.length->bindArgs (PySem.W.fnOf x qual (Zbg st) (ZaF st) (Zy st) .none kV doc pm an cdv ct) ⟨us,[]⟩=pure (ps.zip us)):Zdz K fd ps []:=by
 obtain ⟨oc,od,kV,doc,pm,an,cdv,ct,osl,rfl,lk,hcd⟩:=F.ex
 exact .all (h kV doc pm an cdv ct)
theorem Zj7 {x qual:Str}{st:Stmt}{f:Addr}{oc:Value}{od an:Option Addr}{osl:Array (Option Value)}{kV doc pm cdv ct:Value}(l:K.lookup f=some ⟨oc,od,.func (PySem.W.fnOf x qual (Zbg st) (ZaF st) (Zy st) .none kV doc pm an cdv ct),osl⟩)
  (c:PySem.W.codeIn K cdv qual=true) (k:PySem.W.keepIn K (.ref f)=true):Fun K x qual st f (PySem.W.fnOf x qual (Zbg st) (ZaF st) (Zy st) .none kV doc pm an cdv ct):=⟨⟨oc,od,kV,doc,pm,an,cdv,ct,osl,rfl,l,c⟩,k⟩
end
theorem Zhh {n:Nat}(h:n<=1000):n < sizeLine:=Nat.lt_of_le_of_lt h (by decide)
section
variable {X:Cx}
end
theorem Zj8 {A B:Prop}(h:B):if false=true then A else B:=by
 rw[if_neg Bool.false_ne_true];exact h
theorem Zj9 {A B:Prop}(h:A):if true=true then A else B:=by
 rw[if_pos rfl];exact h
end L2
end
section
namespace DL
open PySem PySem.Spec PyProof.Rows L2
structure Rw where
 n:String
 i:Nat
 f:Nat
 m:String
 t:Nat
 u:Nat
 ln:Nat
 na:Nat
 b:Bool
 v:Nat
noncomputable def zz1 (P:Params)(s:String)(n:Nat)(v:Value):DictEntry:={ hash:=PyData.keyHash P (Str.ofString s),key:=Value.str (Str.ofString s) n,val:=v }
noncomputable def zz3 (s:String)(n:Nat):Value:=Value.str (Str.ofString s) n
noncomputable def zz4 (n:Int):Value:=Value.int n 0
noncomputable def zz6 (b:Bool)(n:Nat):Value:=if b then .ref n else .none
noncomputable def Rw.fo (p:Nat->Stmt)(r:Rw):Obj:=⟨.type "function",none,.func (PySem.W.fnOf r.n r.n (Zbg (p r.i)) (ZaF (p r.i)) (Zy (p r.i)) .none .none .none (.str r.m r.t) none (.ref (r.f - 1)) .none),#[]⟩
noncomputable def Rw.co (r:Rw):Obj:={ cls:=Value.type "code",data:=Data.fields #[zz3 r.n r.u,zz3 r.n (r.u + 1),zz3 "/claim/cut.py" (r.u + 2),zz4 r.ln,zz4 r.na,zz4 0,zz4 0,zz4 3,.ref (r.f - (if r.b then 6 else 4)),.bool true,zz4 181,.ref (r.f - (if r.b then 5 else 3)),.none,zz6 r.b (r.f - 4),zz6 r.b (r.f - 3),.ref (r.f - 2),zz4 r.v,zz4 r.ln,zz3 "/claim/cut.py" (r.v + 1)] }
noncomputable def Rw.de (P:Params)(r:Rw):DictEntry:=zz1 P r.n (r.v + 2) (.ref r.f)
noncomputable def Rw.en (p:Nat->Stmt)(r:Rw):PySem.W.Frag:=[(r.f,r.fo p),(r.f - 1,r.co)]
structure Cw where
 n:String
 f:Nat
 t:Nat
 ln:Nat
noncomputable def Cw.cls (r:Cw):Obj:={ cls:=Value.type "type",data:=Data.cls { name:=Str.ofString r.n,bases:=[Value.ref 24],mro:=[Value.ref r.f,Value.ref 24,Value.type "ValueError",Value.type "Exception",Value.type "BaseException",Value.type "object"],ns:=r.f - 1,qualname:=Str.ofString r.n },slots:= #[some (Value.ref (r.f - 9)),none,some (zz3 r.n r.t),some (zz3 r.n (r.t + 8)),some (Value.builtin "ValueError.__new__"),some (Value.bool true)] }
noncomputable def Cw.ns (P:Params)(r:Cw):Obj:={ cls:=Value.type "dict",data:=Data.dict #[zz1 P "__module__" (r.t + 7) (zz3 "rayround.errors" 187),zz1 P "__firstlineno__" (r.t + 11) (Value.int r.ln (r.t + 10)),zz1 P "__static_attributes__" (r.t + 12) (Value.ref (r.f - 2)),zz1 P "__doc__" (r.t + 13) Value.none] 2 }
noncomputable def Cw.de (P:Params)(r:Cw):DictEntry:=zz1 P r.n (r.t + 15) (.ref r.f)
noncomputable def Cw.en (P:Params)(r:Cw):PySem.W.Frag:=[(r.f,r.cls),(r.f - 1,r.ns P)]
noncomputable def Zjd (s:Stmt)(i:Nat):Stmt:=match s with
 | .ClassDef _ _ _ b _ _ _ _ _ _ _=>b.getD i s
 |_=>s
end DL
end
section
namespace HD
open PySem PySem.W PyProof.Rows
noncomputable def ZpB (thr:Thread->Bool)(stp:SharedT->Thread->Option (SharedT × Thread))(n:Nat):SharedT->Thread->Option SharedT:=
 Nat.rec (motive:=fun _=>SharedT->Thread->Option SharedT) (fun _ _=>none) (fun _ ih s t=>Bool.rec (motive:=fun _=>Option SharedT) (Option.rec (motive:=fun _=>Option SharedT) none (fun r=>ih r.1 r.2) (stp s t)) (some s) (thr t)) n
noncomputable def Zje (ok:Thread->Bool)(stp:SharedT->Thread->Option (SharedT × Thread))(s:SharedT)(t:Thread):Option (SharedT × Thread):=Bool.rec (motive:=fun _=>Option (SharedT × Thread)) none (stp s t) (ok t)
section
variable {tb:String->Option Builtin}{p:Program}{w:World}{n₀:Nat}{ann:Option Value}
theorem Zka: ∀ {n:Nat} {s s':SharedT} {t:Thread},ZpB through (Zje (stepOk n₀ ann) (stepT (denote tb) p w)) n s t=some s'->topRun tb p w n₀ ann n s.abs t=some s'.abs
 |0,s,s',t,h=>by cases h
 |n + 1,s,s',t,h=>by
  unfold topRun
  change Bool.rec (motive:=fun _=>Option SharedT) (Option.rec (motive:=fun _=>Option SharedT) none (fun r=>ZpB through (Zje (stepOk n₀ ann) (stepT (denote tb) p w)) n r.1 r.2) (Zje (stepOk n₀ ann) (stepT (denote tb) p w) s t)) (some s) (through t)=some s' at h
  cases ht:through t with
  |true=>
   rw[ht] at h;have h':some s=some s':=h
   cases h'
   rfl
  |false=>
   rw[ht] at h;cases hk:stepOk n₀ ann t with
   |false=>
    have e:Zje (stepOk n₀ ann) (stepT (denote tb) p w) s t=none:=by unfold Zje;rw[hk]
    rw[e] at h;cases h
   |true=>
    have e:Zje (stepOk n₀ ann) (stepT (denote tb) p w) s t=stepT (denote tb) p w s t:=by unfold Zje;rw[hk]
    rw[e] at h;cases hs:stepT (denote tb) p w s t with
    |none=>rw[hs] at h;cases h
    |some r=>
     obtain ⟨s2,t2⟩:=r
     rw[hs] at h
     have:=stepT_spec hs
     rw[this];exact Zka (n:=n) h
end
noncomputable def T0 (w:World)(os:OsState):SharedT:=
 ⟨[boot_o_0,boot_o_1,boot_o_2,boot_o_3,boot_o_4,boot_o_5,boot_o_6,boot_o_7,boot_o_8,boot_o_9,boot_o_10].foldl (fun (r:Nat × BT) o=>(r.1 + 1,r.2.ins r.1 (o w.params))) (0,.nil) |>.2,11,(boot_heap w.params).life,#[],boot_drawn,boot_toks,os⟩
theorem Zm4 (w:World)(os:OsState):(T0 w os).abs=⟨boot_heap w.params,#[],boot_drawn,boot_toks,os⟩:=by kernel_rfl
theorem Zla:Str.ofString "__annotations__"=⟨#[95,95,97,110,110,111,116,97,116,105,111,110,115,95,95]⟩:=by decide +kernel
theorem Zhi {p q:Program}{loose:List Str}{Xt:Shared->Bool}{α:Type}{Yf:Shared->α}{Ya:World->α}{N M:Nat}(e:opening p=plainProg p.main.scope.names)(hN:Nat.ble 600 N=true)(f: ∀ s,fenceModules? p s=some s)(le:Nat.ble M N=true)
  (Zp4: ∀ (w:World) (os:OsState),(ZpB through (Zje (stepOk 11 (some (.ref 6))) (stepT (denote treeTable) p w)) M (T0 w os) (topStub p)).map (fun s=>((staticsOk (importedModules p.main.body) (boot_heap w.params) s.abs.heap && namesBound p s.abs.heap && gensDone s.abs && laidKept (boot_heap w.params) s.abs.heap),
    openSeen q loose (importedModules p.main.body) Xt true s.abs,Yf s.abs))=some (true,openGood q loose,Ya w)):LeftO p q loose Xt Yf Ya N:=fun w=>by
 obtain ⟨⟨h,gs,d,k,os⟩,e1,e2⟩:=Option.map_eq_some_iff.mp (boot_open e hN f w)
 obtain ⟨rfl,rfl,rfl,rfl⟩:h=boot_heap w.params/\gs=Array.mk []/\d=boot_drawn/\k=boot_toks:=by simpa using e2
 obtain ⟨s',r1,r2⟩:=Option.map_eq_some_iff.mp (Zp4 w os)
 obtain ⟨l1,l2,l3⟩:_/\_/\_:=by simpa only[Prod.mk.injEq] using r2
 have r:=Zka r1
 rw[Zm4] at r;have r:=topRun_mono (N - M) _ _ _ _ r
 rw[show M + (N - M)=N by have:=Nat.le_of_ble_eq_true le;omega] at r
 have z1:((boot_heap w.params).isNs mainGlobals && (Array.mk []:Array GenState).size == 0)=true:=by kernel_rfl
 have z2:(boot_heap w.params).objs.size=11:=rfl
 have z3:(boot_heap w.params).nsMap mainGlobals "__annotations__"=some (.ref 6):=by
  rw[Zla]
  kernel_rfl
 have t:topFrom treeTable p w N ⟨boot_heap w.params,Array.mk [],boot_drawn,boot_toks,os⟩=some s'.abs:=by
  unfold topFrom;dsimp only;rw[z1,z2,z3,r];show (match staticsOk (importedModules p.main.body) (boot_heap w.params) s'.abs.heap && namesBound p s'.abs.heap && gensDone s'.abs && laidKept (boot_heap w.params) s'.abs.heap with | true=>_ | false=>_)=_
  rw[l1]
 unfold openEnds;rw[e1];show (topFrom treeTable p w N _).map _=_
 rw[t];exact congrArg some (Prod.ext l2 l3)
end HD
namespace HD
open PySem PySem.W
theorem Zp5: @stepOk= @PySem.W.Fast.tw6613529449190102663:=PySem.W.Fast.te6613529449190102663
theorem Zlb: @stepT= @PySem.W.Fast.tw10156331382660048174:=PySem.W.Fast.te10156331382660048174
theorem Zm5: @denote= @PySem.W.Fast.tw11892475500146522536:=PySem.W.Fast.te11892475500146522536
theorem Zm6: @treeTable= @PySem.W.Fast.tw14364793385576792824:=PySem.W.Fast.te14364793385576792824
theorem Zlc: @openSeen= @PySem.W.Fast.tw4187177175401517315:=PySem.W.Fast.te4187177175401517315
theorem Zm7: @importedModules= @PySem.W.Fast.tw5923862056798008813:=PySem.W.Fast.te5923862056798008813
end HD
end
section
namespace K68
open PySem PySem.Spec L2 DL
noncomputable def top (i:Nat):Stmt:=PySem.Challenge.pw_rayround_k68_papers_of_walks_and_turning.main.body.getD i (.Pass ⟨0,0,0,0⟩)
noncomputable abbrev rw0 (n:String)(i f u ln na:Nat)(b:Bool)(v:Nat):Rw:=⟨n,i,f,"rayround.wholes",314,u,ln,na,b,v⟩
noncomputable abbrev rw1 (n:String)(i f u ln na:Nat)(b:Bool)(v:Nat):Rw:=⟨n,i,f,"rayround.pairs",333,u,ln,na,b,v⟩
noncomputable abbrev rw2 (n:String)(i f u ln na:Nat)(b:Bool)(v:Nat):Rw:=⟨n,i,f,"rayround.rounds",401,u,ln,na,b,v⟩
noncomputable abbrev rw3 (n:String)(i f u ln na:Nat)(b:Bool)(v:Nat):Rw:=⟨n,i,f,"rayround.numbers",449,u,ln,na,b,v⟩
noncomputable abbrev rw4 (n:String)(i f u ln na:Nat)(b:Bool)(v:Nat):Rw:=⟨n,i,f,"rayround.ratios",457,u,ln,na,b,v⟩
noncomputable abbrev rw5 (n:String)(i f u ln na:Nat)(b:Bool)(v:Nat):Rw:=⟨n,i,f,"rayround.heights",499,u,ln,na,b,v⟩
noncomputable abbrev rw6 (n:String)(i f u ln na:Nat)(b:Bool)(v:Nat):Rw:=⟨n,i,f,"rayround.walks",522,u,ln,na,b,v⟩
noncomputable abbrev rw7 (n:String)(i f u ln na:Nat)(b:Bool)(v:Nat):Rw:=⟨n,i,f,"rayround.papers",541,u,ln,na,b,v⟩
noncomputable abbrev rw8 (n:String)(i f u ln na:Nat)(b:Bool)(v:Nat):Rw:=⟨n,i,f,"law_rayround_k68_papers_of_walks_and_turning",612,u,ln,na,b,v⟩
noncomputable def tab:List Rw:=[rw0 "is_whole" 9 113 316 21 1 true 320,rw0 "greatest_divisor" 10 120 323 23 2 true 330,rw1 "is_pair" 12 127 335 29 1 true 339,rw1 "crossed" 13 134 342 31 2 true 347,rw1 "product" 14 141 350 33 2 true 355,rw1 "common" 15 148 358 35 1 true 362,rw1 "is_ray" 16 155 365 37 1 true 369,rw1 "spanned" 17 162 372 39 2 true 377,rw1 "is_turning" 18 169 380 41 1 true 384,rw1 "turned" 19 176 387 45 2 true 398,rw2 "following" 21 183 403 50 2 true 408,rw2 "met_direction" 22 190 411 52 2 true 416,rw2 "look_round" 23 195 419 54 1 false 422,rw2 "is_round" 24 202 425 65 1 true 429,rw2 "unspanned" 25 209 432 71 1 true 438,rw2 "ask_smooth" 26 216 441 76 1 true 446,rw3 "numbers" 28 221 451 81 1 false 454,rw4 "ratio" 30 228 459 85 2 true 465,rw4 "plus" 31 235 468 94 2 true 473,rw4 "times" 32 242 476 96 2 true 481,rw4 "less" 33 249 484 98 2 true 489,rw4 "is_ratio" 34 256 492 100 1 true 496,rw5 "ask_height" 36 263 501 105 2 true 506,rw5 "bends" 37 270 509 108 2 true 519,rw6 "ask_place" 39 277 524 117 2 true 529,rw6 "taken_out" 40 284 532 120 2 true 538,rw7 "is_smooth" 42 291 543 127 1 true 547,rw7 "is_height" 43 296 550 129 2 false 553,rw7 "walk_stands" 44 303 556 131 3 true 564,rw7 "turning_stands" 45 308 567 143 3 false 570,rw7 "show_stands" 46 313 573 147 3 false 576,rw7 "wedge_stands" 47 318 579 149 4 false 582,rw7 "crosses_below" 48 323 585 160 2 false 588,rw7 "parting_stands" 49 328 591 172 4 false 594,rw7 "none_stands" 50 333 597 181 3 false 600,rw7 "stands" 51 340 603 194 1 true 609,rw8 "_law_cell_at" 53 347 614 210 2 true 621,rw8 "_law_cross" 54 354 624 218 2 true 629,rw8 "_law_turn" 55 359 632 220 2 false 635,rw8 "_law_smooth" 56 366 638 240 2 true 651,rw8 "_law_tags" 57 371 654 259 1 false 657,rw8 "_law_rough" 58 378 660 262 1 true 669,rw8 "_law_whole" 59 385 672 272 1 true 676,rw8 "_law_is_pair" 60 392 679 274 1 true 683,rw8 "_law_common" 61 399 686 276 2 true 691,rw8 "_law_is_round" 62 406 694 282 2 true 705,rw8 "_law_walk" 63 411 708 298 2 false 711,rw8 "_law_walk_stands" 64 418 714 311 3 true 722,rw8 "_law_led" 65 425 725 322 2 true 734,rw8 "_law_turning_stands" 66 430 737 325 3 false 740,rw8 "_law_spoilt_walk" 67 435 743 333 4 false 746,rw8 "_law_turning" 68 442 749 356 1 true 755,rw8 "_law_spoilt_turning" 69 447 758 360 4 false 761,rw8 "_law_copy" 70 452 764 393 1 false 767,rw8 "_law_told" 71 459 770 399 2 true 778,rw8 "_law_rough_told" 72 466 781 406 2 true 788,rw8 "law" 73 471 791 411 1 false 794]
noncomputable def Zm8 (p:Program)(i:Nat):Stmt:=p.main.body.getD i (.Pass ⟨0,0,0,0⟩)
noncomputable def ZpC:List Cw:=[⟨"NoRatio",37,207,4⟩,⟨"NotSmooth",68,250,12⟩,⟨"NoPlace",80,266,14⟩,⟨"NoMinus",92,282,16⟩,⟨"NoHeight",104,298,18⟩]
noncomputable def Kf (p:Program)(P:Params):PySem.W.Frag:=(3,{ cls:=Value.type "dict",data:=Data.dict ([zz1 P "__name__" 165 (zz3 "law_rayround_k68_papers_of_walks_and_turning" 612),zz1 P "__doc__" 166 (Value.none),zz1 P "__package__" 167 (Value.none),zz1 P "__loader__" 168 (Value.builtin "__main__.__loader__#opaque"),zz1 P "__spec__" 169 (Value.none),zz1 P "__annotations__" 170 (Value.ref 6),zz1 P "__builtins__" 171 (Value.ref 4),zz1 P "__file__" 173 (zz3 "/claim/cut.py" 172),zz1 P "__cached__" 174 (Value.none),zz1 P "RayError" 206 (Value.ref 24)] ++ (ZpC.take 1).map (·.de P) ++ [zz1 P "NoRound" 249 (Value.ref 56)] ++ (ZpC.drop 1).map (·.de P) ++ tab.map (·.de P)).toArray 73 }) :: tab.flatMap (·.en (Zm8 p)) ++ ZpC.flatMap (·.en P) ++ [(53,⟨.type "function",none,.func (PySem.W.fnOf "__init__" "NoRound.__init__" (Zbg (Zjd (Zm8 p 3) 0)) (ZaF (Zjd (Zm8 p 3) 0)) (Zy (Zjd (Zm8 p 3) 0)) .none .none .none (.str "rayround.errors" 187) none (.ref 52) .none),#[]⟩),
 (52,{ cls:=Value.type "code",data:=Data.fields #[zz3 "__init__" 235,zz3 "NoRound.__init__" 236,zz3 "/claim/cut.py" 237,zz4 8,zz4 3,zz4 0,zz4 0,zz4 3,Value.ref 47,Value.bool true,zz4 181,Value.ref 48,Value.none,Value.ref 49,Value.ref 50,Value.ref 51,zz4 241,zz4 8,zz3 "/claim/cut.py" 242] }),
 (2,{ cls:=Value.none,data:=Data.dict #[] }),
 (23,{ cls:=Value.type "dict",data:=Data.dict #[zz1 P "__module__" 196 (zz3 "rayround.errors" 187),zz1 P "__firstlineno__" 200 (Value.int 2 199),zz1 P "__static_attributes__" 201 (Value.ref 22),zz1 P "__weakref__" 203 (Value.ref 25),zz1 P "__doc__" 204 (Value.none)] 3 }),
 (24,{ cls:=Value.type "type",data:=Data.cls { name:=Str.ofString "RayError",bases:=[Value.type "ValueError"],mro:=[Value.ref 24,Value.type "ValueError",Value.type "Exception",Value.type "BaseException",Value.type "object"],ns:=23,qualname:=Str.ofString "RayError",subclasses:=[Value.ref 37,Value.ref 56,Value.ref 68,Value.ref 80,Value.ref 92,Value.ref 104] },slots:= #[some (Value.ref 15),none,some (zz3 "RayError" 189),some (zz3 "RayError" 197),some (Value.builtin "ValueError.__new__"),some (Value.bool true)] }),
 (55,{ cls:=Value.type "dict",data:=Data.dict #[zz1 P "__module__" 230 (zz3 "rayround.errors" 187),zz1 P "__firstlineno__" 234 (Value.int 6 233),zz1 P "__init__" 243 (Value.ref 53),zz1 P "__static_attributes__" 246 (Value.ref 54),zz1 P "__doc__" 247 (Value.none)] 2 }),
 (56,{ cls:=Value.type "type",data:=Data.cls { name:=Str.ofString "NoRound",bases:=[Value.ref 24],mro:=[Value.ref 56,Value.ref 24,Value.type "ValueError",Value.type "Exception",Value.type "BaseException",Value.type "object"],ns:=55,qualname:=Str.ofString "NoRound" },slots:= #[some (Value.ref 40),none,some (zz3 "NoRound" 223),some (zz3 "NoRound" 231),some (Value.builtin "ValueError.__new__"),some (Value.bool true)] })]
noncomputable def asK:List Addr:=3 :: tab.flatMap (fun r=>[r.f,r.f - 1]) ++ ZpC.flatMap (fun r=>[r.f,r.f - 1]) ++ [53,52,2,23,24,55,56]
theorem Zm9 (p:Program)(P:Params):asK=(Kf p P).map (·.1):=by kernel_rfl
noncomputable def qf (p:Program):Program:={ p with main:={ p.main with body:=[Zm8 p 73] } }
noncomputable def lo:List Str:=(["__name__","RayError","NoRatio","NoRound","NotSmooth","NoPlace","NoMinus","NoHeight","is_whole","greatest_divisor","is_pair","crossed","product","common","is_ray","spanned","is_turning","turned","following","met_direction","look_round","is_round","unspanned","ask_smooth","numbers","ratio","plus","times","less","is_ratio","ask_height","bends","ask_place","taken_out","is_smooth","is_height","walk_stands","turning_stands","show_stands","wedge_stands","crosses_below","parting_stands","none_stands","stands","_law_cell_at","_law_cross","_law_turn","_law_smooth","_law_tags","_law_rough","_law_whole","_law_is_pair","_law_common","_law_is_round","_law_walk","_law_walk_stands","_law_led","_law_turning_stands","_law_spoilt_walk","_law_turning","_law_spoilt_turning","_law_copy","_law_told","_law_rough_told"]:List String).map Str.ofString
open PySem.W
noncomputable abbrev pw:=PySem.Challenge.pw_rayround_k68_papers_of_walks_and_turning
noncomputable abbrev Hk:Hook:=kHook (Kf pw) asK (Zm9 pw)
set_option maxRecDepth 1000000 in
set_option maxHeartbeats 0 in
theorem Zp4 (w:World)(os:OsState):(HD.ZpB through (HD.Zje (stepOk 11 (some (.ref 6))) (stepT (denote treeTable) PySem.Challenge.pw_rayround_k68_papers_of_walks_and_turning w)) 3316 (HD.T0 w os) (topStub PySem.Challenge.pw_rayround_k68_papers_of_walks_and_turning)).map (fun s=>((staticsOk (importedModules PySem.Challenge.pw_rayround_k68_papers_of_walks_and_turning.main.body) (boot_heap w.params) s.abs.heap && namesBound PySem.Challenge.pw_rayround_k68_papers_of_walks_and_turning s.abs.heap && gensDone s.abs && laidKept (boot_heap w.params) s.abs.heap),
  openSeen (qf PySem.Challenge.pw_rayround_k68_papers_of_walks_and_turning) lo (importedModules PySem.Challenge.pw_rayround_k68_papers_of_walks_and_turning.main.body) (fun s=>xlAt (qf PySem.Challenge.pw_rayround_k68_papers_of_walks_and_turning) [] s && recOk [] s) true s.abs,asK.map s.abs.heap.get?))=some (true,openGood (qf PySem.Challenge.pw_rayround_k68_papers_of_walks_and_turning) lo,(Kf PySem.Challenge.pw_rayround_k68_papers_of_walks_and_turning w.params).map fun x=>some x.2):=by
 rw[HD.Zp5,HD.Zlb,HD.Zm5,HD.Zm6,HD.Zlc,HD.Zm7]
 kernel_rfl
set_option maxRecDepth 1000000 in
set_option maxHeartbeats 0 in
theorem Ztb:PySem.W.OpenLaw.wellSaid PySem.Challenge.rw_rayround_k68_papers_of_walks_and_turning=true:=by kernel_rfl
end K68
end
section
namespace L2
open PySem PySem.Spec PyProof.Rows
end L2
namespace L2
open PySem PySem.Spec PyProof.Rows
section
variable (P:Program)(w:World)
end
section
variable {P:Program}{w:World}{H H':Hp}{h h':Heap}{a:Addr}{o:HO}
end
section
variable {P:Program}{w:World}{H:Hp}{h h':Heap}{x e:Addr}{o':HO}
end
section
variable {fs fs' ex ex':List Addr}{H H1 H2:Hp}{h h1 h2 h':Heap}{a x e:Addr}{o:HO}
end
end L2
namespace L2
open PySem PySem.Spec PyProof.Rows
section
variable {X:Cx}{pins:List (Addr × Obj)}{σ:List (Option V)}{H H':Hp}{s:Shared}{h':Heap}
end
end L2
namespace L2
open PySem PySem.Spec PyProof.Rows
section
variable {X:Cx}
variable {a b:Expr}{ta tb:TE}{pos:Pos}
variable {tA tB':TT}{Za7:List Expr}
end
end L2
namespace L2
open PySem PySem.Spec PyProof.Rows
section
variable {X:Cx}{pins:List (Addr × Obj)}{σ:St}{H:Hp}{s:Shared}{a:Addr}{xs ys:List V}
end
section
variable {X:Cx}{pins:List (Addr × Obj)}{σ:St}{H:Hp}{s:Shared}{E:Value->Shared->Prop}
end
section
variable {X:Cx}{st:Stmt}{Za7:List Stmt}{t u:TS}{e:Expr}{te:TE}{pos:Pos}
end
section
variable {X:Cx}{pos:Pos}
end
section
variable {X:Cx}{pos:Pos}
end
end L2
namespace L2
open PySem PySem.Spec PyProof.Rows
section
variable {X:Cx}{tg:Expr}
end
end L2
namespace L2
open PySem PySem.Spec PyProof.Rows
section
variable {X:Cx}{a b c:Expr}{ta tb tc:TE}{pos:Pos}
end
section
variable {X:Cx}{a b c:Expr}{ta tb tc:TE}{pos:Pos}
end
end L2
namespace L2
open PySem PySem.Spec PyProof.Rows
section
variable {prog:Program}{w:World}{A:Around}{E:Value->Shared->Prop}{s:Shared}{K:PySem.W.Frag}{x dx C f:Addr}{mA:Str->Option Value}{name:Str}{v:Value}
end
section
variable {P:Program}{w:World}{H H':Hp}{h h':Heap}{a C dx:Addr}{fs fs':List (Str × V)}
end
section
variable {X:Cx}{pins:List (Addr × Obj)}{σ:St}{H:Hp}{s:Shared}{a C dx:Addr}{fs:List (Str × V)}{f:Str}{v:V}{A:Around}{E:Value->Shared->Prop}
end
section
variable {X:Cx}{o e value:Expr}{f:Str}{pos pos' tpos:Pos}{ta tv:TE}
end
section
variable {X:Cx}{pins:List (Addr × Obj)}{σ:St}{H:Hp}{s:Shared}{A:Around}{E:Value->Shared->Prop}{Q:Value->Shared->Prop}{c:Value}{b:Bool}
end
end L2
namespace L2
open PySem PySem.Spec PyProof.Rows
section
variable {X:Cx}{e:Expr}{es:List Expr}{te:TE}{t:TA}{pos:Pos}
end
section
variable {X:Cx}{pins:List (Addr × Obj)}{σ:St}{H:Hp}{s s':Shared}
end
section
variable {X:Cx}{CX:CXT}{k:Nat}{f C:Addr}{fd:FuncData}{ps:List Str}{sp:Sp}{dvs:List V}{ds:List Value}{E:XK}{x m:Str}{p pos apos:Pos}{e o:Expr}{es:List Expr}{ta:TE}{t:TA}
end
section
variable {X:Cx}{CX:CXT}{k:Nat}{f C:Addr}{fd:FuncData}{ps ks:List Str}{sp:Sp}{E:XK}{x m:Str}{p pos apos kpos:Pos}{e o:Expr}{es:List Expr}{kws:List Keyword}{te ta:TE}{t tk:TA}{nm:Option Str}
variable {g:List Value->List Value->List Value}{gV:List V->List V->List V}
end
end L2
namespace L2
open PySem PySem.Spec PyProof.Rows
section
variable {X:Cx}{x:Str}{p pos:Pos}{e:Expr}{es:List Expr}{t:TA}{id T:String}{r:List V->Hp->VK->Prop}
end
end L2
namespace L2
open PySem PySem.Spec PyProof.Rows
section
variable {κ:Type}[DecidableEq κ]
end
section
variable {P:Program}{w:World}{H:Hp}{h:Heap}{a:Addr}
end
section
variable {X:Cx}{pins:List (Addr × Obj)}{σ:St}{H:Hp}{s:Shared}{a:Addr}{y v:V}{u r:Value}{o:Option V}{A:Around}{E:Value->Shared->Prop}
end
section
variable {X:Cx}{pins:List (Addr × Obj)}{σ:St}{H:Hp}{s:Shared}{a:Addr}{kvs:List (Key × V)}{k:Key}{u:Value}{A:Around}{E:Value->Shared->Prop}
end
section
variable {X:Cx}{o i e value:Expr}{pos pos' tpos:Pos}{td ty tv:TE}
end
section
variable {X:Cx}{pos:Pos}
end
structure M1 (X:Cx) (o:Expr) (m:Str) (apos:Pos) (e:Expr) (cpos:Pos):Prop where
 base:attributeBase o m X.env (eval o X.env)=eval o X.env
 few:((backTo cpos (starEach [e] X.env)).all (fun x=> !x.1) && (backToKw cpos (keywordEach [] X.env)).all (fun x=>x.1.isSome)
  && decide (([e]:List Expr).length + ([]:List Keyword).length + (if ([]:List Keyword).isEmpty then 0 else 1) < 30))=true
 line:(apos.endLine == cpos.line)=true
 trees:backTo cpos (starEach [e] X.env)=[(false,eval e X.env)]
structure M2 (X:Cx) (o:Expr) (m:Str) (apos:Pos) (e f:Expr) (cpos:Pos):Prop where
 base:attributeBase o m X.env (eval o X.env)=eval o X.env
 few:((backTo cpos (starEach [e,f] X.env)).all (fun x=> !x.1) && (backToKw cpos (keywordEach [] X.env)).all (fun x=>x.1.isSome)
  && decide (([e,f]:List Expr).length + ([]:List Keyword).length + (if ([]:List Keyword).isEmpty then 0 else 1) < 30))=true
 line:(apos.endLine == cpos.line)=true
 trees:backTo cpos (starEach [e,f] X.env)=[(false,eval e X.env),(false,eval f X.env)]
section
variable {X:Cx}{pins:List (Addr × Obj)}{σ:St}{H:Hp}{s:Shared}{a:Addr}{y d:V}{u r:Value}{o:Option V}{A:Around}{E:Value->Shared->Prop}
end
section
variable {X:Cx}{o e f:Expr}{apos cpos:Pos}{td ty tx:TE}
end
section
variable {X:Cx}{pins:List (Addr × Obj)}{σ:St}{H:Hp}{s:Shared}{a:Addr}{kvs:List (Key × V)}{A:Around}{E:Value->Shared->Prop}
end
section
variable {X:Cx}{pins:List (Addr × Obj)}{σ:St}{H:Hp}{s:Shared}{a:Addr}{y:V}{u:Value}{A:Around}{E:Value->Shared->Prop}
end
end L2
namespace Att
open PySem PySem.W PySem.Calls PyProof.Rows
section
variable {prog:Program}{w:World}{A:Around}{E:Value->Shared->Prop}{s:Shared}{K:Frag}
end
end Att
namespace L2
open PySem PySem.Spec PyProof.Rows
end L2
namespace L2
open PySem PySem.Spec PyProof.Rows
end L2
namespace L2
open PySem PySem.Spec PyProof.Rows
section
variable {P:Program}{w:World}{K:PySem.W.Frag}{mg:Str->Option Value}{base:Heap}
end
section
variable {X:Cx}
end
section
variable {κ:Type}[DecidableEq κ]
end
end L2
end
section
namespace DQ
open PySem PySem.Spec PyProof.Rows
structure Fly (B:Heap) (l:List Env) (e:Addr) (cls:Value) (dct:Option Addr) (fl:Value) (h:Heap):Prop where
 stay:B.StaysIn h
 new:B.get? e=none
 frames:h.FunFrames B l
 obj: ∃ oe vs T oT ts,h.get? e=some oe/\oe.cls=cls/\oe.dict=dct/\oe.data= .fields vs/\vs[2]?=some .none/\vs[1]?=some (.ref T)/\B.get? T=none/\T≠e/\h.get? T=some oT/\oT.data= .fields ts/\ts[3]?=some fl
theorem Fly.tail {B:Heap}{env:Env}{l:List Env}{e:Addr}{cls:Value}{dct:Option Addr}{fl:Value}{h:Heap}(f:Fly B (env :: l) e cls dct fl h):Fly B l e cls dct fl h:=⟨f.stay,f.new,f.frames.2.2,f.obj⟩
section
variable {M:Model}{A:Around}{E:Value->Shared->Prop}{s:Shared}{B:Heap}{env:Env}{outer l:List Env}{L e:Addr}{cls:Value}{dct:Option Addr}{fl:Value}
theorem apart {h:Heap}{oe:Obj}{vs:Array Value}(hl:h.FunFrames B l)(he:h.get? e=some oe)(hd:oe.data= .fields vs):e ∉ l.filterMap (·.frame):=fun z=>by
 obtain ⟨_,o,h1,h2⟩:=hl.mem z
 rw[he] at h1;cases h1
 exact h2 vs hd
theorem ZcT {oe:Obj}{vs:Array Value}{head:Value}{hn:Bool}{Q:Unit->Shared->Prop}(hfr:A.frames=some (env :: outer))(hl:s.heap.FunFrames B (env :: outer))(hf:env.frame=some L)
  (he:s.heap.get? e=some oe) (hs:B.StaysIn s.heap) (hb:B.get? e=none) (hd:oe.data= .fields vs) (hz:2 < vs.size) (h2:vs[2]?=some .none)
  (h: ∀ h',Fly B (env :: outer) e oe.cls oe.dict (rawInt L) h'->s.heap.UpToSlots h'->Q () { s with heap:=h' }):
  wpAny M A (frameOf env >>= fun a=>entryPlaceOf L hn >>= fun pl=>EntryCells.newEntry head a .none (rawInt L) .none pl >>= fun b=>setField (.ref e) 1 b) Q E s:=by
 have ne:=apart hl he hd
 refine wpAny_bind (wpAny_frameOf_fun hfr hl hf fun h1 k1=>wpAny_bind (wpAny_entryPlaceOf fun pl hpl=>wpAny_bind ?_))
 unfold EntryCells.newEntry newFields;refine wpAny_newObj_type ?_ (hpl.sizeOk5 _ _ _ _ _)
 generalize hT:([head,Value.ref L,Value.none,rawInt L,Value.none] ++ (if pl.isEmpty then List.replicate 6 Value.none else pl)).toArray=ts;have h3:ts[3]?=some (rawInt L):=by
  rw[<- hT]
  rcases hpl with rfl | ⟨_,_,_,_,_,_,_,rfl⟩<;>simp
 have e1:h1.get? e=some oe:=(k1.2.1 e ne).trans he
 have s1:B.StaysIn h1:=fun b o hbo=>(k1.2.1 b fun z=>by rw[(hl.mem z).1] at hbo;cases hbo).trans (hs b o hbo)
 generalize hoT:({ cls:= .type "traceback",dict:=none,data:= .fields ts }:Obj)=oT;have dT:oT.data= .fields ts:=by rw[<- hoT]
 have fT:oT.isFreed=false:=Obj.isFreed_of_fields dT
 have e2:(h1.push oT).get? e=some oe:=Heap.get?_push_of_some _ e1
 have nT:h1.objs.size≠e:=Nat.ne_of_gt (Heap.lt_size e1)
 refine wpAny_setField e2 hd (Nat.lt_trans (by decide) hz) (h _ ?_ ?_)
 ·have d3:=Obj.data_mapFields hd (·.setIfInBounds 1 (Value.ref h1.objs.size))
  have e3:=Heap.get?_update_self (Obj.mapFields (·.setIfInBounds 1 (Value.ref h1.objs.size))) e2 (Obj.isFreed_of_fields d3)
  have keep: ∀ b o,b≠e->h1.get? b=some o->((h1.push oT).update e (Obj.mapFields (·.setIfInBounds 1 (Value.ref h1.objs.size)))).get? b=some o:=fun b o hbe x=>by
   rw[Heap.get?_update_other _ _ (Ne.symm hbe)]
   exact Heap.get?_push_of_some _ x
  have gT:(h1.push oT).get? h1.objs.size=some oT:=Heap.get?_push_size _ fT
  refine ⟨fun b o x=>keep b o (fun z=>by rw[z,hb] at x;cases x) (s1 b o x),hb,hl.of_keeps fun b o x y=> ?_,_,_,h1.objs.size,oT,ts,e3,Obj.cls_mapFields _ _,?_,d3,?_,?_,s1.fresh,nT,?_,dT,h3⟩
  ·obtain ⟨sl,z⟩:=k1.2.2 b o x
   exact ⟨_,keep b _ (fun w=>y vs (by rw[w,he] at x;cases x;exact hd)) z,rfl⟩
  ·obtain ⟨c,d,dd,sl⟩:=oe
   cases hd
   rfl
  ·rw[Array.getElem?_setIfInBounds_ne (by decide)]
   exact h2
  ·rw[Array.getElem?_setIfInBounds_self_of_lt (Nat.lt_trans (by decide) hz)]
  ·rw[Heap.get?_update_other _ _ (Ne.symm nT)]
   exact gT
 ·intro b o x y
  obtain ⟨sl,z⟩:=k1.2.2 b o x
  refine ⟨sl,?_⟩
  rw[Heap.get?_update_other _ _ (fun w=>y vs (by rw[<- w,he] at x;cases x;exact hd))]
  exact Heap.get?_push_of_some _ z
theorem ZcI {Q:Unit->Shared->Prop}(f:Fly B l e cls dct fl s.heap)(h: ∀ h',Fly B l e cls dct .none h'->s.heap.UpToSlots h'->Q () { s with heap:=h' }):wpAny M A (setFlight (.ref e) none) Q E s:=by
 obtain ⟨st,nw,fr,oe,vs,T,oT,ts,g1,g2,g3,g4,g5,g6,g7,g8,g9,g10,g11⟩:=f
 have hz:3 < ts.size:=(Array.getElem?_eq_some_iff.mp g11).1
 unfold setFlight;refine wpAny_bind (wpAny_field g1 g4 g6 ?_)
 rw[if_pos (by simp)]
 have oth: ∀ b o,b≠T->s.heap.get? b=some o->(s.heap.update T (Obj.mapFields (·.setIfInBounds 3 Value.none))).get? b=some o:=fun b o hb x=>by
  rw[Heap.get?_update_other _ _ (Ne.symm hb)]
  exact x
 have nr: ∀ b o,s.heap.get? b=some o->(∀ vs,o.data≠ .fields vs)->b≠T:=fun b o x y z=>by
  rw[z,g9] at x;cases x
  exact y ts g10
 refine wpAny_setField g9 g10 hz (h _ ⟨fun b o x=>oth b o (fun z=>by rw[z,g7] at x;cases x) (st b o x),nw,fr.of_keeps fun b o x y=>⟨o,oth b o (nr b o x y) x,rfl⟩,?_⟩ fun b o x y=>⟨o.slots,oth b o (nr b o x y) x⟩)
 exact ⟨oe,vs,T,_,_,oth e oe (Ne.symm g8) g1,g2,g3,g4,g5,g6,g7,g8,Heap.get?_update_self _ g9 (Obj.isFreed_of_fields (Obj.data_mapFields g10 _)),Obj.data_mapFields g10 _,by rw[Array.getElem?_setIfInBounds_self_of_lt hz];rfl⟩
theorem Zfy {Q:Unit->Shared->Prop}(hfr:A.frames=some (env :: outer))(hf:env.frame=some L)(f:Fly B (env :: outer) e cls dct .none s.heap)
  (h: ∀ h',Fly B (env :: outer) e cls dct (rawInt L) h'->s.heap.UpToSlots h'->Q () { s with heap:=h' }):wpAny M A (noteFrame (.ref e) env) Q E s:=by
 obtain ⟨st,nw,fr,oe,vs,T,oT,ts,g1,g2,g3,g4,g5,g6,g7,g8,g9,g10,g11⟩:=f
 unfold noteFrame;simp only[hf];refine wpAny_bind (wpAny_field g1 g4 g6 ?_)
 rw[if_pos (by simp)]
 refine wpAny_bind (wpAny_field g9 g10 g11 ?_)
 rw[if_neg (by simp[rawInt])]
 have oth: ∀ b o,b≠T->s.heap.get? b=some o->(s.heap.update T (Obj.mapFields (·.setIfInBounds 3 Value.none))).get? b=some o:=fun b o hb x=>by
  rw[Heap.get?_update_other _ _ (Ne.symm hb)]
  exact x
 have nr: ∀ b o,s.heap.get? b=some o->(∀ vs,o.data≠ .fields vs)->b≠T:=fun b o x y z=>by
  rw[z,g9] at x;cases x
  exact y ts g10
 refine wpAny_bind (wpAny_setField g9 g10 (Array.getElem?_eq_some_iff.mp g11).1 ?_)
 refine ZcT hfr (fr.of_keeps fun b o x y=>⟨o,oth b o (nr b o x y) x,rfl⟩) hf (oth e oe (Ne.symm g8) g1) (fun b o x=>oth b o (fun z=>by rw[z,g7] at x;cases x) (st b o x)) nw g4 (Array.getElem?_eq_some_iff.mp g5).1 g5 fun h' k1 k2=>h h' (g2 ▸ g3 ▸ k1) ?_
 intro b o x y;exact k2 b o (oth b o (nr b o x y) x) y
theorem Zhj {Q:Unit->Shared->Prop}(hfr:A.frames=some (env :: outer))(hf:env.frame=some L)(f:Fly B (env :: outer) e cls dct .none s.heap)
  (h: ∀ h',Fly B outer e cls dct .none h'->s.heap.UpToSlots h'->Q () { s with heap:=h' }):wpAny M A (leaving env (.ref e)) Q E s:=by
 unfold leaving;refine wpAny_bind (Zfy hfr hf f fun h1 k1 u1=> ?_)
 exact ZcI (s:={ s with heap:=h1 }) k1 fun h2 k2 u2=>h h2 k2.tail (u1.trans u2)
theorem Zhk {oe:Obj}{vs:Array Value}{Q:Unit->Shared->Prop}(hfr:A.frames=some (env :: outer))(hf:env.frame=some L)(hl:s.heap.FunFrames B (env :: outer))(he:s.heap.get? e=some oe)(hs:B.StaysIn s.heap)(hb:B.get? e=none)(hd:oe.data= .fields vs)(h1:vs[1]?=some .none)(h2:vs[2]?=some .none)
  (h: ∀ h',Fly B outer e oe.cls oe.dict .none h'->s.heap.UpToSlots h'->Q () { s with heap:=h' }):wpAny M A (leaving env (.ref e)) Q E s:=by
 unfold leaving noteFrame;simp only[hf];refine wpAny_bind (wpAny_bind (wpAny_field he hd h1 ?_))
 rw[if_neg (by decide)]
 refine ZcT hfr hl hf he hs hb hd (Array.getElem?_eq_some_iff.mp h2).1 h2 fun h' k1 u1=> ?_
 exact ZcI (s:={ s with heap:=h' }) k1 fun h2 k2 u2=>h h2 k2.tail (u1.trans u2)
end
end DQ
end
section
namespace DQ
open PySem PySem.Spec PyProof.Rows
open PySem.W (Looks findIn mroIn specialIn takesIn clsIn looks_findIn looks_mroIn looks_find findObj KitX)
structure ExcC (K:PySem.W.Frag) (C:Addr):Prop where
 ga:findIn K (.ref C) "__getattribute__"=some (some (.builtin "BaseException.__getattribute__"))
 gt:findIn K (.ref C) "__getattr__"=some none
 cl:findIn K (.ref C) "__class__"=some (some (.builtin "object.__class__"))
 gs:specialIn K (.builtin "object.__class__") "__get__"=some (some (.builtin "getset_descriptor.__get__"))
 tk:takesIn K (.builtin "object.__class__")=some true
 bx:mroIn K C (.type "BaseException")=some true
 ob:mroIn K C (.type "object")=some true
 is:(clsIn K C).isSome=true
section
variable {prog:Program}{w:World}{A:Around}{E:Value->Shared->Prop}{s:Shared}{K:PySem.W.Frag}{e C:Addr}{oe:Obj}{od:Option Obj}
end
end DQ
end
section
namespace DL
open PySem PySem.Spec PyProof.Rows L2
inductive D where
 |non
 |bl (b:Bool)
 |int (i:Int)
 |str (x:Str)
 |tup (xs:List D)
 |rol (xs:List D)
 |con (xs:List D)
 |ref (n:Nat)
 |err (c:Str) (xs:List D)
 |dk (n:Nat)
 |dt (n:Nat)
 |fn (c:Str)
inductive SO where
 |lst (xs:List D)
noncomputable abbrev Sto:=List SO
noncomputable abbrev Ro:=List (Option D)
noncomputable def SqF (K:PySem.W.Frag)(H:Hp)(a:Addr)(xs:List V):Prop:=
 (∃ o,H a=some (.frz o (.lst xs)))\/ ∃ (o:Obj) (its:Array Value) (n:Nat),K.lookup a=some o/\o.cls= .type "list"/\o.dict=none/\o.data= .seq its n/\its.size<=sizeLine/\ZX xs its.toList
theorem SqF.sq {K:PySem.W.Frag}{H:Hp}{a:Addr}{xs:List V}(h:SqF K H a xs):SqL K H a xs:=by
 rcases h with ⟨o,h⟩ | h
 ·exact .inl (.inr ⟨o,h⟩)
 ·exact .inr h
noncomputable def SqK (K:PySem.W.Frag)(a:Addr)(xs:List V):Prop:= ∃ (o:Obj) (its:Array Value) (n:Nat),K.lookup a=some o/\o.cls= .type "tuple"/\o.data= .seq its n/\its.size<=sizeLine/\ZX xs its.toList/\o.dict=none
theorem SqK.sq {K:PySem.W.Frag}{H:Hp}{a:Addr}{xs:List V}(h:SqK K a xs):SqT K H a xs:=
 let ⟨o,its,n,h1,h2,h3,h4,h5,_⟩:=h
 .inr ⟨o,its,n,h1,h2,h3,h4,h5⟩
noncomputable def ZrV:List Str:=[PySem.Str.ofString "where",PySem.Str.ofString "at"]
noncomputable def EOk (H:Hp)(p C:Addr)(xs:List V):Prop:= ∃ oe u vs,H p=some (.frz oe u)/\oe.cls= .ref C/\oe.data= .fields vs/\vs[2]?=some .none/\((xs=[]/\oe.dict=none)\/ ∃ dx fs,oe.dict=some dx/\H dx=some (.xd fs)/\fs.map (·.2)=xs/\fs.map (·.1)=ZrV)
noncomputable def Kn (H:Hp)(p:Addr):Option Nat:=match H p with | some (.lst _)=>some 0 | some (.dK _)=>some 1 | some (.dT _)=>some 2 | some (.frz _ (.dK _))=>some 1 | some (.frz _ (.dT _))=>some 2 | _=>none
structure RefK (H:Hp) (α:List Addr) (j n:Nat) (p:Addr):Prop where
 at':α[n]?=some p
 kn:Kn H p=some j
theorem Kn.lst {H:Hp}{p:Addr}{xs:List V}(h:H p=some (.lst xs)):Kn H p=some 0:=by unfold Kn;rw[h]
theorem Kn.ne {H:Hp}{p q:Addr}{j:Nat}{o:HO}(h:Kn H p=some j)(hq:H q=none):Kn (upd H q o) p=some j:=by
 have:p≠q:=by
  intro z;unfold Kn at h;rw[z,hq] at h;cases h
 unfold Kn;rw[Zu this];exact h
mutual
inductive Rep (K:PySem.W.Frag) (H:Hp) (α:List Addr):V->D->Prop where
 |non:Rep K H α .non .non
 |bl (b:Bool):Rep K H α (.bl b) (.bl b)
 |int (i:Int):Rep K H α (.int i) (.int i)
 |str (x:Str):Rep K H α (.str x) (.str x)
 |tup {p:Addr} {xs:List V} {ds:List D}:H p=some (.tup xs)->Reps K H α xs ds->Rep K H α (.ref p) (.tup ds)
 |rol {p:Addr} {xs:List V} {ds:List D}:SqF K H p xs->Reps K H α xs ds->Rep K H α (.ref p) (.rol ds)
 |con {p:Addr} {xs:List V} {ds:List D}:SqK K p xs->Reps K H α xs ds->Rep K H α (.ref p) (.con ds)
 |ref {p:Addr} {n:Nat}:RefK H α 0 n p->Rep K H α (.ref p) (.ref n)
 |dk {p:Addr} {n:Nat}:RefK H α 1 n p->Rep K H α (.ref p) (.dk n)
 |dt {p:Addr} {n:Nat}:RefK H α 2 n p->Rep K H α (.ref p) (.dt n)
 |fn {p:Addr} {c:Str}:PySem.W.nsIn K mainGlobals c=some (some (.ref p))->Rep K H α (.ref p) (.fn c)
 |err {p C:Addr} {c:Str} {xs:List V} {ds:List D}:PySem.W.nsIn K mainGlobals c=some (some (.ref C))->EOk H p C xs->Reps K H α xs ds->Rep K H α (.ref p) (.err c ds)
inductive Reps (K:PySem.W.Frag) (H:Hp) (α:List Addr):List V->List D->Prop where
 |nil:Reps K H α [] []
 |cons {v:V} {d:D} {vs:List V} {ds:List D}:Rep K H α v d->Reps K H α vs ds->Reps K H α (v :: vs) (d :: ds)
end
structure Ext (K:PySem.W.Frag) (H H':Hp) (α α':List Addr):Prop where
 tup: ∀ p xs,H p=some (.tup xs)->H' p=some (.tup xs)
 rol: ∀ p xs,SqF K H p xs->SqF K H' p xs
 err: ∀ p C xs,EOk H p C xs->EOk H' p C xs
 kn: ∀ p j,Kn H p=some j->Kn H' p=some j
 fz: ∀ p o u,H p=some (.frz o u)->H' p=some (.frz o u)
 al: ∃ β,α'=α ++ β
section
variable {K:PySem.W.Frag}{H H1 H2 H':Hp}{α α1 α2 α':List Addr}
theorem Ext.refl:Ext K H H α α:=⟨fun _ _ h=>h,fun _ _ h=>h,fun _ _ _ h=>h,fun _ _ h=>h,fun _ _ _ h=>h,[],(List.append_nil _).symm⟩
theorem Ext.trans (a:Ext K H H1 α α1)(b:Ext K H1 H2 α1 α2):Ext K H H2 α α2:=by
 obtain ⟨b1,e1⟩:=a.al
 obtain ⟨b2,e2⟩:=b.al
 exact ⟨fun p xs h=>b.tup p xs (a.tup p xs h),fun p xs h=>b.rol p xs (a.rol p xs h),fun p C xs h=>b.err p C xs (a.err p C xs h),fun p j h=>b.kn p j (a.kn p j h),fun p o u h=>b.fz p o u (a.fz p o u h),b1 ++ b2,by rw[e2,e1,List.append_assoc]⟩
theorem Ext.get0 (e:Ext K H H' α α'){n:Nat}{p:Addr}(h:α[n]?=some p):α'[n]?=some p:=by
 obtain ⟨β,e1⟩:=e.al
 have hl:n < α.length:=(List.getElem?_eq_some_iff.mp h).1
 rw[e1,List.getElem?_append_left hl]
 exact h
theorem Ext.get (e:Ext K H H' α α'){j n:Nat}{p:Addr}(h:RefK H α j n p):RefK H' α' j n p:=⟨e.get0 h.at',e.kn _ _ h.kn⟩
mutual
theorem Rep.mono (e:Ext K H H' α α'): ∀ {v:V} {d:D},Rep K H α v d->Rep K H' α' v d
 |_,_,.non=> .non
 |_,_,.bl b=> .bl b
 |_,_,.int i=> .int i
 |_,_,.str x=> .str x
 |_,_,.tup h r=> .tup (e.tup _ _ h) (Reps.mono e r)
 |_,_,.rol h r=> .rol (e.rol _ _ h) (Reps.mono e r)
 |_,_,.con h r=> .con h (Reps.mono e r)
 |_,_,.ref h=> .ref (e.get h)
 |_,_,.dk h=> .dk (e.get h)
 |_,_,.dt h=> .dt (e.get h)
 |_,_,.fn h=> .fn h
 |_,_,.err n h r=> .err n (e.err _ _ _ h) (Reps.mono e r)
theorem Reps.mono (e:Ext K H H' α α'): ∀ {vs:List V} {ds:List D},Reps K H α vs ds->Reps K H' α' vs ds
 |_,_,.nil=> .nil
 |_,_,.cons r t=> .cons (Rep.mono e r) (Reps.mono e t)
end
theorem Reps.length: ∀ {vs:List V} {ds:List D},Reps K H α vs ds->vs.length=ds.length
 |_,_,.nil=>rfl
 |_,_,.cons _ t=>by rw[List.length_cons,List.length_cons,Reps.length t]
theorem Reps.get: ∀ {vs:List V} {ds:List D} {i:Nat} {d:D},Reps K H α vs ds->ds[i]?=some d-> ∃ v,vs[i]?=some v/\Rep K H α v d
 |_,_,_,_,.nil,e=>by simp at e
 |_,_,0,_,.cons r _,e=>by simp at e;subst e;exact ⟨_,rfl,r⟩
 |_,_,i + 1,d,.cons _ t,e=>by
  obtain ⟨u,h1,h2⟩:=Reps.get (i:=i) (d:=d) t (by simpa using e)
  exact ⟨u,by simpa using h1,h2⟩
theorem Reps.set {v:V}{d:D}(r:Rep K H α v d): ∀ {vs:List V} {ds:List D} (i:Nat),Reps K H α vs ds->Reps K H α (vs.set i v) (ds.set i d)
 |_,_,_,.nil=> .nil
 |_,_,0,.cons _ t=> .cons r t
 |_,_,i + 1,.cons q t=> .cons q (Reps.set r i t)
theorem Reps.append: ∀ {vs ws:List V} {ds es:List D},Reps K H α vs ds->Reps K H α ws es->Reps K H α (vs ++ ws) (ds ++ es)
 |_,_,_,_,.nil,s=>s
 |_,_,_,_,.cons r t,s=> .cons r (Reps.append t s)
theorem Reps.ints: ∀ (ns:List Int),Reps K H α (ns.map V.int) (ns.map D.int)
 | []=> .nil
 |n :: r=> .cons (.int n) (Reps.ints r)
theorem Zhl {p q:Addr}{xs:List V}{o:HO}(h:H q=some (.tup xs))(hp: ∀ u,H p=some u->(∀ ys,u≠ .tup ys)/\ ∀ ob w,u≠ .frz ob w):upd H p o q=some (.tup xs):=by
 rw[Zu (fun e=>(hp _ (e ▸ h)).1 _ rfl)]
 exact h
theorem Zhm {p q:Addr}{xs:List V}{o:HO}(h:SqF K H q xs)(hp: ∀ u,H p=some u-> ∀ ob w,u≠ .frz ob w):SqF K (upd H p o) q xs:=by
 rcases h with ⟨ob,h⟩ | h
 ·refine .inl ⟨ob,?_⟩
  rw[Zu (fun e=>hp _ (e ▸ h) _ _ rfl)]
  exact h
 ·exact .inr h
theorem Zkb {p q:Addr}{ob:Obj}{u o:HO}(h:H q=some (.frz ob u))(hp: ∀ u,H p=some u-> ∀ ob w,u≠ .frz ob w):upd H p o q=some (.frz ob u):=by
 rw[Zu (fun e=>hp _ (e ▸ h) _ _ rfl)]
 exact h
theorem Zhn {p q C:Addr}{xs:List V}{o:HO}(h:EOk H q C xs)(hp: ∀ u,H p=some u->(∀ ob w,u≠ .frz ob w)/\ ∀ fs,u≠ .xd fs):EOk (upd H p o) q C xs:=by
 obtain ⟨oe,u,vs,h1,h2,h3,h4,h5⟩:=h
 refine ⟨oe,u,vs,?_,h2,h3,h4,?_⟩
 ·rw[Zu (fun e=>(hp _ (e ▸ h1)).1 _ _ rfl)]
  exact h1
 ·rcases h5 with h5 | ⟨dx,fs,k1,k2,k3⟩
  ·exact .inl h5
  ·refine .inr ⟨dx,fs,k1,?_,k3⟩
   rw[Zu (fun e=>(hp _ (e ▸ k2)).2 _ rfl)]
   exact k2
theorem Ext.new {p:Addr}{o:HO}(h:H p=none){β:List Addr}:Ext K H (upd H p o) α (α ++ β):=
 ⟨fun q xs z=>Zhl z (fun u e=>(by rw[h] at e;cases e)),fun q xs z=>Zhm z (fun u e=>(by rw[h] at e;cases e)),fun q C xs z=>Zhn z (fun u e=>(by rw[h] at e;cases e)),fun q j z=>Kn.ne z h,fun q o u z=>Zkb z (fun u e=>(by rw[h] at e;cases e)),β,rfl⟩
theorem Ext.new0 {p:Addr}{o:HO}(h:H p=none):Ext K H (upd H p o) α α:=by
 have e:=Ext.new (K:=K) (H:=H) (α:=α) (o:=o) h (β:=[])
 rw[List.append_nil] at e;exact e
theorem Ext.wrK {p:Addr}{o:HO}{j:Nat}(h:Kn H p=some j)(nf: ∀ ob w,H p≠some (.frz ob w))(h':Kn (upd H p o) p=some j):Ext K H (upd H p o) α α:=by
 have ne (u:HO) (e:H p=some u):(∀ ys,u≠ .tup ys)/\(∀ ob w,u≠ .frz ob w)/\ ∀ fs,u≠ .xd fs:=by
  unfold Kn at h;rw[e] at h;refine ⟨fun ys z=> ?_,fun ob w z=>nf ob w (by rw[e,z]),fun fs z=> ?_⟩<;>subst z<;>cases h
 refine ⟨fun q xs z=>Zhl z fun u e=>⟨(ne u e).1,(ne u e).2.1⟩,fun q xs z=>Zhm z fun u e=>(ne u e).2.1,fun q C xs z=>Zhn z fun u e=>⟨(ne u e).2.1,(ne u e).2.2⟩,fun q i z=> ?_,fun q ob u z=>Zkb z fun u e=>(ne u e).2.1,[],(List.append_nil _).symm⟩
 by_cases c:q=p
 ·subst c
  rw[h] at z;cases z
  exact h'
 ·unfold Kn
  rw[Zu c];exact z
theorem Ext.wr {p:Addr}{xs ys:List V}(h:H p=some (.lst xs)):Ext K H (upd H p (.lst ys)) α α:=Ext.wrK (Kn.lst h) (fun ob w z=>by rw[h] at z;cases z) (Kn.lst Zv)
noncomputable def Zp6:Key->D
 | .inl i=> .int i
 | .inr x=> .str x
noncomputable def Zna (ks:List Key):D:= .tup (ks.map Zp6)
noncomputable def Zfz (K:PySem.W.Frag)(H:Hp)(α:List Addr){κ:Type}(key:κ->D)(kvs:List (κ × V))(ds:List D):Prop:=
 ∃ es:List D,ds=List.zipWith (fun kv e=>D.tup [key kv.1,e]) kvs es/\Reps K H α (kvs.map (·.2)) es
noncomputable def SOk (K:PySem.W.Frag)(H:Hp)(α:List Addr)(p:Addr):SO->Prop
 | .lst ds=>(∃ xs,H p=some (.lst xs)/\Reps K H α xs ds)\/(∃ kvs,H p=some (.dK kvs)/\Zfz K H α Zp6 kvs ds)\/(∃ kvs,H p=some (.dT kvs)/\Zfz K H α Zna kvs ds)\/(∃ o kvs r,H p=some (.frz o (.dK kvs))/\ds= .non :: r/\Zfz K H α Zp6 kvs r)\/(∃ o kvs r,H p=some (.frz o (.dT kvs))/\ds= .non :: r/\Zfz K H α Zna kvs r)
theorem SOk.there {p:Addr}{o:SO}(h:SOk K H α p o): ∃ u,H p=some u:=by
 cases o with
 |lst ds=>rcases h with ⟨_,e,_⟩ | ⟨_,e,_⟩ | ⟨_,e,_⟩ | ⟨_,_,_,e,_⟩ | ⟨_,_,_,e,_⟩<;>exact ⟨_,e⟩
theorem SOk.mono {p:Addr}{o:SO}(h:SOk K H α p o)(ex:Ext K H H' α α')(e:H' p=H p):SOk K H' α' p o:=by
 cases o with
 |lst ds=>
  rcases h with ⟨xs,h1,h2⟩ | ⟨kvs,h1,es,h2,h3⟩ | ⟨kvs,h1,es,h2,h3⟩ | ⟨o,kvs,r,h1,h0,es,h2,h3⟩ | ⟨o,kvs,r,h1,h0,es,h2,h3⟩
  ·exact .inl ⟨xs,e.trans h1,Reps.mono ex h2⟩
  ·exact .inr (.inl ⟨kvs,e.trans h1,es,h2,Reps.mono ex h3⟩)
  ·exact .inr (.inr (.inl ⟨kvs,e.trans h1,es,h2,Reps.mono ex h3⟩))
  ·exact .inr (.inr (.inr (.inl ⟨o,kvs,r,e.trans h1,h0,es,h2,Reps.mono ex h3⟩)))
  ·exact .inr (.inr (.inr (.inr ⟨o,kvs,r,e.trans h1,h0,es,h2,Reps.mono ex h3⟩)))
structure HR (K:PySem.W.Frag) (H:Hp) (α:List Addr) (M:Sto):Prop where
 len:α.length=M.length
 nd:α.Nodup
 ob: ∀ (n:Nat) (p:Addr) (o:SO),α[n]?=some p->M[n]?=some o->SOk K H α p o
theorem HR.nil:HR K H [] []:=⟨rfl,List.nodup_nil,fun n p o h=>by simp at h⟩
theorem Kn.at {H:Hp}{p:Addr}{j:Nat}{u:HO}(k:Kn H p=some j)(e:H p=some u):(match some u with | some (.lst _)=>some 0 | some (.dK _)=>some 1 | some (.dT _)=>some 2 | some (.frz _ (.dK _))=>some 1 | some (.frz _ (.dT _))=>some 2 | _=>none)=some j:=by
 unfold Kn at k;rw[e] at k;exact k
theorem HR.at (h:HR K H α M){n:Nat}{p:Addr}{ds:List D}(e:RefK H α 0 n p)(m:M[n]?=some (.lst ds)): ∃ xs,H p=some (.lst xs)/\Reps K H α xs ds:=by
 rcases h.ob n p _ e.at' m with h1 | ⟨_,h1,_⟩ | ⟨_,h1,_⟩ | ⟨_,_,_,h1,_⟩ | ⟨_,_,_,h1,_⟩
 ·exact h1
 all_goals exact absurd (Kn.at e.kn h1) (fun z=>nomatch z)
theorem RefK.lst {n:Nat}{p:Addr}(e:RefK H α 0 n p): ∃ xs,H p=some (.lst xs):=by
 have:=e.kn
 unfold Kn at this
 split at this
 ·rename_i xs h;exact ⟨xs,h⟩
 all_goals cases this
theorem HR.some_at {M:Sto}(h:HR K H α M){n:Nat}{p:Addr}(e:RefK H α 0 n p): ∃ xs,H p=some (.lst xs):=e.lst
theorem HR.there {M:Sto}(h:HR K H α M){n:Nat}{p:Addr}(e:α[n]?=some p): ∃ u,H p=some u:=by
 have hl:n < α.length:=(List.getElem?_eq_some_iff.mp e).1
 have hm:n < M.length:=by rw[<- h.len];exact hl
 exact (h.ob n p M[n] e (List.getElem?_eq_getElem hm)).there
theorem HR.tup {M:Sto}{p:Addr}{o:HO}(h:HR K H α M)(hp:H p=none):HR K (upd H p o) α M:=
 ⟨h.len,h.nd,fun n q so e m=>by
  obtain ⟨u,hu⟩:=h.there e
  exact (h.ob n q so e m).mono (Ext.new0 hp) (Zu (ZS hu hp))⟩
theorem HR.newO {M:Sto}{p:Addr}{o:HO}{so:SO}(h:HR K H α M)(hp:H p=none)(r:SOk K (upd H p o) (α ++ [p]) p so):HR K (upd H p o) (α ++ [p]) (M ++ [so]):=by
 have ex:Ext K H (upd H p o) α (α ++ [p]):=Ext.new hp
 refine ⟨by rw[List.length_append,List.length_append,h.len];rfl,?_,fun n q so' e m=> ?_⟩
 ·refine List.nodup_append.mpr ⟨h.nd,by simp,fun a ha b hb=> ?_⟩
  have hb':b=p:=by simpa using hb
  obtain ⟨n,hn,e⟩:=List.getElem_of_mem ha
  obtain ⟨u,z⟩:=h.there (n:=n) (p:=a) (by rw[List.getElem?_eq_getElem hn,e])
  rw[hb'];exact ZS z hp
 ·by_cases hn:n < α.length
  ·rw[List.getElem?_append_left hn] at e
   rw[List.getElem?_append_left (by rw[<- h.len];exact hn)] at m
   obtain ⟨u,hu⟩:=h.there e
   exact (h.ob n q so' e m).mono ex (Zu (ZS hu hp))
  ·have en:n=α.length:=by
    have:n < (α ++ [p]).length:=(List.getElem?_eq_some_iff.mp e).1
    rw[List.length_append,List.length_singleton] at this;omega
   subst en;rw[List.getElem?_append_right (Nat.le_refl _),Nat.sub_self] at e
   rw[h.len,List.getElem?_append_right (Nat.le_refl _),Nat.sub_self] at m
   cases e
   cases m
   exact r
theorem HR.new {M:Sto}{p:Addr}{xs:List V}{ds:List D}(h:HR K H α M)(hp:H p=none)(r:Reps K H α xs ds):HR K (upd H p (.lst xs)) (α ++ [p]) (M ++ [.lst ds]):=
 h.newO hp (.inl ⟨xs,Zv,Reps.mono (Ext.new hp) r⟩)
theorem Zjf {n m:Nat}{p:Addr}(h:α.Nodup)(a:α[n]?=some p)(b:α[m]?=some p):n=m:=by
 obtain ⟨h1,e1⟩:=List.getElem?_eq_some_iff.mp a
 obtain ⟨h2,e2⟩:=List.getElem?_eq_some_iff.mp b
 exact (List.getElem_inj h).mp (e1.trans e2.symm)
theorem HR.wrO {M:Sto}{n:Nat}{p:Addr}{o:HO}{so:SO}(h:HR K H α M)(e:α[n]?=some p)(ex:Ext K H (upd H p o) α α)(r:SOk K (upd H p o) α p so):HR K (upd H p o) α (M.set n so):=by
 have hn:n < M.length:=by rw[<- h.len];exact (List.getElem?_eq_some_iff.mp e).1
 refine ⟨by rw[List.length_set];exact h.len,h.nd,fun k q so' e' m=> ?_⟩
 by_cases hk:k=n
 ·subst hk
  rw[e] at e';cases e'
  rw[List.getElem?_set_self hn] at m
  cases m
  exact r
 ·rw[List.getElem?_set_ne (Ne.symm hk)] at m
  have hq:q≠p:=fun z=>hk (Zjf h.nd (z ▸ e') e)
  exact (h.ob k q so' e' m).mono ex (Zu hq)
theorem HR.wr {M:Sto}{n:Nat}{p:Addr}{xs ys:List V}{ds:List D}(h:HR K H α M)(e:RefK H α 0 n p)(hp:H p=some (.lst ys))(r:Reps K H α xs ds):HR K (upd H p (.lst xs)) α (M.set n (.lst ds)):=
 h.wrO e.at' (Ext.wr hp) (.inl ⟨xs,Zv,Reps.mono (Ext.wr hp) r⟩)
end
inductive Out (β:Type) where
 |ok (a:β) (M:Sto)
 |exc (c:Str) (M:Sto)
 |bad
noncomputable def Out.bind {β γ:Type}(o:Out β)(f:β->Sto->Out γ):Out γ:=match o with
 | .ok a M=>f a M
 | .exc c M=> .exc c M
 | .bad=> .bad
inductive Fl where
 |nx (ρ:Ro) (M:Sto)
 |ret (d:D) (M:Sto)
 |brk (ρ:Ro) (M:Sto)
 |cnt (ρ:Ro) (M:Sto)
 |exc (c:Str) (M:Sto)
 |bad
noncomputable def Zho (c:Str):Bool:=c == PySem.Str.ofString "NoRound"
noncomputable def XO (K:PySem.W.Frag)(H:Hp)(α:List Addr)(c:Str)(M:Sto)(dct:Option Addr):Prop:=
 (Zho c=false/\HR K H α M/\dct=none)\/(Zho c=true/\ ∃ (M0:Sto) (ds:List D) (dx:Addr) (fs:List (Str × V)),M=M0 ++ [.lst ds]/\HR K H α M0/\dct=some dx/\H dx=some (.xd fs)/\fs.map (·.1)=ZrV/\Reps K H α (fs.map (·.2)) ds)
noncomputable def OG {β γ:Type}(K:PySem.W.Frag)(R:Hp->List Addr->γ->β->Prop)(H:Hp)(α:List Addr)(ξ:XK)(Q:γ->Hp->Prop):Out β->Prop
 | .ok d M'=> ∀ v H' α',Ext K H H' α α'->HR K H' α' M'->R H' α' v d->Q v H'
 | .exc c M'=> ∀ C H' α',PySem.W.nsIn K mainGlobals c=some (some (.ref C))->Ext K H H' α α'-> ∀ dct,XO K H' α' c M' dct->ξ (.ref C) dct H'
 | .bad=>False
theorem OG.ext {β γ:Type}{K:PySem.W.Frag}{R:Hp->List Addr->γ->β->Prop}{H H1:Hp}{α α1:List Addr}{ξ:XK}{Q:γ->Hp->Prop}{o:Out β}(h:OG K R H α ξ Q o)(e:Ext K H H1 α α1):OG K R H1 α1 ξ Q o:=by
 cases o with
 |ok d M'=>exact fun v H' α' e'=>h v H' α' (e.trans e')
 |exc c M'=>exact fun C H' α' n e'=>h C H' α' n (e.trans e')
 |bad=>exact h
noncomputable abbrev OP (K:PySem.W.Frag):=OG K (Rep K)
noncomputable abbrev OT (K:PySem.W.Frag):=OG (β:=Bool) (γ:=Bool) K (fun _ _ v d=>v=d)
noncomputable abbrev OA (K:PySem.W.Frag):=OG K (Reps K)
noncomputable def SR (K:PySem.W.Frag)(H:Hp)(α:List Addr)(σ:L2.St)(ρ:Ro):Prop:=σ.length=ρ.length/\ ∀ (i:Nat) (d:D),ρ[i]?=some (some d)-> ∃ v,σ[i]?=some (some v)/\Rep K H α v d
theorem SR.mono {K:PySem.W.Frag}{H H':Hp}{α α':List Addr}{σ:L2.St}{ρ:Ro}(h:SR K H α σ ρ)(e:Ext K H H' α α'):SR K H' α' σ ρ:=
 ⟨h.1,fun i d q=>let ⟨v,a,b⟩:=h.2 i d q;⟨v,a,Rep.mono e b⟩⟩
theorem SR.set {K:PySem.W.Frag}{H:Hp}{α:List Addr}{σ:L2.St}{ρ:Ro}{v:V}{d:D}(h:SR K H α σ ρ)(i:Nat)(r:Rep K H α v d):SR K H α (σ.set i (some v)) (ρ.set i (some d)):=by
 refine ⟨by rw[List.length_set,List.length_set];exact h.1,fun j e q=> ?_⟩
 by_cases hj:j=i
 ·subst hj
  have hl:j < ρ.length:=by
   have:=(List.getElem?_eq_some_iff.mp q).1
   rw[List.length_set] at this;exact this
  rw[List.getElem?_set_self hl] at q
  cases q
  exact ⟨v,by rw[List.getElem?_set_self (by rw[h.1];exact hl)],r⟩
 ·rw[List.getElem?_set_ne (Ne.symm hj)] at q
  rw[List.getElem?_set_ne (Ne.symm hj)]
  exact h.2 j e q
noncomputable abbrev Ev:=Ro->Sto->Out D
noncomputable abbrev Tv:=Ro->Sto->Out Bool
noncomputable abbrev Av:=Ro->Sto->Out (List D)
noncomputable abbrev Sv:=Ro->Sto->Fl
noncomputable def DE (X:Cx)(ξ:XK)(e:Expr)(f:Ev):Prop:= ∃ t:TE,PE X e t/\ ∀ σ ρ H α M Q,SR X.K H α σ ρ->HR X.K H α M->OP X.K H α ξ Q (f ρ M)->t σ H Q
noncomputable def DT (X:Cx)(ξ:XK)(e:Expr)(f:Tv):Prop:= ∃ t:TT,PT X e t/\ ∀ σ ρ H α M Q,SR X.K H α σ ρ->HR X.K H α M->OT X.K H α ξ Q (f ρ M)->t σ H Q
noncomputable def DW (X:Cx)(ξ:XK)(e:Expr)(f:Tv):Prop:= ∃ t:TT,PW X e t/\ ∀ σ ρ H α M Q,SR X.K H α σ ρ->HR X.K H α M->OT X.K H α ξ Q (f ρ M)->t σ H Q
noncomputable def DA (X:Cx)(ξ:XK)(es:List Expr)(f:Av):Prop:= ∃ t:TA,PA X es t/\ ∀ σ ρ H α M Q,SR X.K H α σ ρ->HR X.K H α M->OA X.K H α ξ Q (f ρ M)->t σ H Q
theorem OG.seq {β γ β' γ':Type}{K:PySem.W.Frag}{R:Hp->List Addr->γ->β->Prop}{R':Hp->List Addr->γ'->β'->Prop}{H:Hp}{α:List Addr}{ξ:XK}{Q:γ'->Hp->Prop}{Q1:γ->Hp->Prop}{o:Out β}{f:β->Sto->Out β'}
  (h:OG K R' H α ξ Q (o.bind f)) (k: ∀ d M' v H' α',Ext K H H' α α'->HR K H' α' M'->R H' α' v d->OG K R' H' α' ξ Q (f d M')->Q1 v H'):OG K R H α ξ Q1 o:=by
 cases o with
 |ok d M'=>exact fun v H' α' e hr r=>k d M' v H' α' e hr r (OG.ext (o:=f d M') h e)
 |exc c M'=>exact h
 |bad=>exact h
section
variable {X:Cx}{ξ:XK}{a b e:Expr}{fa fb:Ev}{pos:Pos}
noncomputable def Zg (i:Nat):Ev:=fun ρ M=>match ρ[i]? with | some (some d)=> .ok d M | _=> .bad
noncomputable def eC (d:D):Ev:=fun _ M=> .ok d M
theorem Zb (i:Nat){x:Str}(hN:X.N[i]?=some x:=by rfl)(hv:Vis X.env.scope x:=by first | exact Or.inl rfl | exact Or.inr (Or.inl rfl) | exact Or.inr (Or.inr rfl))(hd:(x == ("__debug__":Str))=false:=by decide)
  (hcd:(x == ("__classdict__":Str))=false:=by decide):DE X ξ (.Name x pos) (Zg i):=by
 refine ⟨_,Zcm hN hv hd hcd,fun σ ρ H α M Q s h q=> ?_⟩
 unfold Zg at q;cases e:ρ[i]? with
 |none=>rw[e] at q;exact q.elim
 |some o=>
  cases o with
  |none=>rw[e] at q;exact q.elim
  |some d=>
   rw[e] at q;obtain ⟨v,h1,h2⟩:=s.2 i d e
   exact ⟨v,h1,q v H α Ext.refl h h2⟩
theorem Zd {i:Int}{j pos}:DE X ξ (.Constant (.int i) j pos) (eC (.int i)):=⟨_,ZmC,fun _ _ H α M _ _ h q=>q _ H α Ext.refl h (.int i)⟩
theorem Zad {i:Bool}{j pos}:DE X ξ (.Constant (.bool i) j pos) (eC (.bl i)):=⟨_,ZpM,fun _ _ H α M _ _ h q=>q _ H α Ext.refl h (.bl i)⟩
theorem Zhp {j pos}:DE X ξ (.Constant .none j pos) (eC .non):=⟨_,ZmD,fun _ _ H α M _ _ h q=>q _ H α Ext.refl h .non⟩
theorem Zay {x:Str}{j pos}:DE X ξ (.Constant (.str x) j pos) (eC (.str x)):=⟨_,ZgV,fun _ _ H α M _ _ h q=>q _ H α Ext.refl h (.str x)⟩
noncomputable abbrev Bo:=D->D->Sto->Out D
noncomputable def e2 (f:Bo)(fa fb:Ev):Ev:=fun ρ M=>(fa ρ M).bind fun x M1=>(fb ρ M1).bind fun y M2=>f x y M2
noncomputable def BO (X:Cx)(ξ:XK)(r:R2)(f:Bo):Prop:= ∀ H α M v w x y Q,HR X.K H α M->Rep X.K H α v x->Rep X.K H α w y->OP X.K H α ξ Q (f x y M)->r v w H Q
theorem two {r:R2}{f:Bo}(hb:BO X ξ r f){ta tb:TE}(qa: ∀ σ ρ H α M Q,SR X.K H α σ ρ->HR X.K H α M->OP X.K H α ξ Q (fa ρ M)->ta σ H Q)
  (qb: ∀ σ ρ H α M Q,SR X.K H α σ ρ->HR X.K H α M->OP X.K H α ξ Q (fb ρ M)->tb σ H Q): ∀ σ ρ H α M Q,SR X.K H α σ ρ->HR X.K H α M->OP X.K H α ξ Q (e2 f fa fb ρ M)->tOp r ta tb σ H Q:=by
 intro σ ρ H α M Q s h q;refine qa σ ρ H α M _ s h (OG.seq q fun x M1 v H1 α1 e1 h1 r1 q1=> ?_)
 refine qb σ ρ H1 α1 M1 _ (s.mono e1) h1 (OG.seq q1 fun y M2 w H2 α2 e2 h2 r2 q2=> ?_)
 exact hb H2 α2 M2 v w x y Q h2 (Rep.mono e2 r1) r2 q2
theorem Zgl {op:Operator}{r:R2}{f:Bo}(ho:OpR X (binaryOp op) r)(hf:BO X ξ r f)(ha:DE X ξ a fa)(hb:DE X ξ b fb):DE X ξ (.BinOp a op b pos) (e2 f fa fb):=by
 obtain ⟨ta,ha,qa⟩:=ha
 obtain ⟨tb,hb,qb⟩:=hb
 exact ⟨_,ZpW ho ha hb,two hf qa qb⟩
theorem ZaU {op:CmpOp}{r:R2}{f:Bo}(ho:OpR X (compareOp op) r)(hf:BO X ξ r f)(ha:DE X ξ a fa)(hb:DE X ξ b fb)(hm:behindInMarks op b=false:=by first | exact Zj4 _ | with_unfolding_all rfl):DE X ξ (.Compare a [op] [b] pos) (e2 f fa fb):=by
 obtain ⟨ta,ha,qa⟩:=ha
 obtain ⟨tb,hb,qb⟩:=hb
 exact ⟨_,ZkX ho ha hb hm,two hf qa qb⟩
noncomputable def tv (f:Ev):Tv:=fun ρ M=>(f ρ M).bind fun x M1=>match x with | .bl k=> .ok k M1 | _=> .bad
theorem Zld {t:TE}{f:Ev}(qa: ∀ σ ρ H α M Q,SR X.K H α σ ρ->HR X.K H α M->OP X.K H α ξ Q (f ρ M)->t σ H Q): ∀ σ ρ H α M Q,SR X.K H α σ ρ->HR X.K H α M->OT X.K H α ξ Q (tv f ρ M)->ZkY t σ H Q:=by
 intro σ ρ H α M Q s h q;refine qa σ ρ H α M _ s h (OG.seq q fun x M1 v H1 α1 e1 h1 r1 q1=> ?_)
 cases r1 with
 |bl k=>exact ⟨k,rfl,q1 k H1 α1 Ext.refl h1 rfl⟩
 |_=>exact q1.elim
theorem Zq {op:CmpOp}{r:R2}{f:Bo}(ho:OpR X (compareOp op) r)(hf:BO X ξ r f)(ha:DE X ξ a fa)(hb:DE X ξ b fb)(hm:behindInMarks op b=false:=by first | exact Zj4 _ | with_unfolding_all rfl):DT X ξ (.Compare a [op] [b] pos) (tv (e2 f fa fb)):=by
 obtain ⟨ta,ha,qa⟩:=ha
 obtain ⟨tb,hb,qb⟩:=hb
 exact ⟨_,ZkZ ho ha hb hm,Zld (two hf qa qb)⟩
theorem ZH (h:DE X ξ e fa)(he: ∀ whole,isTrue e X.env whole=(do let v <- whole;standAt e.pos;holding [v] (truthy v)):=by intro _;rfl):DT X ξ e (tv fa):=by
 obtain ⟨ta,ha,qa⟩:=h
 exact ⟨_,ZmE ha he,Zld qa⟩
variable {ga gb:Tv}{Za7:List Expr}
noncomputable def ZbG (f g:Tv):Tv:=fun ρ M=>(f ρ M).bind fun k M1=>if k=true then g ρ M1 else .ok false M1
noncomputable def Zcd (f g:Tv):Tv:=fun ρ M=>(f ρ M).bind fun k M1=>if k=true then .ok true M1 else g ρ M1
noncomputable def Zab (f:Tv):Tv:=fun ρ M=>(f ρ M).bind fun k M1=> .ok (!k) M1
theorem ZaG (ha:DT X ξ a ga):DW X ξ (.BoolOp .And [a] pos) ga:=let ⟨_,h,q⟩:=ha;⟨_,pw_and1 h,q⟩
theorem ZaK (ha:DT X ξ a ga):DW X ξ (.BoolOp .Or [a] pos) ga:=let ⟨_,h,q⟩:=ha;⟨_,pw_or1 h,q⟩
theorem Zbm (ha:DT X ξ a ga)(hb:DW X ξ (.BoolOp .And (b :: Za7) pos) gb):DW X ξ (.BoolOp .And (a :: b :: Za7) pos) (ZbG ga gb):=by
 obtain ⟨ta,ha,qa⟩:=ha
 obtain ⟨tb,hb,qb⟩:=hb
 refine ⟨_,pw_and ha hb,fun σ ρ H α M Q s h q=> ?_⟩
 refine qa σ ρ H α M _ s h (OG.seq q fun k M1 v H1 α1 e1 h1 r1 q1=> ?_)
 cases r1
 cases k with
 |true=>exact Zj9 (qb σ ρ H1 α1 M1 Q (s.mono e1) h1 q1)
 |false=>exact Zj8 (q1 false H1 α1 Ext.refl h1 rfl)
theorem Za3 (ha:DT X ξ a ga)(hb:DW X ξ (.BoolOp .Or (b :: Za7) pos) gb):DW X ξ (.BoolOp .Or (a :: b :: Za7) pos) (Zcd ga gb):=by
 obtain ⟨ta,ha,qa⟩:=ha
 obtain ⟨tb,hb,qb⟩:=hb
 refine ⟨_,pw_or ha hb,fun σ ρ H α M Q s h q=> ?_⟩
 refine qa σ ρ H α M _ s h (OG.seq q fun k M1 v H1 α1 e1 h1 r1 q1=> ?_)
 cases r1
 cases k with
 |true=>exact Zj9 (q1 true H1 α1 Ext.refl h1 rfl)
 |false=>exact Zj8 (qb σ ρ H1 α1 M1 Q (s.mono e1) h1 q1)
theorem Zca (h:DW X ξ e ga):DT X ξ e ga:=let ⟨_,h,q⟩:=h;⟨_,h.pt,q⟩
theorem ZT (ha:DT X ξ a ga):DT X ξ (.UnaryOp .Not a pos) (Zab ga):=by
 obtain ⟨ta,ha,qa⟩:=ha
 refine ⟨_,ZmF ha,fun σ ρ H α M Q s h q=> ?_⟩
 refine qa σ ρ H α M _ s h (OG.seq q fun k M1 v H1 α1 e1 h1 r1 q1=> ?_)
 cases r1
 exact q1 (!k) H1 α1 Ext.refl h1 rfl
noncomputable def Zaz (f g:Ev):Ev:=fun ρ M=>(f ρ M).bind fun x M1=>match x with | .bl k=>if k=true then g ρ M1 else .ok (.bl false) M1 | _=> .bad
noncomputable def Znb (f g:Ev):Ev:=fun ρ M=>(f ρ M).bind fun x M1=>match x with | .bl k=>if k=true then .ok (.bl true) M1 else g ρ M1 | _=> .bad
noncomputable def Zgm (f:Ev):Ev:=fun ρ M=>(f ρ M).bind fun x M1=>match x with | .bl k=> .ok (.bl (!k)) M1 | _=> .bad
theorem ZbK {op}(ha:DE X ξ a fa):DE X ξ (.BoolOp op [a] pos) fa:=let ⟨_,h,q⟩:=ha;⟨_,ZmG h,q⟩
theorem ZaL (ha:DE X ξ a fa)(hb:DE X ξ (.BoolOp .And (b :: Za7) pos) fb):DE X ξ (.BoolOp .And (a :: b :: Za7) pos) (Zaz fa fb):=by
 obtain ⟨ta,ha,qa⟩:=ha
 obtain ⟨tb,hb,qb⟩:=hb
 refine ⟨_,ZmH ha hb,fun σ ρ H α M Q s h q=> ?_⟩
 refine qa σ ρ H α M _ s h (OG.seq q fun x M1 v H1 α1 e1 h1 r1 q1=> ?_)
 cases r1 with
 |bl k=>
  refine ⟨k,rfl,?_⟩
  cases k with
  |true=>exact Zj9 (qb σ ρ H1 α1 M1 Q (s.mono e1) h1 q1)
  |false=>exact Zj8 (q1 _ H1 α1 Ext.refl h1 (.bl false))
 |_=>exact q1.elim
theorem Zp7 (ha:DE X ξ a fa)(hb:DE X ξ (.BoolOp .Or (b :: Za7) pos) fb):DE X ξ (.BoolOp .Or (a :: b :: Za7) pos) (Znb fa fb):=by
 obtain ⟨ta,ha,qa⟩:=ha
 obtain ⟨tb,hb,qb⟩:=hb
 refine ⟨_,ZpP ha hb,fun σ ρ H α M Q s h q=> ?_⟩
 refine qa σ ρ H α M _ s h (OG.seq q fun x M1 v H1 α1 e1 h1 r1 q1=> ?_)
 cases r1 with
 |bl k=>
  refine ⟨k,rfl,?_⟩
  cases k with
  |true=>exact Zj9 (q1 _ H1 α1 Ext.refl h1 (.bl true))
  |false=>exact Zj8 (qb σ ρ H1 α1 M1 Q (s.mono e1) h1 q1)
 |_=>exact q1.elim
theorem Zkc (ha:DE X ξ a fa):DE X ξ (.UnaryOp .Not a pos) (Zgm fa):=by
 obtain ⟨ta,ha,qa⟩:=ha
 refine ⟨_,ZmI ha,fun σ ρ H α M Q s h q=> ?_⟩
 refine qa σ ρ H α M _ s h (OG.seq q fun x M1 v H1 α1 e1 h1 r1 q1=> ?_)
 cases r1 with
 |bl k=>exact ⟨k,rfl,q1 _ H1 α1 Ext.refl h1 (.bl (!k))⟩
 |_=>exact q1.elim
noncomputable def eIf (c:Tv)(f g:Ev):Ev:=fun ρ M=>(c ρ M).bind fun k M1=>if k=true then f ρ M1 else g ρ M1
variable {es:List Expr}{fs:Av}
noncomputable def aNil:Av:=fun _ M=> .ok [] M
noncomputable def Zc (f:Ev)(g:Av):Av:=fun ρ M=>(f ρ M).bind fun x M1=>(g ρ M1).bind fun xs M2=> .ok (x :: xs) M2
theorem Ze:DA X ξ [] aNil:=⟨_,Zg6,fun _ _ H α M _ _ h q=>q _ H α Ext.refl h .nil⟩
theorem Za (ha:DE X ξ e fa)(hr:DA X ξ es fs)(hs:starEach (e :: es) X.env=(false,eval e X.env) :: starEach es X.env:=by rfl):DA X ξ (e :: es) (Zc fa fs):=by
 obtain ⟨ta,ha,qa⟩:=ha
 obtain ⟨tb,hb,qb⟩:=hr
 refine ⟨_,ZcQ ha hb hs,fun σ ρ H α M Q s h q=> ?_⟩
 refine qa σ ρ H α M _ s h (OG.seq q fun x M1 v H1 α1 e1 h1 r1 q1=> ?_)
 refine qb σ ρ H1 α1 M1 _ (s.mono e1) h1 (OG.seq q1 fun y M2 w H2 α2 e2 h2 r2 q2=> ?_)
 exact q2 _ H2 α2 Ext.refl h2 (.cons (Rep.mono e2 r1) r2)
noncomputable def Z1 (f:Av):Ev:=fun ρ M=>(f ρ M).bind fun xs M1=>if xs.length<=1000 then .ok (.tup xs) M1 else .bad
noncomputable def ZcJ (f:Av):Ev:=fun ρ M=>(f ρ M).bind fun xs M1=>if xs.length<=1000 then .ok (.ref M1.length) (M1 ++ [.lst xs]) else .bad
theorem small {n:Nat}(h:n<=1000):n<=sizeLine:=Nat.le_of_lt (Zhh h)
theorem Zt {x1}(ha:DA X ξ es fs):DE X ξ (.Tuple es x1 pos) (Z1 fs):=by
 obtain ⟨ta,ha,qa⟩:=ha
 refine ⟨_,ZmU ha,fun σ ρ H α M Q s h q=> ?_⟩
 refine qa σ ρ H α M _ s h (OG.seq q fun xs M1 vs H1 α1 e1 h1 r1 q1=> ?_)
 by_cases hl:xs.length<=1000
 ·rw[if_pos hl] at q1
  refine ⟨by rw[r1.length];exact small hl,fun p hp=>q1 _ _ α1 (Ext.new0 hp) (h1.tup hp) (.tup Zv (Reps.mono (Ext.new0 hp) r1))⟩
 ·rw[if_neg hl] at q1
  exact q1.elim
theorem HR.last {K:PySem.W.Frag}{H:Hp}{α:List Addr}{M:Sto}(h:HR K H α M)(p:Addr):(α ++ [p])[M.length]?=some p:=by
 rw[<- h.len,List.getElem?_append_right (Nat.le_refl _),Nat.sub_self]
 rfl
theorem Zak (ha:DA X ξ es fs):DE X ξ (.List es pos) (ZcJ fs):=by
 obtain ⟨ta,ha,qa⟩:=ha
 refine ⟨_,ZmV ha,fun σ ρ H α M Q s h q=> ?_⟩
 refine qa σ ρ H α M _ s h (OG.seq q fun xs M1 vs H1 α1 e1 h1 r1 q1=> ?_)
 by_cases hl:xs.length<=1000
 ·rw[if_pos hl] at q1
  refine ⟨by rw[r1.length];exact small hl,fun p hp=>q1 _ _ (α1 ++ [p]) (Ext.new hp) (h1.new hp r1) (.ref ⟨h1.last p,Kn.lst Zv⟩)⟩
 ·rw[if_neg hl] at q1
  exact q1.elim
end
end DL
end
section
namespace DL
open PySem PySem.Spec PyProof.Rows L2
open PySem.SeqAt (EqAt RcAt RcNeAt)
noncomputable def Z4 (i j:Int):Prop:=Builtin.Int.intBits i<=64\/Builtin.Int.intBits j<=64\/(Builtin.Int.intBits i<=60000000/\Builtin.Int.intBits j<=60000000)
noncomputable instance (i j:Int):Decidable (Z4 i j):=by unfold Z4;infer_instance
theorem Z4.ok {i j:Int}(h:Z4 i j):IntMulOk i j:=by
 rcases h with h | h | ⟨h1,h2⟩
 ·exact .of_left h
 ·exact .of_right h
 ·exact .of_le h1 h2 (by decide)
theorem Zgn {i j:Int}(m n:Nat)(h1:i.natAbs < 2 ^ m)(h2:j.natAbs < 2 ^ n)(hm:m<=60000000:=by decide)(hn:n<=60000000:=by decide):Z4 i j:=
 .inr (.inr ⟨Nat.le_trans (intBits_le_iff.mpr h1) hm,Nat.le_trans (intBits_le_iff.mpr h2) hn⟩)
noncomputable def Zbt (j:Int):Prop:=j≠0/\j.natAbs.log2 < 9000
noncomputable instance (j:Int):Decidable (Zbt j):=by unfold Zbt;infer_instance
section
variable {X:Cx}
theorem Zle:OpR X (binaryOp .Mult) (rI Z4 fun i j=> .int (i * j)):=opI fun _ _ _ _ _ _ _ hc q=>mul_int q hc.ok
theorem Zjg:OpR X (binaryOp .FloorDiv) (rI (fun _ j=>Zbt j) fun i j=> .int (i.fdiv j)):=opI fun _ _ _ _ _ _ _ hc q=>floordiv_int hc.1 q (.inl (PyProof.noPylong_of_log2 hc.2))
end
noncomputable def dAdd:Bo:=fun x y M=>match x,y with
 | .int i,.int j=> .ok (.int (i + j)) M
 | .str i,.str j=>if i.length + j.length<=100000 then .ok (.str (i ++ j)) M else .bad
 | .ref n,.ref m=>match M[n]?,M[m]? with
  |some (.lst xs),some (.lst ys)=>if xs.length + ys.length<=10000000 then .ok (.ref M.length) (M ++ [.lst (xs ++ ys)]) else .bad
  |_,_=> .bad
 | .tup xs,.tup ys=>if xs.length + ys.length<=100000/\xs≠[] then .ok (.tup (xs ++ ys)) M else .bad
 |_,_=> .bad
noncomputable def dSub:Bo:=fun x y M=>match x,y with | .int i,.int j=> .ok (.int (i - j)) M | _,_=> .bad
noncomputable def dMul:Bo:=fun x y M=>match x,y with | .int i,.int j=>if Z4 i j then .ok (.int (i * j)) M else .bad | _,_=> .bad
noncomputable def dDiv:Bo:=fun x y M=>match x,y with | .int i,.int j=>if Zbt j then .ok (.int (i.fdiv j)) M else .bad | _,_=> .bad
noncomputable def dMod:Bo:=fun x y M=>match x,y with | .int i,.int j=>if j≠0 then .ok (.int (i.fmod j)) M else .bad | _,_=> .bad
noncomputable def dPow:Bo:=fun x y M=>match x,y with | .int i,.int j=>if 0<=j/\j<=1000000/\i.natAbs < 2 ^ 64 then .ok (.int (i ^ j.toNat)) M else .bad | _,_=> .bad
noncomputable def dLt:Bo:=fun x y M=>match x,y with | .int i,.int j=> .ok (.bl (decide (i < j))) M | _,_=> .bad
noncomputable def dLe:Bo:=fun x y M=>match x,y with | .int i,.int j=> .ok (.bl (decide (i<=j))) M | _,_=> .bad
noncomputable def dGt:Bo:=fun x y M=>match x,y with | .int i,.int j=> .ok (.bl (decide (j < i))) M | _,_=> .bad
noncomputable def dGe:Bo:=fun x y M=>match x,y with | .int i,.int j=> .ok (.bl (decide (j<=i))) M | _,_=> .bad
theorem Znc {n:Nat}(h:n<=100000):n<=sizeLine:=Nat.le_trans h (by decide)
section
variable {X:Cx}{ξ:XK}
theorem ZbT {r:R2}{f:Bo}{C:Int->Int->Prop}[∀ i j,Decidable (C i j)]{g:Int->Int->D}{gV:Int->Int->V}(hg: ∀ H α i j,Rep X.K H α (gV i j) (g i j))
  (hf: ∀ x y M,f x y M=match x,y with | .int i,.int j=>if C i j then .ok (g i j) M else .bad | _,_=> .bad) (hr: ∀ i j H Q,C i j->Q (gV i j) H->r (.int i) (.int j) H Q):BO X ξ r f:=by
 intro H α M v w x y Q h rv rw' q;rw[hf] at q;cases rv<;>first | exact q.elim | skip
 cases rw'<;>first | exact q.elim | skip
 rename_i i j
 by_cases c:C i j
 ·simp only[if_pos c] at q
  exact hr i j H Q c (q _ H α Ext.refl h (hg H α i j))
 ·simp only[if_neg c] at q
  exact q.elim
theorem Znd:BO X ξ (rI0 fun i j=> .int (i - j)) dSub:=ZbT (C:=fun _ _=>True) (fun _ _ i j=> .int (i - j)) (fun x y M=>by cases x<;>cases y<;>simp[dSub]) fun i j H Q _ q=>⟨i,j,rfl,rfl,q⟩
theorem Zne:BO X ξ (rI Z4 fun i j=> .int (i * j)) dMul:=ZbT (C:=Z4) (fun _ _ i j=> .int (i * j)) (fun x y M=>by cases x<;>cases y<;>rfl) fun i j H Q c q=>⟨i,j,rfl,rfl,c,q⟩
theorem Znf:BO X ξ (rI (fun _ j=>Zbt j) fun i j=> .int (i.fdiv j)) dDiv:=ZbT (C:=fun _ j=>Zbt j) (fun _ _ i j=> .int (i.fdiv j)) (fun x y M=>by cases x<;>cases y<;>rfl) fun i j H Q c q=>⟨i,j,rfl,rfl,c,q⟩
theorem Zng:BO X ξ (rI (fun _ j=>j≠0) fun i j=> .int (i.fmod j)) dMod:=ZbT (C:=fun _ j=>j≠0) (fun _ _ i j=> .int (i.fmod j)) (fun x y M=>by cases x<;>cases y<;>rfl) fun i j H Q c q=>⟨i,j,rfl,rfl,c,q⟩
theorem Znh:BO X ξ (rI ZrS fun i j=> .int (i ^ j.toNat)) dPow:=ZbT (C:=fun i j=>0<=j/\j<=1000000/\i.natAbs < 2 ^ 64) (fun _ _ i j=> .int (i ^ j.toNat)) (fun x y M=>by cases x<;>cases y<;>rfl) fun i j H Q c q=>⟨i,j,rfl,rfl,c,q⟩
theorem ZcU:BO X ξ (rI0 fun i j=> .bl (decide (i < j))) dLt:=ZbT (C:=fun _ _=>True) (fun _ _ i j=> .bl _) (fun x y M=>by cases x<;>cases y<;>simp[dLt]) fun i j H Q _ q=>⟨i,j,rfl,rfl,q⟩
theorem Zeh:BO X ξ (rI0 fun i j=> .bl (decide (i<=j))) dLe:=ZbT (C:=fun _ _=>True) (fun _ _ i j=> .bl _) (fun x y M=>by cases x<;>cases y<;>simp[dLe]) fun i j H Q _ q=>⟨i,j,rfl,rfl,q⟩
theorem ZcA:BO X ξ (rI0 fun i j=> .bl (decide (j < i))) dGt:=ZbT (C:=fun _ _=>True) (fun _ _ i j=> .bl _) (fun x y M=>by cases x<;>cases y<;>simp[dGt]) fun i j H Q _ q=>⟨i,j,rfl,rfl,q⟩
theorem Zp8:BO X ξ (rI0 fun i j=> .bl (decide (j<=i))) dGe:=ZbT (C:=fun _ _=>True) (fun _ _ i j=> .bl _) (fun x y M=>by cases x<;>cases y<;>simp[dGe]) fun i j H Q _ q=>⟨i,j,rfl,rfl,q⟩
theorem Zlf:OpR X (binaryOp .Add) (fun x y H Q=>(rI0 (fun i j=> .int (i + j)) x y H Q\/(∃ i j,x= .str i/\y= .str j/\i.length + j.length<=sizeLine/\Q (.str (i ++ j)) H))\/(rCat x y H Q\/Zk4 X.K x y H Q)):=
 OpR.or (OpR.or ZmQ Zge) (OpR.or Zm3 Zk5)
theorem Zni:BO X ξ (fun x y H Q=>(rI0 (fun i j=> .int (i + j)) x y H Q\/(∃ i j,x= .str i/\y= .str j/\i.length + j.length<=sizeLine/\Q (.str (i ++ j)) H))\/(rCat x y H Q\/Zk4 X.K x y H Q)) dAdd:=by
 intro H α M v w x y Q h rv rw' q;unfold dAdd at q
 split at q
 ·rename_i i j
  cases rv
  cases rw'
  exact .inl (.inl ⟨i,j,rfl,rfl,q _ H α Ext.refl h (.int (i + j))⟩)
 ·rename_i i j
  cases rv
  cases rw'
  split at q
  ·rename_i c
   exact .inl (.inr ⟨i,j,rfl,rfl,Znc c,q _ H α Ext.refl h (.str _)⟩)
  ·exact q.elim
 ·rename_i n m
  cases rv with
  | @ref p _ hp=>
   cases rw' with
   | @ref p2 _ hp2=>
    split at q
    ·rename_i ds ds2 e1 e2
     split at q
     ·rename_i c
      obtain ⟨xs,g1,r1⟩:=h.at hp e1
      obtain ⟨ys,g2,r2⟩:=h.at hp2 e2
      refine .inr (.inl ⟨p,p2,xs,ys,rfl,rfl,g1,g2,by rw[r1.length,r2.length];exact Nat.le_trans c (by decide),fun l hl=> ?_⟩)
      exact q _ _ (α ++ [l]) (Ext.new hl) (h.new hl (r1.append r2)) (.ref ⟨h.last l,Kn.lst Zv⟩)
     ·exact q.elim
    ·exact q.elim
 ·rename_i ds ds2
  cases rv with
  | @tup p xs _ hp rp=>
   cases rw' with
   | @tup p2 xs2 _ hp2 rp2=>
    split at q
    ·rename_i c
     have nx:xs≠[]:=fun z=>c.2 (by have:=rp.length;rw[z] at this;exact List.eq_nil_of_length_eq_zero this.symm)
     refine .inr (.inr ⟨p,p2,xs,xs2,rfl,rfl,(SqT.of hp),(SqT.of hp2),nx,by rw[rp.length,rp2.length];exact Znc c.1,fun z=> ?_,fun _ l hl=> ?_⟩)
     ·subst z
      cases rp2
      rw[List.append_nil] at q;exact q _ H α Ext.refl h (.tup hp rp)
     ·exact q _ _ α (Ext.new0 hl) (h.tup hl) (.tup Zv (Reps.mono (Ext.new0 hl) (rp.append rp2)))
    ·exact q.elim
 ·exact q.elim
variable {a b e:Expr}{fa fb:Ev}{pos:Pos}
theorem ZD (ha:DE X ξ a fa)(hb:DE X ξ b fb):DE X ξ (.BinOp a .Add b pos) (e2 dAdd fa fb):=Zgl Zlf Zni ha hb
theorem Zaq (ha:DE X ξ a fa)(hb:DE X ξ b fb):DE X ξ (.BinOp a .Sub b pos) (e2 dSub fa fb):=Zgl ZmR Znd ha hb
theorem Z2 (ha:DE X ξ a fa)(hb:DE X ξ b fb):DE X ξ (.BinOp a .Mult b pos) (e2 dMul fa fb):=Zgl Zle Zne ha hb
theorem ZU (ha:DE X ξ a fa)(hb:DE X ξ b fb):DE X ξ (.BinOp a .FloorDiv b pos) (e2 dDiv fa fb):=Zgl Zjg Znf ha hb
theorem ZI (ha:DE X ξ a fa)(hb:DE X ξ b fb):DE X ξ (.BinOp a .Mod b pos) (e2 dMod fa fb):=Zgl ZkW Zng ha hb
theorem ZbU (ha:DE X ξ a fa)(hb:DE X ξ b fb):DE X ξ (.BinOp a .Pow b pos) (e2 dPow fa fb):=Zgl ZmS Znh ha hb
noncomputable def ZeW (f:Ev):Ev:=fun ρ M=>(f ρ M).bind fun x M1=>match x with | .int i=> .ok (.int (-i)) M1 | _=> .bad
theorem Zbu (ha:DE X ξ a fa):DE X ξ (.UnaryOp .USub a pos) (ZeW fa):=by
 obtain ⟨ta,ha,qa⟩:=ha
 refine ⟨_,ZpX ZmT ha,fun σ ρ H α M Q s h q=> ?_⟩
 refine qa σ ρ H α M _ s h (OG.seq q fun x M1 v H1 α1 e1 h1 r1 q1=> ?_)
 cases r1 with
 |int i=>exact ⟨i,rfl,q1 _ H1 α1 Ext.refl h1 (.int (-i))⟩
 |_=>exact q1.elim
noncomputable def atD (xs:List D)(i:Int)(M:Sto):Out D:=match atI xs i with | some d=> .ok d M | none=> .bad
noncomputable def dIx:Bo:=fun x y M=>match x,y with
 | .tup xs,.int i=>atD xs i M
 | .rol xs,.int i=>atD xs i M
 | .ref n,.int i=>match M[n]? with | some (.lst xs)=>atD xs i M | _=> .bad
 |_,_=> .bad
theorem Reps.atI {K:PySem.W.Frag}{H:Hp}{α:List Addr}{vs:List V}{ds:List D}{i:Int}{d:D}(r:Reps K H α vs ds)(h:L2.atI ds i=some d): ∃ v,L2.atI vs i=some v/\Rep K H α v d:=by
 unfold L2.atI at h ⊢;rw[r.length];cases e:ixN ds.length i with
 |none=>rw[e] at h;cases h
 |some j=>
  rw[e] at h;exact r.get h
theorem Zp9:BO X ξ (fun x y H Q=>ZrT X.K x y H Q\/ZrU X.K x y H Q) dIx:=by
 intro H α M v w x y Q h rv rw' q;have at': ∀ {ds:List D} {i:Int},OP X.K H α ξ Q (atD ds i M)-> ∃ d,L2.atI ds i=some d/\OP X.K H α ξ Q (.ok d M):=fun {ds i} q=>by
  unfold atD at q;cases e:L2.atI ds i with
  |none=>rw[e] at q;exact q.elim
  |some d=>rw[e] at q;exact ⟨d,rfl,q⟩
 unfold dIx at q
 split at q
 ·rename_i ds i
  cases rw'
  cases rv with
  | @tup p xs _ hp rp=>
   obtain ⟨d,e,q⟩:=at' q
   obtain ⟨v,h1,h2⟩:=rp.atI e
   exact .inr ⟨p,xs,i,v,rfl,rfl,(SqT.of hp),h1,q v H α Ext.refl h h2⟩
 ·rename_i ds i
  cases rw'
  cases rv with
  | @rol p xs _ hp rp=>
   obtain ⟨d,e,q⟩:=at' q
   obtain ⟨v,h1,h2⟩:=rp.atI e
   exact .inl ⟨p,xs,i,v,rfl,rfl,hp.sq,h1,q v H α Ext.refl h h2⟩
 ·rename_i n i
  cases rw'
  cases rv with
  | @ref p _ hp=>
   split at q
   ·rename_i ds e1
    obtain ⟨d,e,q⟩:=at' q
    obtain ⟨xs,g1,r1⟩:=h.at hp e1
    obtain ⟨v,h1,h2⟩:=r1.atI e
    exact .inl ⟨p,xs,i,v,rfl,rfl,SqL.of g1,h1,q v H α Ext.refl h h2⟩
   ·exact q.elim
 ·exact q.elim
theorem Zw (ha:DE X ξ a fa)(hb:DE X ξ b fb)(hs:Zhe b:=by exact fun _ _=>rfl):DE X ξ (.Subscript a b pos) (e2 dIx fa fb):=by
 obtain ⟨ta,ha,qa⟩:=ha
 obtain ⟨tb,hb,qb⟩:=hb
 exact ⟨_,Zp2 (IxR.or Zk7 Zm0) ha hb hs,two Zp9 qa qb⟩
end
inductive Kd where
 |non | bl (b:Bool) | int (i:Int) | str (x:Str) | tup (xs:List D) | lst (xs:List D)
noncomputable def kd (M:Sto):D->Option Kd
 | .non=>some .non
 | .bl b=>some (.bl b)
 | .int i=>some (.int i)
 | .str x=>some (.str x)
 | .tup xs=>some (.tup xs)
 | .rol xs=>some (.lst xs)
 | .con xs=>some (.tup xs)
 | .ref n=>match M[n]? with | some (.lst xs)=>some (.lst xs) | _=>none
 | .err _ _=>none
 | .dk _=>none
 | .dt _=>none
 | .fn _=>none
noncomputable def eqL (f:D->D->Option Bool):List D->List D->Option Bool
 | [],[]=>some true
 |x :: xs,y :: ys=>match f x y with | some a=>(match eqL f xs ys with | some b=>some (a && b) | none=>none) | none=>none
 |_,_=>some false
noncomputable def eqK (f:D->D->Option Bool):Kd->Kd->Option Bool
 | .non,.non=>some true
 | .bl a,.bl b=>some (a == b)
 | .bl a,.int b=>some ((if a then 1 else 0) == b)
 | .int a,.bl b=>some (a == (if b then 1 else 0))
 | .int a,.int b=>some (a == b)
 | .str a,.str b=>some (a == b)
 | .tup xs,.tup ys=>eqL f xs ys
 | .lst xs,.lst ys=>if xs.length=ys.length then eqL f xs ys else some false
 |_,_=>some false
noncomputable def eqF:Nat->Sto->D->D->Option Bool
 |0,_,_,_=>none
 |n + 1,M,x,y=>match kd M x,kd M y with | some a,some b=>eqK (eqF n M) a b | _,_=>none
inductive Vw (X:Cx) (H:Hp) (α:List Addr) (s:Shared):Kd->Value->Prop where
 |non:Vw X H α s .non .none
 |bl (b:Bool):Vw X H α s (.bl b) (.bool b)
 |int (i:Int) (t:Tok):Vw X H α s (.int i) (.int i t)
 |str (x:Str) (t:Tok):Vw X H α s (.str x) (.str x t)
 |tup {p:Addr} {xs:List V} {ds:List D} {its:List Value}:s.heap.IsTuple p its.toArray->ZX xs its->Reps X.K H α xs ds->Vw X H α s (.tup ds) (.ref p)
 |lst {p:Addr} {xs:List V} {ds:List D} {its:List Value}:s.heap.IsList p its.toArray->ZX xs its->Reps X.K H α xs ds->Vw X H α s (.lst ds) (.ref p)
section
variable {X:Cx}{ξ:XK}{pins:List (Addr × Obj)}{σ:L2.St}{H:Hp}{s:Shared}{α:List Addr}{M:Sto}
theorem vw (I:Inv X pins σ H s)(h:HR X.K H α M){v:V}{x:D}{u:Value}{k:Kd}(r:Rep X.K H α v x)(ru:Zaa v u)(e:kd M x=some k):Vw X H α s k u:=by
 cases r with
 |non=>cases e;cases ru;exact .non
 |bl b=>cases e;cases ru;exact .bl b
 |int i=>cases e;obtain ⟨t,rfl⟩:=ru;exact .int i t
 |str x=>cases e;obtain ⟨t,rfl⟩:=ru;exact .str x t
 |err _ _ _=>cases e
 |dk _=>cases e
 |dt _=>cases e
 |fn _=>cases e
 | @tup p xs ds hp rp=>
  cases e;cases ru
  obtain ⟨its,h1,h2,_⟩:=I.tuple (SqT.of hp)
  exact .tup h2 h1 rp
 | @con p xs ds hp rp=>
  cases e;cases ru
  obtain ⟨its,h1,h2,_⟩:=I.tuple hp.sq
  exact .tup h2 h1 rp
 | @rol p xs ds hp rp=>
  cases e;cases ru
  obtain ⟨its,h1,h2,_⟩:=I.list hp.sq
  exact .lst h2.isList h1 rp
 | @ref p n hp=>
  cases ru
  cases e1:M[n]? with
  |none=>simp only[kd,e1] at e;cases e
  |some o=>
   cases o with
   |lst ds=>
    simp only[kd,e1] at e;cases e
    obtain ⟨xs,g1,r1⟩:=h.at hp e1
    obtain ⟨its,h1,h2,_⟩:=I.list (SqL.of g1)
    exact .lst h2.isList h1 r1
noncomputable def Eq3 (A:Around)(s:Shared)(u z:Value)(b:Bool):Prop:=EqAt A s u z b/\RcAt A s u z b/\RcNeAt A s u z (!b)
theorem Zhq {f:D->D->Option Bool}: ∀ {xs ys:List D} {b:Bool},eqL f xs ys=some b->
  (∀ (j:Nat) x y,xs[j]?=some x->ys[j]?=some y-> ∃ c,f x y=some c)/\
  b=((List.range (min xs.length ys.length)).all (fun j=>match xs[j]?,ys[j]? with | some x,some y=>(f x y).getD false | _,_=>false) && xs.length == ys.length)
 | [],[],b,e=>by
  simp only[eqL,Option.some.injEq] at e;subst e;exact ⟨fun j x y h=>(by simp at h),(by simp)⟩
 |x :: xs,[],b,e=>by
  simp only[eqL,Option.some.injEq] at e;subst e;exact ⟨fun j x y h1 h2=>(by simp at h2),(by simp)⟩
 | [],y :: ys,b,e=>by
  simp only[eqL,Option.some.injEq] at e;subst e;exact ⟨fun j x y h1 h2=>(by simp at h1),(by simp)⟩
 |x :: xs,y :: ys,b,e=>by
  cases e1:f x y with
  |none=>simp only[eqL,e1] at e;cases e
  |some a=>
   cases e2:eqL f xs ys with
   |none=>simp only[eqL,e1,e2] at e;cases e
   |some c=>
    simp only[eqL,e1,e2,Option.some.injEq] at e;subst e;obtain ⟨h1,h2⟩:=Zhq e2
    refine ⟨fun j x' y' g1 g2=> ?_,?_⟩
    ·cases j with
     |zero=>
      simp at g1 g2
      subst g1 g2;exact ⟨a,e1⟩
     |succ j=>
      simp at g1 g2
      exact h1 j x' y' g1 g2
    ·have em:min (x :: xs).length (y :: ys).length=min xs.length ys.length + 1:=by simp only[List.length_cons];omega
     rw[em,List.range_succ_eq_map,List.all_cons,List.all_map,h2]
     simp[e1,Bool.and_assoc,Function.comp_def]
theorem Zjh (I:Inv X pins σ H s)(h:HR X.K H α M): ∀ (n:Nat) {v:V} {x y:D} {b:Bool},Rep X.K H α v x->Rep X.K H α v y->eqF n M x y=some b->b=true:=by
 intro n
 induction n with
 |zero=>intro v x y b _ _ e;simp only[eqF] at e;cases e
 |succ n ih=>
  have lists: ∀ (vs:List V) (xs ys:List D) (b:Bool),Reps X.K H α vs xs->Reps X.K H α vs ys->eqL (eqF n M) xs ys=some b->b=true:=by
   intro vs
   induction vs with
   |nil=>
    intro xs ys b r1 r2 e;cases r1;cases r2
    simp only[eqL,Option.some.injEq] at e;exact e.symm
   |cons v vs iv=>
    intro xs ys b r1 r2 e;cases r1 with
    |cons p1 t1=>
     cases r2 with
     |cons p2 t2=>
      rename_i d1 ds1 d2 ds2;cases e1:eqF n M d1 d2 with
      |none=>simp only[eqL,e1] at e;cases e
      |some a=>
       cases e2:eqL (eqF n M) ds1 ds2 with
       |none=>simp only[eqL,e1,e2] at e;cases e
       |some c=>
        simp only[eqL,e1,e2,Option.some.injEq] at e;rw[<- e,ih p1 p2 e1,iv _ _ _ t1 t2 e2];rfl
  intro v x y b r1 r2 e;have nl: ∀ {p:Addr} {xs ys:List V},SqT X.K H p xs->SqL X.K H p ys->False:=fun {p xs ys} a c=>by
   obtain ⟨i1,_,⟨o1,g1,c1,_⟩,_⟩:=I.tuple a
   obtain ⟨i2,_,⟨o2,_,g2,c2,_⟩,_⟩:=I.list c
   rw[g1] at g2;cases g2
   rw[c1] at c2;exact absurd c2 (by decide)
  have ll: ∀ {p:Addr} {n:Nat} {ds:List D},RefK H α 0 n p->M[n]?=some (.lst ds)-> ∃ vs,SqL X.K H p vs/\Reps X.K H α vs ds:=fun {p n ds} a c=>by
   obtain ⟨xs,g1,r1⟩:=h.at a c
   exact ⟨xs,SqL.of g1,r1⟩
  cases r1 with
  |non=>cases r2;simp only[eqF,kd,eqK,Option.some.injEq] at e;exact e.symm
  |bl c=>cases r2;simp only[eqF,kd,eqK,Option.some.injEq,beq_self_eq_true] at e;exact e.symm
  |int c=>cases r2;simp only[eqF,kd,eqK,Option.some.injEq,beq_self_eq_true] at e;exact e.symm
  |str c=>cases r2;simp only[eqF,kd,eqK,Option.some.injEq,beq_self_eq_true] at e;exact e.symm
  |err _ _ _=>simp[eqF,kd] at e
  |dk _=>simp[eqF,kd] at e
  |dt _=>simp[eqF,kd] at e
  |fn _=>simp[eqF,kd] at e
  | @tup p xs ds hp rp=>
   cases r2 with
   | @tup _ xs2 ds2 hp2 rp2=>
    cases I.tuple_inj (SqT.of hp) (SqT.of hp2)
    simp only[eqF,kd,eqK] at e;exact lists _ _ _ _ rp rp2 e
   | @con _ xs2 ds2 hp2 rp2=>
    cases I.tuple_inj (SqT.of hp) hp2.sq
    simp only[eqF,kd,eqK] at e;exact lists _ _ _ _ rp rp2 e
   | @rol _ xs2 ds2 hp2 rp2=>exact (nl (SqT.of hp) hp2.sq).elim
   |err _ _ _=>simp[eqF,kd] at e
   |dk _=>simp[eqF,kd] at e
   |dt _=>simp[eqF,kd] at e
   |fn _=>simp[eqF,kd] at e
   | @ref _ n2 hp2=>
    obtain ⟨ys,g⟩:=h.some_at hp2
    exact (nl (SqT.of hp) (SqL.of g)).elim
  | @con p xs ds hp rp=>
   cases r2 with
   | @tup _ xs2 ds2 hp2 rp2=>
    cases I.tuple_inj hp.sq (SqT.of hp2)
    simp only[eqF,kd,eqK] at e;exact lists _ _ _ _ rp rp2 e
   | @con _ xs2 ds2 hp2 rp2=>
    cases I.tuple_inj hp.sq hp2.sq
    simp only[eqF,kd,eqK] at e;exact lists _ _ _ _ rp rp2 e
   | @rol _ xs2 ds2 hp2 rp2=>exact (nl hp.sq hp2.sq).elim
   |err _ _ _=>simp[eqF,kd] at e
   |dk _=>simp[eqF,kd] at e
   |dt _=>simp[eqF,kd] at e
   |fn _=>simp[eqF,kd] at e
   | @ref _ n2 hp2=>
    obtain ⟨ys,g⟩:=h.some_at hp2
    exact (nl hp.sq (SqL.of g)).elim
  | @rol p xs ds hp rp=>
   cases r2 with
   | @tup _ xs2 ds2 hp2 rp2=>exact (nl (SqT.of hp2) hp.sq).elim
   | @con _ xs2 ds2 hp2 rp2=>exact (nl hp2.sq hp.sq).elim
   |err _ _ _=>simp[eqF,kd] at e
   |dk _=>simp[eqF,kd] at e
   |dt _=>simp[eqF,kd] at e
   |fn _=>simp[eqF,kd] at e
   | @rol _ xs2 ds2 hp2 rp2=>
    cases I.list_inj hp.sq hp2.sq
    simp only[eqF,kd,eqK,if_pos (rp.length.symm.trans rp2.length)] at e;exact lists _ _ _ _ rp rp2 e
   | @ref _ n2 hp2=>
    cases e1:M[n2]? with
    |none=>simp only[eqF,kd,e1] at e;cases e
    |some o=>
     cases o with
     |lst ds2=>
      obtain ⟨ys,g,r⟩:=ll hp2 e1
      cases I.list_inj hp.sq g
      simp only[eqF,kd,e1,eqK,if_pos (rp.length.symm.trans r.length)] at e;exact lists _ _ _ _ rp r e
  | @ref p n1 hp=>
   cases e0:M[n1]? with
   |none=>simp only[eqF,kd,e0] at e;cases e
   |some o0=>
    cases o0 with
    |lst ds=>
     obtain ⟨xs,g0,rp⟩:=ll hp e0
     cases r2 with
     | @tup _ xs2 ds2 hp2 rp2=>exact (nl (SqT.of hp2) g0).elim
     | @con _ xs2 ds2 hp2 rp2=>exact (nl hp2.sq g0).elim
     |err _ _ _=>simp[eqF,kd,e0] at e
     |dk _=>simp[eqF,kd,e0] at e
     |dt _=>simp[eqF,kd,e0] at e
     |fn _=>simp[eqF,kd,e0] at e
     | @rol _ xs2 ds2 hp2 rp2=>
      cases I.list_inj g0 hp2.sq
      simp only[eqF,kd,e0,eqK,if_pos (rp.length.symm.trans rp2.length)] at e;exact lists _ _ _ _ rp rp2 e
     | @ref _ n2 hp2=>
      cases e1:M[n2]? with
      |none=>simp only[eqF,kd,e0,e1] at e;cases e
      |some o=>
       cases o with
       |lst ds2=>
        obtain ⟨ys,g,r⟩:=ll hp2 e1
        cases I.list_inj g0 g
        simp only[eqF,kd,e0,e1,eqK,if_pos (rp.length.symm.trans r.length)] at e;exact lists _ _ _ _ rp r e
end
end DL
end
section
namespace DL
open PySem PySem.Spec PyProof.Rows L2
open PySem.SeqAt (EqAt RcAt RcNeAt)
section
variable {X:Cx}{ξ:XK}{pins:List (Addr × Obj)}{σ:L2.St}{H:Hp}{s:Shared}{α:List Addr}{M:Sto}
theorem ZfA {A:Around}{n:Nat}{xs1 xs2:List V}{ds1 ds2:List D}{i1 i2:List Value}{b:Bool}(v1:ZX xs1 i1)(v2:ZX xs2 i2)(r1:Reps X.K H α xs1 ds1)(r2:Reps X.K H α xs2 ds2)
  (ih: ∀ (x y:D) (v w:V) (u z:Value) (b:Bool),eqF n M x y=some b->Rep X.K H α v x->Rep X.K H α w y->Zaa v u->Zaa w z->EqAt A s u z b) (e:eqL (eqF n M) ds1 ds2=some b):
  ∃ f:Nat->Bool,(∀ (j:Nat) (h1:j < i1.toArray.size) (h2:j < i2.toArray.size),EqAt A s i1.toArray[j] i2.toArray[j] (f j))/\b=((List.range (min i1.toArray.size i2.toArray.size)).all f && i1.toArray.size == i2.toArray.size):=by
 obtain ⟨g1,g2⟩:=Zhq e
 have l1:i1.toArray.size=ds1.length:=by rw[List.size_toArray,<- v1.length,r1.length]
 have l2:i2.toArray.size=ds2.length:=by rw[List.size_toArray,<- v2.length,r2.length]
 refine ⟨_,fun j h1 h2=> ?_,by rw[l1,l2];exact g2⟩
 have k1:j < ds1.length:=by rw[<- l1];exact h1
 have k2:j < ds2.length:=by rw[<- l2];exact h2
 obtain ⟨c,hc⟩:=g1 j _ _ (List.getElem?_eq_getElem k1) (List.getElem?_eq_getElem k2)
 obtain ⟨v,a1,a2⟩:=r1.get (List.getElem?_eq_getElem k1)
 obtain ⟨w,b1,b2⟩:=r2.get (List.getElem?_eq_getElem k2)
 obtain ⟨u,a3,a4⟩:=v1.get a1
 obtain ⟨z,b3,b4⟩:=v2.get b1
 have q:=ih _ _ v w u z c hc a2 b2 a4 b4
 simp only[List.getElem?_eq_getElem k1,List.getElem?_eq_getElem k2,hc,Option.getD_some]
 have e1:i1.toArray[j]=u:=by
  have:=List.getElem?_eq_some_iff.mp a3
  obtain ⟨_,z⟩:=this
  simpa using z
 have e2:i2.toArray[j]=z:=by
  have:=List.getElem?_eq_some_iff.mp b3
  obtain ⟨_,z⟩:=this
  simpa using z
 rw[e1,e2];exact q
theorem Zhr (I:Inv X pins σ H s)(h:HR X.K H α M){n:Nat}{x y:D}{v w:V}{p q:Addr}{b:Bool}{A:Around}(e:eqF n M x y=some b)(rx:Rep X.K H α v x)(ry:Rep X.K H α w y)(rv:Zaa v (.ref p))(rw':Zaa w (.ref q))
  (k:RcAt A s (.ref p) (.ref q) b) (k':RcNeAt A s (.ref p) (.ref q) (!b)):Eq3 A s (.ref p) (.ref q) b:=by
 refine ⟨?_,k,k'⟩
 by_cases c:p=q
 ·subst c
  cases Zaa.inj rv rw'
  rw[Zjh I h n rx ry e];exact EqAt.same _
 ·exact EqAt.of_refs c k
theorem eq3 (I:Inv X pins σ H s)(h:HR X.K H α M): ∀ (n:Nat) (x y:D) (v w:V) (u z:Value) (b:Bool) (A:Around),A.units + n < cLine->eqF n M x y=some b->Rep X.K H α v x->Rep X.K H α w y->Zaa v u->Zaa w z->Eq3 A s u z b:=by
 intro n
 induction n with
 |zero=>intro x y v w u z b A _ e;simp only[eqF] at e;cases e
 |succ n ih=>
  intro x y v w u z b A hn e rx ry rv rw';have hu:A.units < cLine:=by omega
  have e0:=e
  unfold eqF at e;cases ka:kd M x with
  |none=>rw[ka] at e;cases e
  |some ka'=>
   cases kb:kd M y with
   |none=>rw[ka,kb] at e;cases e
   |some kb'=>
    rw[ka,kb] at e;have va:=vw I h rx rv ka
    have vb:=vw I h ry rw' kb
    have deep: ∀ (x y:D) (v w:V) (u z:Value) (b:Bool),eqF n M x y=some b->Rep X.K H α v x->Rep X.K H α w y->Zaa v u->Zaa w z->EqAt A.in1 s u z b:=fun x y v w u z b e a1 a2 a3 a4=>
     (ih x y v w u z b A.in1 (by rw[Around.in1_units];omega) e a1 a2 a3 a4).1
    cases va with
    |non=>
     cases vb<;>simp only[eqK,Option.some.injEq] at e<;>subst e
     ·exact ⟨EqAt.same _,.none_none,.none_none⟩
     ·exact ⟨.none_bool _,.none_bool _,.none_bool _⟩
     ·exact ⟨.none_int _ _,.none_int _ _,.none_int _ _⟩
     ·exact ⟨.none_str _ _,.none_str _ _,.none_str _ _⟩
     ·rename_i g _ _;exact ⟨.none_tuple g hu,.none_tuple g hu,.none_tuple g hu⟩
     ·rename_i g _ _;exact ⟨.none_list g hu,.none_list g hu,.none_list g hu⟩
    |bl c=>
     cases vb<;>simp only[eqK,Option.some.injEq] at e<;>subst e
     ·exact ⟨.bool_none _,.bool_none _,.bool_none _⟩
     ·exact ⟨.bool_bool _ _,.bool_bool _ _,.bool_bool _ _⟩
     ·exact ⟨.bool_int _ _ _,.bool_int _ _ _,.bool_int _ _ _⟩
     ·exact ⟨.bool_str _ _ _,.bool_str _ _ _,.bool_str _ _ _⟩
     ·rename_i g _ _;exact ⟨.bool_tuple _ g hu,.bool_tuple _ g hu,.bool_tuple _ g hu⟩
     ·rename_i g _ _;exact ⟨.bool_list _ g hu,.bool_list _ g hu,.bool_list _ g hu⟩
    |int c t=>
     cases vb<;>simp only[eqK,Option.some.injEq] at e<;>subst e
     ·exact ⟨.int_none _ _,.int_none _ _,.int_none _ _⟩
     ·exact ⟨.int_bool _ _ _,.int_bool _ _ _,.int_bool _ _ _⟩
     ·exact ⟨.int_int _ _ _ _,.int_int _ _ _ _,.int_int _ _ _ _⟩
     ·exact ⟨.int_str _ _ _ _,.int_str _ _ _ _,.int_str _ _ _ _⟩
     ·rename_i g _ _;exact ⟨.int_tuple _ _ g hu,.int_tuple _ _ g hu,.int_tuple _ _ g hu⟩
     ·rename_i g _ _;exact ⟨.int_list _ _ g hu,.int_list _ _ g hu,.int_list _ _ g hu⟩
    |str c t=>
     cases vb<;>simp only[eqK,Option.some.injEq] at e<;>subst e
     ·exact ⟨.str_none _ _,.str_none _ _,.str_none _ _⟩
     ·exact ⟨.str_bool _ _ _,.str_bool _ _ _,.str_bool _ _ _⟩
     ·exact ⟨.str_int _ _ _ _,.str_int _ _ _ _,.str_int _ _ _ _⟩
     ·exact ⟨.str_str _ _ _ _,.str_str _ _ _ _,.str_str _ _ _ _⟩
     ·rename_i g _ _;exact ⟨.str_tuple _ _ g hu,.str_tuple _ _ g hu,.str_tuple _ _ g hu⟩
     ·rename_i g _ _;exact ⟨.str_list _ _ g hu,.str_list _ _ g hu,.str_list _ _ g hu⟩
    | @tup p xs ds its g1 w1 q1=>
     cases vb with
     | @tup p2 xs2 ds2 its2 g2 w2 q2=>
      simp only[eqK] at e;obtain ⟨f,hf,hb⟩:=ZfA w1 w2 q1 q2 deep e
      subst hb;exact Zhr I h e0 rx ry rv rw' (.tuples g1 g2 hu hf) (.tuples g1 g2 hu hf)
     | @lst p2 xs2 ds2 its2 g2 w2 q2=>
      simp only[eqK,Option.some.injEq] at e;subst e;exact Zhr I h e0 rx ry rv rw' (.tuple_list g1 g2 hu) (.tuple_list g1 g2 hu)
     |non=>simp only[eqK,Option.some.injEq] at e;subst e;exact ⟨.tuple_none g1 hu,.tuple_none g1 hu,.tuple_none g1 hu⟩
     |bl c=>simp only[eqK,Option.some.injEq] at e;subst e;exact ⟨.tuple_bool _ g1 hu,.tuple_bool _ g1 hu,.tuple_bool _ g1 hu⟩
     |int c t=>simp only[eqK,Option.some.injEq] at e;subst e;exact ⟨.tuple_int _ _ g1 hu,.tuple_int _ _ g1 hu,.tuple_int _ _ g1 hu⟩
     |str c t=>simp only[eqK,Option.some.injEq] at e;subst e;exact ⟨.tuple_str _ _ g1 hu,.tuple_str _ _ g1 hu,.tuple_str _ _ g1 hu⟩
    | @lst p xs ds its g1 w1 q1=>
     cases vb with
     | @lst p2 xs2 ds2 its2 g2 w2 q2=>
      simp only[eqK] at e;have l1:its.toArray.size=ds.length:=by rw[List.size_toArray,<- w1.length,q1.length]
      have l2:its2.toArray.size=ds2.length:=by rw[List.size_toArray,<- w2.length,q2.length]
      by_cases c:ds.length=ds2.length
      ·rw[if_pos c] at e
       have hs:its.toArray.size=its2.toArray.size:=by rw[l1,l2,c]
       obtain ⟨f,hf,hb⟩:=ZfA w1 w2 q1 q2 deep e
       rw[hs,Nat.min_self,beq_self_eq_true,Bool.and_true,<- hs] at hb;subst hb;exact Zhr I h e0 rx ry rv rw' (.lists g1 g2 hs hu hf) (.lists g1 g2 hs hu hf)
      ·rw[if_neg c] at e
       have e':false=b:=Option.some.inj e
       subst e';have hs:(its.toArray.size != its2.toArray.size)=true:=by rw[l1,l2];simpa using c
       exact Zhr I h e0 rx ry rv rw' (.lists_lengths g1 g2 hs hu) (.lists_lengths g1 g2 hs hu)
     | @tup p2 xs2 ds2 its2 g2 w2 q2=>
      simp only[eqK,Option.some.injEq] at e;subst e;exact Zhr I h e0 rx ry rv rw' (.list_tuple g1 g2 hu) (.list_tuple g1 g2 hu)
     |non=>simp only[eqK,Option.some.injEq] at e;subst e;exact ⟨.list_none g1 hu,.list_none g1 hu,.list_none g1 hu⟩
     |bl c=>simp only[eqK,Option.some.injEq] at e;subst e;exact ⟨.list_bool _ g1 hu,.list_bool _ g1 hu,.list_bool _ g1 hu⟩
     |int c t=>simp only[eqK,Option.some.injEq] at e;subst e;exact ⟨.list_int _ _ g1 hu,.list_int _ _ g1 hu,.list_int _ _ g1 hu⟩
     |str c t=>simp only[eqK,Option.some.injEq] at e;subst e;exact ⟨.list_str _ _ g1 hu,.list_str _ _ g1 hu,.list_str _ _ g1 hu⟩
end
section
variable {X:Cx}{ξ:XK}
noncomputable def ZpD (X:Cx)(neg:Bool):R2:=fun v w H Q=> ∃ α M x y b,HR X.K H α M/\Rep X.K H α v x/\Rep X.K H α w y/\eqF 12 M x y=some b/\Q (.bl (neg ^^ b)) H
theorem ZC (hu:X.A.units + 64 < cLine):OpR X (compareOp .Eq) (ZpD X false):=by
 intro pins s σ H v w u z Q I rv rw' ⟨α,M,x,y,b,h,rx,ry,e,q⟩;refine (eq3 I h 12 x y v w u z b X.A (by omega) e rx ry rv rw').2.1 _ _ _ _ ⟨.bl b,H,I,rfl,?_⟩
 simpa using q
theorem Zbn (hu:X.A.units + 64 < cLine):OpR X (compareOp .NotEq) (ZpD X true):=by
 intro pins s σ H v w u z Q I rv rw' ⟨α,M,x,y,b,h,rx,ry,e,q⟩;refine (eq3 I h 12 x y v w u z b X.A (by omega) e rx ry rv rw').2.2 _ _ _ _ ⟨.bl (!b),H,I,rfl,?_⟩
 simpa using q
noncomputable def dEq:Bo:=fun x y M=>match eqF 12 M x y with | some b=> .ok (.bl b) M | none=> .bad
noncomputable def dNe:Bo:=fun x y M=>match eqF 12 M x y with | some b=> .ok (.bl (!b)) M | none=> .bad
theorem ZL:BO X ξ (ZpD X false) dEq:=by
 intro H α M v w x y Q h rv rw' q;unfold dEq at q;cases e:eqF 12 M x y with
 |none=>rw[e] at q;exact q.elim
 |some b=>rw[e] at q;exact ⟨α,M,x,y,b,h,rv,rw',e,by simpa using q _ H α Ext.refl h (.bl b)⟩
theorem ZcB:BO X ξ (ZpD X true) dNe:=by
 intro H α M v w x y Q h rv rw' q;unfold dNe at q;cases e:eqF 12 M x y with
 |none=>rw[e] at q;exact q.elim
 |some b=>rw[e] at q;exact ⟨α,M,x,y,b,h,rv,rw',e,by simpa using q _ H α Ext.refl h (.bl (!b))⟩
noncomputable def Zhs:V->Bool
 | .non=>true
 | .bl _=>true
 |_=>false
noncomputable def rIs (neg:Bool):R2:=fun v w H Q=>Zhs w=true/\Q (.bl (neg ^^ decide (v=w))) H
theorem ZfB {v w:V}{u z:Value}(rv:Zaa v u)(rw':Zaa w z)(p:Zhs w=true):plainIs u z=true/\(u == z)=decide (v=w):=by
 cases w with
 |non=>
  cases rw'
  cases v with
  |non=>cases rv;exact ⟨rfl,rfl⟩
  |bl b=>cases rv;exact ⟨rfl,by rw[decide_eq_false (fun z=>(nomatch z))];rfl⟩
  |int b=>obtain ⟨t,rfl⟩:=rv;exact ⟨rfl,by rw[decide_eq_false (fun z=>(nomatch z))];rfl⟩
  |str b=>obtain ⟨t,rfl⟩:=rv;exact ⟨rfl,by rw[decide_eq_false (fun z=>(nomatch z))];rfl⟩
  |byt b=>obtain ⟨t,rfl⟩:=rv;exact ⟨rfl,by rw[decide_eq_false (fun z=>(nomatch z))];rfl⟩
  |flt b=>obtain ⟨t,rfl⟩:=rv;exact ⟨rfl,by rw[decide_eq_false (fun z=>(nomatch z))];rfl⟩
  |ref b=>cases rv;exact ⟨rfl,by rw[decide_eq_false (fun z=>(nomatch z))];rfl⟩
  |ty b=>cases rv;exact ⟨rfl,by rw[decide_eq_false (fun z=>(nomatch z))];rfl⟩
 |bl c=>
  cases rw'
  cases v with
  |non=>cases rv;exact ⟨rfl,by rw[decide_eq_false (fun z=>(nomatch z))];rfl⟩
  |bl b=>cases rv;refine ⟨rfl,?_⟩;cases b<;>cases c<;>rfl
  |int b=>obtain ⟨t,rfl⟩:=rv;exact ⟨rfl,by rw[decide_eq_false (fun z=>(nomatch z))];rfl⟩
  |str b=>obtain ⟨t,rfl⟩:=rv;exact ⟨rfl,by rw[decide_eq_false (fun z=>(nomatch z))];rfl⟩
  |byt b=>obtain ⟨t,rfl⟩:=rv;exact ⟨rfl,by rw[decide_eq_false (fun z=>(nomatch z))];rfl⟩
  |flt b=>obtain ⟨t,rfl⟩:=rv;exact ⟨rfl,by rw[decide_eq_false (fun z=>(nomatch z))];rfl⟩
  |ref b=>cases rv;exact ⟨rfl,by rw[decide_eq_false (fun z=>(nomatch z))];rfl⟩
  |ty b=>cases rv;exact ⟨rfl,by rw[decide_eq_false (fun z=>(nomatch z))];rfl⟩
 |_=>cases p
theorem Znj:OpR X (compareOp .Is) (rIs false):=by
 intro pins s σ H v w u z Q I rv rw' ⟨p,q⟩;obtain ⟨h1,h2⟩:=ZfB rv rw' p
 refine wpAny_is_plain h1 ⟨.bl (u == z),H,I,rfl,?_⟩
 rw[h2]
 simpa using q
theorem Zht:OpR X (compareOp .IsNot) (rIs true):=by
 intro pins s σ H v w u z Q I rv rw' ⟨p,q⟩;obtain ⟨h1,h2⟩:=ZfB rv rw' p
 refine wpAny_isNot_plain h1 ⟨.bl (!(u == z)),H,I,rfl,?_⟩
 rw[h2]
 simpa using q
noncomputable def isP:D->D->Option Bool
 | .non,.non=>some true
 | .bl a,.bl b=>some (a == b)
 |_,.non=>some false
 |_,.bl _=>some false
 |_,_=>none
noncomputable def dIs:Bo:=fun x y M=>match isP x y with | some b=> .ok (.bl b) M | none=> .bad
noncomputable def dIsNot:Bo:=fun x y M=>match isP x y with | some b=> .ok (.bl (!b)) M | none=> .bad
theorem Zkd {K:PySem.W.Frag}{H:Hp}{α:List Addr}{v w:V}{x y:D}{b:Bool}(rv:Rep K H α v x)(rw':Rep K H α w y)(e:isP x y=some b):Zhs w=true/\decide (v=w)=b:=by
 unfold isP at e
 split at e
 ·cases rv;cases rw';cases e;exact ⟨rfl,rfl⟩
 ·rename_i c d
  cases rv;cases rw';cases e
  refine ⟨rfl,?_⟩
  cases c<;>cases d<;>rfl
 ·rename_i hx
  cases rw';cases e
  refine ⟨rfl,decide_eq_false fun z=> ?_⟩
  subst z;cases rv
  exact hx rfl
 ·rename_i c hx
  cases rw';cases e
  refine ⟨rfl,decide_eq_false fun z=> ?_⟩
  subst z;cases rv
  exact hx _ rfl
 ·cases e
theorem Zqa:BO X ξ (rIs false) dIs:=by
 intro H α M v w x y Q h rv rw' q;unfold dIs at q;cases e:isP x y with
 |none=>rw[e] at q;exact q.elim
 |some b=>
  rw[e] at q;obtain ⟨p,d⟩:=Zkd rv rw' e
  exact ⟨p,by rw[d];simpa using q _ H α Ext.refl h (.bl b)⟩
theorem Zji:BO X ξ (rIs true) dIsNot:=by
 intro H α M v w x y Q h rv rw' q;unfold dIsNot at q;cases e:isP x y with
 |none=>rw[e] at q;exact q.elim
 |some b=>
  rw[e] at q;obtain ⟨p,d⟩:=Zkd rv rw' e
  exact ⟨p,by rw[d];simpa using q _ H α Ext.refl h (.bl (!b))⟩
noncomputable def Znk:D->Bool
 | .non=>true
 | .bl _=>true
 | .int _=>true
 | .str _=>true
 |_=>false
noncomputable def Ztc:D->D->Bool
 | .non,.non=>true
 | .bl a,.bl b=>a == b
 | .bl a,.int b=>(if a then 1 else 0) == b
 | .int a,.bl b=>a == (if b then 1 else 0)
 | .int a,.int b=>a == b
 | .str a,.str b=>a == b
 |_,_=>false
noncomputable def ZdB (M:Sto):D->Option (List D)
 | .tup xs=>some xs
 | .rol xs=>some xs
 | .con xs=>some xs
 | .ref n=>match M[n]? with | some (.lst xs)=>some xs | _=>none
 |_=>none
theorem Zhu {K:PySem.W.Frag}{H:Hp}{α:List Addr}{M:Sto}(h:HR K H α M){v:V}{x:D}{ds:List D}(r:Rep K H α v x)(e:ZdB M x=some ds): ∃ p xs,v= .ref p/\(SqL K H p xs\/SqT K H p xs)/\Reps K H α xs ds:=by
 cases r with
 | @tup p xs ds hp rp=>cases e;exact ⟨p,xs,rfl,.inr (SqT.of hp),rp⟩
 | @con p xs ds hp rp=>cases e;exact ⟨p,xs,rfl,.inr hp.sq,rp⟩
 | @rol p xs ds hp rp=>cases e;exact ⟨p,xs,rfl,.inl hp.sq,rp⟩
 | @ref p n hp=>
  cases e1:M[n]? with
  |none=>simp only[ZdB,e1] at e;cases e
  |some o=>
   cases o with
   |lst es=>
    simp only[ZdB,e1] at e;cases e
    obtain ⟨xs,g1,r1⟩:=h.at hp e1
    exact ⟨p,xs,rfl,.inl (SqL.of g1),r1⟩
 |_=>cases e
theorem Zjj {K:PySem.W.Frag}{H:Hp}{α:List Addr}{M:Sto}(h:HR K H α M){v:V}{x:D}{ds:List D}(r:Rep K H α v x)(e:ZdB M x=some ds)(nc: ∀ ys,x≠ .con ys): ∃ p xs,v= .ref p/\(SqL K H p xs\/H p=some (.tup xs))/\Reps K H α xs ds:=by
 cases r with
 |con _ _=>exact absurd rfl (nc _)
 | @tup p xs ds hp rp=>cases e;exact ⟨p,xs,rfl,.inr hp,rp⟩
 | @rol p xs ds hp rp=>cases e;exact ⟨p,xs,rfl,.inl hp.sq,rp⟩
 | @ref p n hp=>
  cases e1:M[n]? with
  |none=>simp only[ZdB,e1] at e;cases e
  |some o=>
   cases o with
   |lst es=>
    simp only[ZdB,e1] at e;cases e
    obtain ⟨xs,g1,r1⟩:=h.at hp e1
    exact ⟨p,xs,rfl,.inl (SqL.of g1),r1⟩
 |_=>cases e
noncomputable def inD (x y:D)(M:Sto):Option Bool:=match ZdB M y with | some ds=>if Znk x=true/\ds.all Znk=true then some (ds.any fun y=>Ztc y x) else none | none=>none
variable {e:Expr}{es:List Expr}{fs:Av}{fa:Ev}{p pos:Pos}{x:Str}{id T:String}{r:List V->Hp->VK->Prop}{f:List D->Sto->Out D}
noncomputable def Zl (f:List D->Sto->Out D)(fs:Av):Ev:=fun ρ M=>(fs ρ M).bind f
noncomputable def CO (X:Cx)(ξ:XK)(r:List V->Hp->VK->Prop)(f:List D->Sto->Out D):Prop:= ∀ H α M vs ds Q,HR X.K H α M->Reps X.K H α vs ds->OP X.K H α ξ Q (f ds M)->r vs H Q
theorem Zo (hc:ZbS X (.builtin id) r)(hf:CO X ξ r f)(hm:X.mg x=none)(hv:bootBuiltins x=some (.builtin id))(ha:DA X ξ (e :: es) fs)(hg:Gl X x:=by rfl)(hn:x≠"__name__":=by decide)(hdb:(x == ("__debug__":Str))=false:=by decide)
  (he:starEach (e :: es) X.env=(false,eval e X.env) :: starEach es X.env:=by rfl) (hpl:(backTo pos (starEach es X.env)).any (·.1)=false:=by rfl):DE X ξ (.Call (.Name x p) (e :: es) [] pos) (Zl f fs):=by
 obtain ⟨ta,ha,qa⟩:=ha
 refine ⟨_,Zfw hc hg hm hv ha hn hdb he hpl,fun σ ρ H α M Q s h q=> ?_⟩
 exact qa σ ρ H α M _ s h (OG.seq q fun ds M1 vs H1 α1 e1 h1 r1 q1=>hf H1 α1 M1 vs ds Q h1 r1 q1)
theorem Zac (hc:ZbS X (.type T) r)(hf:CO X ξ r f)(hm:X.mg x=none)(hv:bootBuiltins x=some (.type T))(ha:DA X ξ (e :: es) fs)(hg:Gl X x:=by rfl)(hn:x≠"__name__":=by decide)(hdb:(x == ("__debug__":Str))=false:=by decide)
  (he:starEach (e :: es) X.env=(false,eval e X.env) :: starEach es X.env:=by rfl) (hpl:(backTo pos (starEach es X.env)).any (·.1)=false:=by rfl):DE X ξ (.Call (.Name x p) (e :: es) [] pos) (Zl f fs):=by
 obtain ⟨ta,ha,qa⟩:=ha
 refine ⟨_,Zha hc hg hm hv ha hn hdb he hpl,fun σ ρ H α M Q s h q=> ?_⟩
 exact qa σ ρ H α M _ s h (OG.seq q fun ds M1 vs H1 α1 e1 h1 r1 q1=>hf H1 α1 M1 vs ds Q h1 r1 q1)
noncomputable def bLen:List D->Sto->Out D:=fun ds M=>match ds with
 | [x]=>match ZdB M x with | some xs=> .ok (.int xs.length) M | none=> .bad
 |_=> .bad
theorem ZG:CO X ξ (fun xs H Q=> ∃ p ys,xs=[.ref p]/\(SqL X.K H p ys\/SqT X.K H p ys)/\Q (.int ys.length) H) bLen:=by
 intro H α M vs ds Q h rs q;unfold bLen at q;cases rs with
 |nil=>exact q.elim
 | @cons v x vs ds r t=>
  cases t with
  |cons _ _=>exact q.elim
  |nil=>
  cases e:ZdB M x with
  |none=>simp only[e] at q;exact q.elim
  |some ys=>
   simp only[e] at q;obtain ⟨p,xs,rfl,h2,h3⟩:=Zhu h r e
   exact ⟨p,xs,rfl,h2,by rw[h3.length];exact q _ H α Ext.refl h (.int _)⟩
noncomputable def bAbs:List D->Sto->Out D:=fun ds M=>match ds with | [.int i]=> .ok (.int (if i < 0 then -i else i)) M | _=> .bad
theorem ZbL:CO X ξ (fun xs H Q=> ∃ i,xs=[.int i]/\Q (.int (if i < 0 then -i else i)) H) bAbs:=by
 intro H α M vs ds Q h rs q;unfold bAbs at q
 split at q
 ·cases rs with
  |cons r t=>
   cases t
   cases r
   exact ⟨_,rfl,q _ H α Ext.refl h (.int _)⟩
 ·exact q.elim
noncomputable def bMax:List D->Sto->Out D:=fun ds M=>match ds with | [.int i,.int j]=> .ok (.int (if j > i then j else i)) M | _=> .bad
noncomputable def bMin:List D->Sto->Out D:=fun ds M=>match ds with | [.int i,.int j]=> .ok (.int (if j < i then j else i)) M | _=> .bad
theorem Zke {g:Int->Int->Int}{f:List D->Sto->Out D}(hf: ∀ ds M,f ds M=match ds with | [.int i,.int j]=> .ok (.int (g i j)) M | _=> .bad):CO X ξ (fun xs H Q=> ∃ i j,xs=[.int i,.int j]/\Q (.int (g i j)) H) f:=by
 intro H α M vs ds Q h rs q;rw[hf] at q
 split at q
 ·rename_i i j
  cases rs with
  |cons r t=>
   cases t with
   |cons r' t'=>
    cases t'
    cases r
    cases r'
    exact ⟨i,j,rfl,q _ H α Ext.refl h (.int _)⟩
 ·exact q.elim
theorem Znl:CO X ξ (fun xs H Q=> ∃ i j,xs=[.int i,.int j]/\Q (.int (if j > i then j else i)) H) bMax:=Zke (g:=fun i j=>if j > i then j else i) fun ds M=>rfl
theorem Znm:CO X ξ (fun xs H Q=> ∃ i j,xs=[.int i,.int j]/\Q (.int (if j < i then j else i)) H) bMin:=Zke (g:=fun i j=>if j < i then j else i) fun ds M=>rfl
noncomputable def bInt:List D->Sto->Out D:=fun ds M=>match ds with | [.int i]=> .ok (.int i) M | [.bl k]=> .ok (.int (if k then 1 else 0)) M | _=> .bad
theorem Zkf:CO X ξ (fun xs H Q=>(∃ i,xs=[.int i]/\Q (.int i) H)\/ ∃ k,xs=[.bl k]/\Q (.int (if k then 1 else 0)) H) bInt:=by
 intro H α M vs ds Q h rs q;unfold bInt at q
 split at q
 ·cases rs with
  |cons r t=>
   cases t
   cases r
   exact .inl ⟨_,rfl,q _ H α Ext.refl h (.int _)⟩
 ·cases rs with
  |cons r t=>
   cases t
   cases r
   exact .inr ⟨_,rfl,q _ H α Ext.refl h (.int _)⟩
 ·exact q.elim
noncomputable def bList:List D->Sto->Out D:=fun ds M=>match ds with
 | [x]=>match ZdB M x with | some xs=> .ok (.ref M.length) (M ++ [.lst xs]) | none=> .bad
 |_=> .bad
theorem ZeX:CO X ξ (fun xs H Q=> ∃ p ys,xs=[.ref p]/\(SqL X.K H p ys\/SqT X.K H p ys)/\ ∀ l,H l=none->Q (.ref l) (upd H l (.lst ys))) bList:=by
 intro H α M vs ds Q h rs q;unfold bList at q;cases rs with
 |nil=>exact q.elim
 | @cons v x vs ds r t=>
  cases t with
  |cons _ _=>exact q.elim
  |nil=>
  cases e:ZdB M x with
  |none=>simp only[e] at q;exact q.elim
  |some ys=>
   simp only[e] at q;obtain ⟨p,xs,rfl,h2,h3⟩:=Zhu h r e
   exact ⟨p,xs,rfl,h2,fun l hl=>q _ _ (α ++ [l]) (Ext.new hl) (h.new hl h3) (.ref ⟨h.last l,Kn.lst Zv⟩)⟩
noncomputable def ZaA (M:Sto)(x:D):Option String:=match kd M x with
 |some .non=>some "NoneType"
 |some (.bl _)=>some "bool"
 |some (.int _)=>some "int"
 |some (.str _)=>some "str"
 |some (.tup _)=>some "tuple"
 |some (.lst _)=>some "list"
 |none=>none
noncomputable def Zco (t T:String):Bool:=t == T || (t == "bool" && T == "int")
noncomputable def Zdg (T:String)(f:Ev):Ev:=fun ρ M=>(f ρ M).bind fun x M1=>match ZaA M1 x with | some t=> .ok (.bl (Zco t T)) M1 | none=> .bad
noncomputable def Ztd (X:Cx)(T:String):List V->Hp->VK->Prop:=fun vs H Q=> ∃ v α M x t,vs=[v,.ty T]/\HR X.K H α M/\Rep X.K H α v x/\ZaA M x=some t/\Q (.bl (Zco t T)) H
structure Kit (K:PySem.W.Frag) (T:String):Prop where
 non:PySem.W.kitOne K (.type "NoneType") (.type T)=some (Zco "NoneType" T)
 bl:PySem.W.kitOne K (.type "bool") (.type T)=some (Zco "bool" T)
 int:PySem.W.kitOne K (.type "int") (.type T)=some (Zco "int" T)
 str:PySem.W.kitOne K (.type "str") (.type T)=some (Zco "str" T)
 tup:PySem.W.kitOne K (.type "tuple") (.type T)=some (Zco "tuple" T)
 lst:PySem.W.kitOne K (.type "list") (.type T)=some (Zco "list" T)
theorem Zhv {K:PySem.W.Frag}:Kit K "int":=⟨rfl,rfl,rfl,rfl,rfl,rfl⟩
theorem ZdC {K:PySem.W.Frag}:Kit K "bool":=⟨rfl,rfl,rfl,rfl,rfl,rfl⟩
theorem Zal {K:PySem.W.Frag}:Kit K "tuple":=⟨rfl,rfl,rfl,rfl,rfl,rfl⟩
theorem ZaP {K:PySem.W.Frag}:Kit K "list":=⟨rfl,rfl,rfl,rfl,rfl,rfl⟩
theorem Zjk (kt:Kit X.K T):ZbS X (.builtin "isinstance") (Ztd X T):=by
 intro pins s σ H vs us Q I rs ⟨v,α,M,x,t,e1,h,rx,et,q⟩;subst e1;obtain ⟨u,w,rfl,ru,rw'⟩:=Zi6 rs
 cases rw'
 unfold ZaA at et;cases ek:kd M x with
 |none=>rw[ek] at et;cases et
 |some k=>
  rw[ek] at et;have va:=vw I h rx ru ek
  have fin: ∀ tk,EP X pins σ Q (.bool (Zco t T)) { s with toks:=tk }:=fun tk=>⟨.bl _,H,I.tok tk,rfl,q⟩
  cases va with
  |non=>cases et;exact PySem.W.kia_one PySem.W.kitx_none I.kIn True.intro kt.non (fun z=>nomatch z) fin
  |bl b=>cases et;exact PySem.W.kia_one PySem.W.kitx_bool I.kIn True.intro kt.bl (fun z=>nomatch z) fin
  |int i t=>cases et;exact PySem.W.kia_one PySem.W.kitx_int I.kIn True.intro kt.int (fun z=>nomatch z) fin
  |str i t=>cases et;exact PySem.W.kia_one PySem.W.kitx_str I.kIn True.intro kt.str (fun z=>nomatch z) fin
  |tup g _ _=>cases et;obtain ⟨o,h1,h2,_⟩:=g;exact PySem.W.kia_one PySem.W.kitx_tuple I.kIn ⟨o,h1,h2⟩ kt.tup (fun z=>nomatch z) fin
  |lst g _ _=>cases et;obtain ⟨o,h1,h2,_⟩:=g;exact PySem.W.kia_one PySem.W.kitx_list I.kIn ⟨o,h1,h2⟩ kt.lst (fun z=>nomatch z) fin
theorem Z0 {y:Str}{p2:Pos}(kt:Kit X.K T)(hm:X.mg "isinstance"=none)(hmT:X.mg y=none)(hvT:bootBuiltins y=some (.type T))(ha:DE X ξ e fa)(hg:Gl X "isinstance":=by rfl)(hgT:Gl X y:=by rfl)(hn:y≠"__name__":=by decide)(hdb:(y == ("__debug__":Str))=false:=by decide)
  (he:starEach [e,.Name y p2] X.env=(false,eval e X.env) :: starEach [.Name y p2] X.env:=by rfl) (he2:starEach [.Name y p2] X.env=(false,eval (.Name y p2) X.env) :: starEach [] X.env:=by rfl) (hpl:(backTo pos (starEach [.Name y p2] X.env)).any (·.1)=false:=by rfl):DE X ξ (.Call (.Name "isinstance" p) [e,.Name y p2] [] pos) (Zdg T fa):=by
 obtain ⟨ta,ha,qa⟩:=ha
 refine ⟨_,Zfw (Zjk kt) hg hm (by with_unfolding_all rfl) (ZcQ ha (ZcQ (ZkS hgT hmT hvT (v:= .ty T) rfl hn hdb) Zg6 he2) he) (by decide) (by decide) he hpl,fun σ ρ H α M Q s h q=> ?_⟩
 refine qa σ ρ H α M _ s h (OG.seq q fun x M1 v H1 α1 e1 h1 r1 q1=> ?_)
 cases et:ZaA M1 x with
 |none=>simp only[et] at q1;exact q1.elim
 |some t=>
  simp only[et] at q1;exact ⟨v,α1,M1,x,t,rfl,h1,r1,et,q1 _ H1 α1 Ext.refl h1 (.bl _)⟩
end
end DL
end
section
namespace DL
open PySem PySem.Spec PyProof.Rows L2
noncomputable def CXE (P:Program)(w:World):CXT:=fun outer H s E e s'=> ∃ (ea C:Addr) (dct:Option Addr) (B:Heap) (H':Hp),e= .ref ea/\s'.os=s.os/\AllBare s'.gens/\Un (frs outer) [] H H' s.heap s'.heap/\HOk P w H' s'.heap/\
 DQ.Fly B outer ea (.ref C) dct .none s'.heap/\(∀ b u,H' b=some u-> ∃ o,B.get? b=some o)/\(∀ b o,s.heap.get? b=some o->b ∉ frs outer-> ∃ o',B.get? b=some o')/\E (.ref C) dct H'
structure Thr (X:Cx) (ξ:XK):Prop where
 own:PassesOwn (model X.prog X.w) X.A X.env X.xe
 ps:Zg7 (CXE X.prog X.w) X ξ
 mak: ∀ (pins:List (Addr × Obj)) (σ:L2.St) (H H':Hp) (s s':Shared) (e:Addr) (oe:Obj) (vs:Array Value) (C:Addr),Inv X pins σ H s->s'.os=s.os->AllBare s'.gens->Un (frs X.stack) [] H H' s.heap s'.heap->HOk X.prog X.w H' s'.heap->s.heap.get? e=none->s'.heap.get? e=some oe->oe.cls= .ref C->
  oe.data= .fields vs->vs[1]?=some .none->vs[2]?=some .none->H' e=none->ξ (.ref C) oe.dict H'->X.xe (.ref e) s'
theorem Zei {h b1 b2:Heap}: ∀ {l:List Env},h.FunFrames b1 l->(∀ b∈frs l,b2.get? b=none)->h.FunFrames b2 l
 | [],_,_=>trivial
 |env :: r,⟨h1,⟨L,o,h2,h3,h4,h5⟩,h6⟩,k=>⟨h1,⟨L,o,h2,k L (by unfold frs;rw[List.filterMap_cons,h2];exact List.mem_cons_self),h4,h5⟩,Zei h6 fun b hb=>k b (by
   unfold frs;rw[List.filterMap_cons,h2];exact List.mem_cons_of_mem _ hb)⟩
section
variable {X:Cx}{pins:List (Addr × Obj)}{σ:L2.St}{H H':Hp}{s:Shared}{h1 h2 B:Heap}
theorem Zkg (hx:X.ex=[])(I:Inv X pins σ H s)(u:Un (frs X.stack) [] H H' s.heap h1)(hok:HOk X.prog X.w H' h1)(t1: ∀ b q,H' b=some q-> ∃ o,B.get? b=some o)(t2: ∀ b o,s.heap.get? b=some o->b ∉ frs X.stack-> ∃ o',B.get? b=some o')
  (st1:B.StaysIn h1) (st2:B.StaysIn h2) (up:h1.UpToSlots h2):Un X.fs [] X.H₀ H' X.s₀.heap h2/\HOk X.prog X.w H' h2/\ ∀ b o,X.s₀.heap.get? b=some o->b ∉ X.fs-> ∃ o',B.get? b=some o':=by
 have kB: ∀ b ob o,B.get? b=some ob->h1.get? b=some o->h2.get? b=some o:=fun b ob o e x=>by
  have z:=st1 b ob e
  rw[x] at z;cases z
  exact st2 b _ e
 have nx: ∀ b,b ∉ X.ex:=fun b=>by rw[hx];simp
 have nL: ∀ b o,X.s₀.heap.get? b=some o->b ∉ X.fs->b ∉ frs X.stack:=fun b o e n z=>by
  rcases List.mem_cons.mp (I.stkSub b z) with q | q
  ·exact absurd (Heap.lt_size e) (by rw[q];exact Nat.not_lt_of_le I.ok.above)
  ·exact n q
 have th: ∀ b o,X.s₀.heap.get? b=some o->b ∉ X.fs-> ∃ o',B.get? b=some o':=fun b o e n=>by
  obtain ⟨o',e'⟩:=I.base.there b o e (nx b)
  exact t2 b o' e' (nL b o e n)
 have sl: ∀ b o,X.s₀.heap.get? b=some o->X.H₀ b=none->b∈X.fs-> ∃ sl,h2.get? b=some { o with slots:=sl }:=fun b o e n hb=>by
  obtain ⟨s1,e1⟩:=I.base.slot b o e n hb (nx b)
  obtain ⟨s2,e2⟩:=u.any e1 (I.base.free b o e n (nx b)) (by simp)
  obtain ⟨_,o',g1,g2⟩:=I.ok.funs.mem hb
  rw[e] at g1;cases g1
  obtain ⟨s3,e3⟩:=up b _ e2 g2
  exact ⟨s3,e3⟩
 refine ⟨⟨fun b o e n hb _=> ?_,fun b o e n hb _=>sl b o e n hb,fun b o e n _=> ?_,fun b o e _=> ?_,fun b xs e=>u.tups b xs (I.base.tups b xs e),fun b o xs e=>u.frzs b o xs (I.base.frzs b o xs e),fun b ps e=> ?_⟩,fun a o e=> ?_,th⟩
 ·obtain ⟨ob,g⟩:=th b o e hb
  exact kB b ob o g (u.keep b o (I.base.keep b o e n hb (nx b)) (I.base.free b o e n (nx b)) (nL b o e hb) (by simp))
 ·obtain ⟨o',e'⟩:=I.base.there b o e (nx b)
  exact u.free b o' e' (I.base.free b o e n (nx b)) (by simp)
 ·by_cases hb:b∈X.fs
  ·obtain ⟨s1,e1⟩:=sl b o e (I.ok.frf b hb) hb
   exact ⟨_,e1⟩
  ·obtain ⟨ob,g⟩:=th b o e hb
   exact ⟨ob,st2 b ob g⟩
 ·obtain ⟨m1,e1⟩:=I.base.tbls b ps e
  obtain ⟨m2,e2⟩:=u.tbls b _ e1
  exact ⟨m1 ++ m2,by rw[e2,Array.append_assoc]⟩
 ·refine (hok a o e).stay (fun b q hb x=> ?_) (fun _ q=>q) fun _ _ q=>q
  have tr: ∃ q,H' b=some q:=by
   rcases hb with z | z
   ·exact ⟨o,z ▸ e⟩
   ·exact ⟨_,z⟩
  obtain ⟨q',z⟩:=tr
  obtain ⟨ob,g⟩:=t1 b q' z
  exact kB b ob q g x
end
theorem ZcK {P:Program}{w:World}{H:Hp}{h:Heap}{a:Addr}{o:HO}(x:Zbr P w H h a o): ∃ ob,h.get? a=some ob:=by
 cases o with
 |lst xs=>obtain ⟨_,_,_,_,e⟩:=x;exact ⟨_,e⟩
 |tup xs=>obtain ⟨_,_,_,ob,e,_⟩:=x;exact ⟨_,e⟩
 |dK kvs=>obtain ⟨_,_,_,_,o,_,_,e,_⟩:=x;exact ⟨_,e⟩
 |dT kvs=>obtain ⟨_,_,_,_,o,_,_,e,_⟩:=x;exact ⟨_,e⟩
 |set S n=>obtain ⟨o,_,_,_,e,_⟩:=x;exact ⟨_,e⟩
 |ins C dx fs=>obtain ⟨_,_,_,e,_⟩:=x;exact ⟨_,e⟩
 |own y=>exact x
 |xd fs=>obtain ⟨_,⟨_,_,_,e,_⟩,_⟩:=x;exact ⟨_,e⟩
 |rng lo hi=>obtain ⟨_,_,_,e⟩:=x;exact ⟨_,e⟩
 |frz ob u=>obtain ⟨e,_⟩:=x;exact ⟨_,e⟩
 |tbl ps=>exact ⟨_,(show h.get? a=some _ from x)⟩
 |met f y=>exact ⟨_,(show h.get? a=some _ from x)⟩
 |ext φ=>obtain ⟨_,e,_⟩:=x;exact e
noncomputable def ZiW (h:Heap)(l:List Addr):Heap:=ZiV h fun b=>if b∈l then some (.own 0) else none
theorem ZfC {h:Heap}{l:List Addr}{b:Addr}{o:Obj}(e:h.get? b=some o)(n:b ∉ l):(ZiW h l).get? b=some o:=Zfs e (if_neg n)
theorem Zhw {h:Heap}{l:List Addr}{b:Addr}{o:Obj}(e:(ZiW h l).get? b=some o):h.get? b=some o/\b ∉ l:=by
 obtain ⟨a,n⟩:=ZgU e
 refine ⟨a,fun z=> ?_⟩
 simp only[if_pos z] at n;cases n
theorem Zej {h:Heap}{l:List Addr}{b:Addr}(n:b∈l):(ZiW h l).get? b=none:=by
 cases q:(ZiW h l).get? b with
 |none=>rfl
 |some o=>exact absurd n (Zhw q).2
theorem Zek {h h' b1:Heap}: ∀ {l:List Env},h.FunFrames b1 l->(∀ b o,b∈frs l->h.get? b=some o-> ∃ o',h'.get? b=some o'/\o'.data=o.data)->h'.FunFrames b1 l
 | [],_,_=>trivial
 |env :: r,⟨h1,⟨L,o,h2,h3,h4,h5⟩,h6⟩,k=>by
  have m:frs (env :: r)=L :: frs r:=by unfold frs;rw[List.filterMap_cons,h2]
  obtain ⟨o',g1,g2⟩:=k L o (by rw[m];exact List.mem_cons_self) h4
  exact ⟨h1,⟨L,o',h2,h3,g1,fun vs=>g2 ▸ h5 vs⟩,Zek h6 fun b o hb=>k b o (by rw[m];exact List.mem_cons_of_mem _ hb)⟩
theorem Zel {X:Cx}{pins:List (Addr × Obj)}{σ:L2.St}{H H':Hp}{s s':Shared}{e:Addr}{oe:Obj}(I:Inv X pins σ H s)(un:Un (frs X.stack) [] H H' s.heap s'.heap)(hok:HOk X.prog X.w H' s'.heap)(hn:s.heap.get? e=none)(he:s'.heap.get? e=some oe)(hne:H' e=none):
  (∀ b u,H' b=some u-> ∃ o,(ZiW s'.heap (e :: frs X.stack)).get? b=some o)/\(∀ b o,s.heap.get? b=some o->b ∉ frs X.stack-> ∃ o',(ZiW s'.heap (e :: frs X.stack)).get? b=some o')/\
  (ZiW s'.heap (e :: frs X.stack)).StaysIn s'.heap/\s'.heap.FunFrames (ZiW s'.heap (e :: frs X.stack)) X.stack/\(ZiW s'.heap (e :: frs X.stack)).get? e=none:=by
 have nfr: ∀ b∈frs X.stack,H' b=none:=fun b hb=>by
  obtain ⟨_,o',g1,g2⟩:=I.stack.mem hb
  exact un.free b o' g1 (I.stkFree b hb) (by simp)
 refine ⟨fun b u x=> ?_,fun b o x n=> ?_,fun b o x=>(Zhw x).1,Zek (Zei I.stack fun b hb=>Zej (List.mem_cons_of_mem _ hb)) fun b o hb x=> ?_,Zej (by simp)⟩
 ·obtain ⟨o,g⟩:=ZcK (hok b u x)
  refine ⟨o,ZfC g fun z=> ?_⟩
  rcases List.mem_cons.mp z with z | z
  ·rw[z,hne] at x;cases x
  ·rw[nfr b z] at x;cases x
 ·obtain ⟨o',g⟩:=un.there b o x (by simp)
  refine ⟨o',ZfC g fun z=> ?_⟩
  rcases List.mem_cons.mp z with z | z
  ·rw[z,hn] at x;cases x
  ·exact n z
 ·obtain ⟨sl,g⟩:=un.any x (I.stkFree b hb) (by simp)
  exact ⟨_,g,rfl⟩
theorem Znn {P:Program}{w:World}{K:PySem.W.Frag}{mg:Str->Option Value}{base:Heap}{N:List Str}{qual:Str}{scope:Scope}{f:Addr}{cd:Value}{A:Around}{outer:List Env}{s:Shared}{H:Hp}{E:XK}:
  Thr (Zg8 (CXE P w) P w K mg base N qual scope f cd A outer s H E) E:=by
 refine ⟨PassesOwn.leaving,fun pins σ H1 s1 e s2 I h=> ?_,fun pins σ H1 H' s1 s' e oe vs C I os bare un hok hn he hc hd v1 v2 hne q=> ?_⟩
 ·obtain ⟨ea,C,dct,B,H2,rfl,os,bare,un,hok,fl,t1,t2,q⟩:=h
  refine DQ.Zhj (outer:=outer) I.ok.frames rfl fl fun h3 f3 up=> ?_
  obtain ⟨a1,a2,a3⟩:=Zkg rfl I un hok t1 t2 fl.stay f3.stay up
  exact ⟨ea,C,dct,B,H2,rfl,os.trans I.os,bare,a1,a2,f3,t1,a3,q⟩
 ·obtain ⟨t1,t2,hs,hl,hb⟩:=Zel I un hok hn he hne
  refine DQ.Zhk (s:=s') (outer:=outer) I.ok.frames rfl hl he hs hb hd v1 v2 fun h3 f3 up=> ?_
  obtain ⟨a1,a2,a3⟩:=Zkg rfl I un hok t1 t2 hs f3.stay up
  rw[hc] at f3;exact ⟨e,C,oe.dict,_,H',rfl,os.trans I.os,bare,a1,a2,f3,t1,a3,q⟩
end DL
end
section
namespace DL
open PySem PySem.Spec PyProof.Rows L2
noncomputable def FP (K:PySem.W.Frag)(H:Hp)(α:List Addr)(ξ:XK)(Dn:Ends):Fl->Prop
 | .nx ρ' M'=> ∀ σ' H' α',Ext K H H' α α'->HR K H' α' M'->SR K H' α' σ' ρ'->Dn.nx σ' H'
 | .brk ρ' M'=> ∀ σ' H' α',Ext K H H' α α'->HR K H' α' M'->SR K H' α' σ' ρ'->Dn.bk σ' H'
 | .cnt ρ' M'=> ∀ σ' H' α',Ext K H H' α α'->HR K H' α' M'->SR K H' α' σ' ρ'->Dn.ct σ' H'
 | .ret d M'=> ∀ v H' α',Ext K H H' α α'->HR K H' α' M'->Rep K H' α' v d->Dn.rt v H'
 | .exc c M'=> ∀ C H' α',PySem.W.nsIn K mainGlobals c=some (some (.ref C))->Ext K H H' α α'-> ∀ dct,XO K H' α' c M' dct->ξ (.ref C) dct H'
 | .bad=>False
theorem FP.ext {K:PySem.W.Frag}{H H1:Hp}{α α1:List Addr}{ξ:XK}{Dn:Ends}{o:Fl}(h:FP K H α ξ Dn o)(e:Ext K H H1 α α1):FP K H1 α1 ξ Dn o:=by
 cases o with
 |nx ρ M=>exact fun σ' H' α' e'=>h σ' H' α' (e.trans e')
 |brk ρ M=>exact fun σ' H' α' e'=>h σ' H' α' (e.trans e')
 |cnt ρ M=>exact fun σ' H' α' e'=>h σ' H' α' (e.trans e')
 |ret d M=>exact fun v H' α' e'=>h v H' α' (e.trans e')
 |exc c M=>exact fun C H' α' n e'=>h C H' α' n (e.trans e')
 |bad=>exact h
noncomputable def DS (X:Cx)(ξ:XK)(st:Stmt)(g:Sv):Prop:= ∃ t:TS,PS X st t/\ ∀ σ ρ H α M Dn,SR X.K H α σ ρ->HR X.K H α M->FP X.K H α ξ Dn (g ρ M)->t Dn σ H
noncomputable def DSs (X:Cx)(ξ:XK)(st:List Stmt)(g:Sv):Prop:= ∃ t:TS,PSs X st t/\ ∀ σ ρ H α M Dn,SR X.K H α σ ρ->HR X.K H α M->FP X.K H α ξ Dn (g ρ M)->t Dn σ H
noncomputable def Zar {β:Type}(o:Out β)(k:β->Sto->Fl):Fl:=match o with
 | .ok a M=>k a M
 | .exc c M=> .exc c M
 | .bad=> .bad
theorem FP.seq {β γ:Type}{K:PySem.W.Frag}{R:Hp->List Addr->γ->β->Prop}{H:Hp}{α:List Addr}{ξ:XK}{Dn:Ends}{Q1:γ->Hp->Prop}{o:Out β}{f:β->Sto->Fl}
  (h:FP K H α ξ Dn (Zar o f)) (k: ∀ d M' v H' α',Ext K H H' α α'->HR K H' α' M'->R H' α' v d->FP K H' α' ξ Dn (f d M')->Q1 v H'):OG K R H α ξ Q1 o:=by
 cases o with
 |ok d M'=>exact fun v H' α' e hr r=>k d M' v H' α' e hr r (FP.ext (o:=f d M') h e)
 |exc c M'=>exact h
 |bad=>exact h
noncomputable def Zz (g h:Sv):Sv:=fun ρ M=>match g ρ M with
 | .nx ρ1 M1=>h ρ1 M1
 |o=>o
noncomputable def sNil:Sv:=fun ρ M=> .nx ρ M
noncomputable def ZM (f:Ev):Sv:=fun ρ M=>Zar (f ρ M) fun d M1=> .ret d M1
noncomputable def Zno:Sv:=fun _ M=> .ret .non M
noncomputable def ZcC (f:Ev):Sv:=fun ρ M=>Zar (f ρ M) fun _ M1=> .nx ρ M1
noncomputable def sIf (c:Tv)(g h:Sv):Sv:=fun ρ M=>Zar (c ρ M) fun k M1=>if k=true then g ρ M1 else h ρ M1
noncomputable def Zte:Sv:=fun ρ M=> .brk ρ M
noncomputable def Ztf:Sv:=fun ρ M=> .cnt ρ M
noncomputable def sBad:Sv:=fun _ _=> .bad
noncomputable abbrev Tg:=D->Ro->Option Ro
noncomputable abbrev Tgs:=List D->Ro->Option Ro
noncomputable def gNm (i:Nat):Tg:=fun d ρ=>some (ρ.set i (some d))
noncomputable def gNl:Tgs:=fun ds ρ=>match ds with | []=>some ρ | _=>none
noncomputable def gCs (g:Tg)(gs:Tgs):Tgs:=fun ds ρ=>match ds with | d :: r=>(match g d ρ with | some ρ1=>gs r ρ1 | none=>none) | []=>none
noncomputable def gTp (gs:Tgs):Tg:=fun d ρ=>match d with | .tup ds=>gs ds ρ | _=>none
noncomputable def ZN (g:Tg)(f:Ev):Sv:=fun ρ M=>Zar (f ρ M) fun d M1=>match g d ρ with | some ρ1=> .nx ρ1 M1 | none=> .bad
noncomputable def Zgo (i j:Nat)(fs:Av):Sv:=fun ρ M=>Zar (fs ρ M) fun ds M1=>match ds with | [v,w]=> .nx ((ρ.set i (some v)).set j (some w)) M1 | _=> .bad
noncomputable def ZeT (fo fi fe:Ev):Sv:=fun ρ M=>Zar (fe ρ M) fun d M1=>Zar (fo ρ M1) fun o M2=>Zar (fi ρ M2) fun i M3=>match o,i with
 | .ref n,.int k=>(match M3[n]? with
  |some (.lst xs)=>(match ixN xs.length k with | some j=> .nx ρ (M3.set n (.lst (xs.set j d))) | none=> .bad)
  |_=> .bad)
 |_,_=> .bad
section
variable {X:Cx}{ξ:XK}{st:Stmt}{sts:List Stmt}{g h:Sv}{e:Expr}{f:Ev}{pos:Pos}{c:Expr}{fc:Tv}
theorem Zm:DSs X ξ [] sNil:=⟨_,ZkT,fun σ ρ H α M Dn s h q=>q σ H α Ext.refl h s⟩
theorem Zf (h1:DS X ξ st g)(h2:DSs X ξ sts h):DSs X ξ (st :: sts) (Zz g h):=by
 obtain ⟨t1,p1,q1⟩:=h1
 obtain ⟨t2,p2,q2⟩:=h2
 refine ⟨_,Zdx p1 p2,fun σ ρ H α M Dn s hh q=>q1 σ ρ H α M { Dn with nx:=t2 Dn } s hh ?_⟩
 unfold Zz at q;cases e:g ρ M with
 |nx ρ1 M1=>rw[e] at q;exact fun σ' H' α' ex hr sr=>q2 σ' ρ1 H' α' M1 Dn sr hr (FP.ext q ex)
 |brk ρ1 M1=>rw[e] at q;exact q
 |cnt ρ1 M1=>rw[e] at q;exact q
 |ret d M1=>rw[e] at q;exact q
 |exc c M1=>rw[e] at q;exact q
 |bad=>rw[e] at q;exact q
theorem Zh (h1:DS X ξ st g):DSs X ξ [st] g:=let ⟨_,p,q⟩:=h1;⟨_,ZgW p,q⟩
theorem Zn (he:DE X ξ e f):DS X ξ (.Return (some e) pos) (ZM f):=by
 obtain ⟨t,p,q⟩:=he
 exact ⟨_,ZmK p,fun σ ρ H α M Dn s hh w=>q σ ρ H α M _ s hh (FP.seq w fun d M1 v H1 α1 e1 h1 r1 w1=>w1 v H1 α1 Ext.refl h1 r1)⟩
theorem Zbv (he:DE X ξ e f)(hs:swapsWith e none pos.line X.env=pure false:=by rfl):DS X ξ (.Expr e pos) (ZcC f):=by
 obtain ⟨t,p,q⟩:=he
 exact ⟨_,ZgX p hs,fun σ ρ H α M Dn s hh w=>q σ ρ H α M _ s hh (FP.seq w fun d M1 v H1 α1 e1 h1 r1 w1=>w1 σ H1 α1 Ext.refl h1 (s.mono e1))⟩
theorem ZA {a b:List Stmt}(hc:DT X ξ c fc)(ha:DSs X ξ a g)(hb:DSs X ξ b h):DS X ξ (.If c a b pos) (sIf fc g h):=by
 obtain ⟨tc,pc,qc⟩:=hc
 obtain ⟨ta,pa,qa⟩:=ha
 obtain ⟨tb,pb,qb⟩:=hb
 refine ⟨_,ZpR pc pa pb,fun σ ρ H α M Dn s hh w=>qc σ ρ H α M _ s hh (FP.seq w fun k M1 v H1 α1 e1 h1 r1 w1=> ?_)⟩
 cases r1
 cases k with
 |true=>exact Zj9 (qa σ ρ H1 α1 M1 Dn (s.mono e1) h1 w1)
 |false=>exact Zj8 (qb σ ρ H1 α1 M1 Dn (s.mono e1) h1 w1)
theorem Zdl:DS X ξ st sBad:=⟨_,ZiZ,fun σ ρ H α M Dn s h q=>q⟩
noncomputable def DG (X:Cx)(tg:Expr)(g:Tg):Prop:= ∃ t:TG,PG X tg t/\ ∀ v d σ ρ H α ρ' Q,SR X.K H α σ ρ->Rep X.K H α v d->g d ρ=some ρ'->(∀ σ',SR X.K H α σ' ρ'->Q σ' H)->t v σ H Q
noncomputable def DGs (X:Cx)(tgs:List Expr)(g:Tgs):Prop:= ∃ t:TGs,PGs X tgs t/\ ∀ vs ds σ ρ H α ρ' Q,SR X.K H α σ ρ->Reps X.K H α vs ds->g ds ρ=some ρ'->(∀ σ',SR X.K H α σ' ρ'->Q σ' H)->t vs σ H Q
theorem Zp (i:Nat){x:Str}(hN:X.N.Nodup)(hi:X.N[i]?=some x:=by rfl)(hx:Loc X.env.scope x:=by first | exact Or.inl rfl | exact Or.inr rfl)(hm:X.may i=true:=by rfl)(hf:X.fn x=true\/X.env.scope.names.lookup x=some .local:=by first | exact .inl rfl | exact .inr rfl | assumption):DG X (.Name x pos) (gNm i):=by
 refine ⟨_,ZkU hN hi hx hm hf,fun v d σ ρ H α ρ' Q s r e k=> ?_⟩
 cases e
 exact k _ (s.set i r)
theorem ZP:DGs X [] gNl:=by
 refine ⟨_,ZgY,fun vs ds σ ρ H α ρ' Q s r e k=> ?_⟩
 cases r with
 |nil=>cases e;exact ⟨rfl,k _ s⟩
 |cons _ _=>cases e
theorem Zr {es:List Expr}{g:Tg}{gs:Tgs}(h1:DG X e g)(h2:DGs X es gs)(hs:(assignEach (e :: es) X.env).map (·.2)=assign e X.env :: (assignEach es X.env).map (·.2):=by rfl):DGs X (e :: es) (gCs g gs):=by
 obtain ⟨t1,p1,q1⟩:=h1
 obtain ⟨t2,p2,q2⟩:=h2
 refine ⟨_,Zdy p1 p2 hs,fun vs ds σ ρ H α ρ' Q s r e k=> ?_⟩
 cases r with
 |nil=>cases e
 |cons r rr=>
  rename_i v d vs ds;cases e1:g d ρ with
  |none=>simp only[gCs,e1] at e;cases e
  |some ρ1=>
   simp only[gCs,e1] at e;exact ⟨v,vs,rfl,q1 v d σ ρ H α ρ1 _ s r e1 fun σ' s'=>q2 vs ds σ' ρ1 H α ρ' Q s' rr e k⟩
theorem Z3 {es:List Expr}{k:Nat}{gs:Tgs}{n:Nat}(hc:X.calm=true)(h:DGs X es gs)(hn:(assignEach es X.env).length=n:=by rfl)(hlen: ∀ ds ρ ρ',gs ds ρ=some ρ'->ds.length=n)(hst:(assignEach es X.env).findIdx? (·.1)=none:=by rfl):DG X (.Tuple es k pos) (gTp gs):=by
 obtain ⟨t,p,q⟩:=h
 refine ⟨_,Zj1 hc p hn hst,fun v d σ ρ H α ρ' Q s r e k=> ?_⟩
 cases r with
 | @tup a xs ds hp rp=>
  have e':gs ds ρ=some ρ':=e
  exact ⟨a,xs,rfl,(SqT.of hp),by rw[rp.length];exact hlen ds ρ ρ' e',q xs ds σ ρ H α ρ' Q s rp e' k⟩
 |_=>cases e
theorem ZQ {ds:List D}{ρ ρ':Ro}(h:gNl ds ρ=some ρ'):ds.length=0:=by cases ds with | nil=>rfl | cons _ _=>cases h
theorem Zx {g:Tg}{gs:Tgs}{n:Nat}(h: ∀ ds ρ ρ',gs ds ρ=some ρ'->ds.length=n)(ds:List D)(ρ ρ':Ro)(e:gCs g gs ds ρ=some ρ'):ds.length=n + 1:=by
 cases ds with
 |nil=>cases e
 |cons d r=>
  cases e1:g d ρ with
  |none=>simp only[gCs,e1] at e;cases e
  |some ρ1=>simp only[gCs,e1] at e;rw[List.length_cons,h r ρ1 ρ' e]
theorem Zs (i:Nat){x:Str}{pos':Pos}(hN:X.N.Nodup)(he:DE X ξ e f)(hi:X.N[i]?=some x:=by rfl)(hx:Loc X.env.scope x:=by first | exact Or.inl rfl | exact Or.inr rfl)(hm:X.may i=true:=by rfl)(hs:swapsWith e (some (.Name x pos')) pos.line X.env=pure false:=by rfl)(hf:X.fn x=true\/X.env.scope.names.lookup x=some .local:=by first | exact .inl rfl | exact .inr rfl | assumption):
  DS X ξ (.Assign [.Name x pos'] e pos) (ZN (gNm i) f):=by
 obtain ⟨t,p,q⟩:=he
 exact ⟨_,ZmN hN hi hx hm p hs hf,fun σ ρ H α M Dn s hh w=>q σ ρ H α M _ s hh (FP.seq w fun d M1 v H1 α1 e1 h1 r1 w1=>w1 _ H1 α1 Ext.refl h1 ((s.mono e1).set i r1))⟩
theorem Zdm {tg:Expr}{gt:Tg}(he:DE X ξ e f)(hg:DG X tg gt)(hs:swapsWithSole [tg] e pos.line X.env=pure false:=by rfl)(hw:swappedStores [tg] e X.env=pure none:=by rfl)
  (h1:(assignEach [tg] X.env).map (·.2)=[assign tg X.env]:=by rfl):DS X ξ (.Assign [tg] e pos) (ZN gt f):=by
 obtain ⟨t,p,q⟩:=he
 obtain ⟨tt,pt,qt⟩:=hg
 refine ⟨_,Zj3 p pt hs hw h1,fun σ ρ H α M Dn s hh w=>q σ ρ H α M _ s hh (FP.seq w fun d M1 v H1 α1 e1 h1 r1 w1=> ?_)⟩
 cases eg:gt d ρ with
 |none=>simp only[eg] at w1;exact w1.elim
 |some ρ1=>
  simp only[eg] at w1;exact qt v d σ ρ H1 α1 ρ1 _ (s.mono e1) r1 eg fun σ' s'=>w1 σ' H1 α1 Ext.refl h1 s'
theorem ZfD (i j:Nat){x y:Str}{a b:Expr}{fs:Av}{px py pt:Pos}{kt k2 pt2}(hc:X.calm=true)(hN:X.N.Nodup)(ha:DA X ξ [a,b] fs)(hi:X.N[i]?=some x:=by rfl)(hj:X.N[j]?=some y:=by rfl)(mi:X.may i=true:=by rfl)(mj:X.may j=true:=by rfl)(hij:i≠j:=by decide)
  (hx:X.env.scope.names.lookup x=some .local:=by rfl) (hy:X.env.scope.names.lookup y=some .local:=by rfl)
  (hw:swappedStores [.Tuple [.Name x px,.Name y py] kt pt] (.Tuple [a,b] k2 pt2) X.env=pure (some [x,y]):=by rfl)
  (hs:swapsWithSole [.Tuple [.Name x px,.Name y py] kt pt] (.Tuple [a,b] k2 pt2) pos.line X.env=pure false:=by rfl):
  DS X ξ (.Assign [.Tuple [.Name x px,.Name y py] kt pt] (.Tuple [a,b] k2 pt2) pos) (Zgo i j fs):=by
 obtain ⟨t,p,q⟩:=ha
 refine ⟨_,ZmO hc mi mj hN hi hj hij hx hy p hw hs,fun σ ρ H α M Dn s hh w=>q σ ρ H α M _ s hh (FP.seq w fun ds M1 vs H1 α1 e1 h1 r1 w1=> ?_)⟩
 match r1 with
 | .nil=>exact w1.elim
 | .cons _ .nil=>exact w1.elim
 | .cons _ (.cons _ (.cons _ _))=>exact w1.elim
 | .cons r (.cons r' .nil)=>exact ⟨_,_,rfl,w1 _ H1 α1 Ext.refl h1 (((s.mono e1).set i r).set j r')⟩
noncomputable def whN (c:Tv)(g:Sv):Nat->Ro->Sto->Option Fl
 |0,_,_=>none
 |n + 1,ρ,M=>match c ρ M with
  | .ok true M1=>(match g ρ M1 with
   | .nx ρ2 M2=>whN c g n ρ2 M2
   | .cnt ρ2 M2=>whN c g n ρ2 M2
   | .brk ρ2 M2=>some (.nx ρ2 M2)
   |o=>some o)
  | .ok false M1=>some (.nx ρ M1)
  | .exc e M1=>some (.exc e M1)
  | .bad=>some .bad
theorem ZcL {c:Tv}{g:Sv}: ∀ {n:Nat} {ρ:Ro} {M:Sto} {o:Fl},whN c g n ρ M=some o-> ∀ k,whN c g (n + k) ρ M=some o
 |0,_,_,_,e,_=>by simp only[whN] at e;cases e
 |n + 1,ρ,M,o,e,k=>by
  have ek:n + 1 + k=(n + k) + 1:=by omega
  rw[ek];unfold whN at e ⊢;cases ec:c ρ M with
  |bad=>rw[ec] at e;exact e
  |exc x M1=>rw[ec] at e;exact e
  |ok b M1=>
   rw[ec] at e;cases b with
   |false=>exact e
   |true=>
    cases eg:g ρ M1 with
    |nx ρ2 M2=>simp only[eg] at e ⊢;exact ZcL e k
    |cnt ρ2 M2=>simp only[eg] at e ⊢;exact ZcL e k
    |brk ρ2 M2=>simp only[eg] at e ⊢;exact e
    |ret d M2=>simp only[eg] at e ⊢;exact e
    |exc x M2=>simp only[eg] at e ⊢;exact e
    |bad=>simp only[eg] at e ⊢;exact e
open Classical in
noncomputable def sWh (c:Tv)(g:Sv):Sv:=fun ρ M=>if h: ∃ o n,whN c g n ρ M=some o then Classical.choose h else .bad
theorem Zhx {c:Tv}{g:Sv}{n:Nat}{ρ:Ro}{M:Sto}{o:Fl}(e:whN c g n ρ M=some o):sWh c g ρ M=o:=by
 have hx: ∃ o n,whN c g n ρ M=some o:=⟨o,n,e⟩
 unfold sWh;rw[dif_pos hx];obtain ⟨m,em⟩:=Classical.choose_spec hx
 have h1:=ZcL em n
 have h2:=ZcL e m
 rw[Nat.add_comm] at h2;rw[h1] at h2;exact Option.some.inj h2
theorem Zkh {c:Tv}{g:Sv}{ρ:Ro}{M:Sto}(e:sWh c g ρ M≠ .bad): ∃ n,whN c g n ρ M=some (sWh c g ρ M):=by
 by_cases hx: ∃ o n,whN c g n ρ M=some o
 ·obtain ⟨o,n,h⟩:=hx
  exact ⟨n,by rw[Zhx h];exact h⟩
 ·unfold sWh at e
  rw[dif_neg hx] at e;exact absurd rfl e
theorem Zhy {c:Tv}{g:Sv}{ρ:Ro}{M M1:Sto}(h:c ρ M= .ok false M1):sWh c g ρ M= .nx ρ M1:=Zhx (n:=1) (by simp only[whN,h])
theorem Zjl {c:Tv}{g:Sv}{ρ ρ2:Ro}{M M1 M2:Sto}(h:c ρ M= .ok true M1)(h2:g ρ M1= .nx ρ2 M2)(hb:sWh c g ρ2 M2≠ .bad):sWh c g ρ M=sWh c g ρ2 M2:=by
 obtain ⟨n,e⟩:=Zkh hb
 exact Zhx (n:=n + 1) (by simp only[whN,h,h2];exact e)
theorem ZfE {body:List Stmt}(hp:PassesOwn (model X.prog X.w) X.A X.env X.xe)(hc:DT X ξ c fc)(hb:DSs X ξ body g):DS X ξ (.While c body [] pos) (sWh fc g):=by
 obtain ⟨tc,pc,qc⟩:=hc
 obtain ⟨tb,pb,qb⟩:=hb
 refine ⟨_,Zi0 hp pc pb,fun σ ρ H α M Dn s hh w=> ?_⟩
 have nb:sWh fc g ρ M≠ .bad:=fun z=>by rw[z] at w;exact w
 obtain ⟨n,en⟩:=Zkh nb
 generalize sWh fc g ρ M=o at w en;refine ⟨fun m σ' H'=> ∃ ρ' α' M',Ext X.K H H' α α'/\SR X.K H' α' σ' ρ'/\HR X.K H' α' M'/\whN fc g m ρ' M'=some o,⟨n,ρ,α,M,Ext.refl,s,hh,en⟩,?_⟩
 rintro m σ1 H1 ⟨ρ1,α1,M1,e1,s1,h1,en1⟩
 cases m with
 |zero=>simp only[whN] at en1;cases en1
 |succ m=>
  refine qc σ1 ρ1 H1 α1 M1 _ s1 h1 ?_
  unfold whN at en1;cases ec:fc ρ1 M1 with
  |bad=>rw[ec] at en1;cases en1;exact w.elim
  |exc x M2=>
   rw[ec] at en1;cases en1;exact fun C H' α' nn ex hr=>w C H' α' nn (e1.trans ex) hr
  |ok b M2=>
   rw[ec] at en1;intro v H2 α2 e2 h2 ev;cases ev
   cases b with
   |false=>
    cases en1
    exact Zj8 (w σ1 H2 α2 (e1.trans e2) h2 (s1.mono e2))
   |true=>
    refine Zj9 ⟨fun σ' H'=> ∃ ρ' α' M',Ext X.K H H' α α'/\SR X.K H' α' σ' ρ'/\HR X.K H' α' M'/\whN fc g m ρ' M'=some o,fun σ' H' z=>⟨m,Nat.lt_succ_self m,z⟩,?_⟩
    refine qb σ1 ρ1 H2 α2 M2 _ (s1.mono e2) h2 ?_
    have e12:=e1.trans e2
    cases eg:g ρ1 M2 with
    |nx ρ2 M3=>simp only[eg] at en1;exact fun σ' H' α' ex hr sr=>⟨ρ2,α',M3,e12.trans ex,sr,hr,en1⟩
    |cnt ρ2 M3=>simp only[eg] at en1;exact fun σ' H' α' ex hr sr=>⟨ρ2,α',M3,e12.trans ex,sr,hr,en1⟩
    |brk ρ2 M3=>simp only[eg] at en1;cases en1;exact fun σ' H' α' ex hr sr=>w σ' H' α' (e12.trans ex) hr sr
    |ret d M3=>simp only[eg] at en1;cases en1;exact fun v H' α' ex hr sr=>w v H' α' (e12.trans ex) hr sr
    |exc x M3=>simp only[eg] at en1;cases en1;exact fun C H' α' nn ex hr=>w C H' α' nn (e12.trans ex) hr
    |bad=>simp only[eg] at en1;cases en1;exact w.elim
noncomputable def ZbH (tg:Tg)(g:Sv):List D->Ro->Sto->Fl
 | [],ρ,M=> .nx ρ M
 |d :: r,ρ,M=>match tg d ρ with
  |none=> .bad
  |some ρ1=>(match g ρ1 M with
   | .nx ρ2 M2=>ZbH tg g r ρ2 M2
   | .cnt ρ2 M2=>ZbH tg g r ρ2 M2
   | .brk ρ2 M2=> .nx ρ2 M2
   |o=>o)
noncomputable def ZgN (tg:Tg)(g:Sv)(n:Nat):Nat->Nat->Ro->Sto->Fl
 |f,i,ρ,M=>match M[n]? with
  |some (.lst xs)=>(match xs[i]? with
   |none=> .nx ρ M
   |some d=>(match f with
    |0=> .bad
    |f + 1=>(match tg d ρ with
     |none=> .bad
     |some ρ1=>(match g ρ1 M with
      | .nx ρ2 M2=>ZgN tg g n f (i + 1) ρ2 M2
      | .cnt ρ2 M2=>ZgN tg g n f (i + 1) ρ2 M2
      | .brk ρ2 M2=> .nx ρ2 M2
      |o=>o))))
  |none=> .bad
noncomputable def Zbq (lo:Int)(n:Nat):List D:=(List.range n).map fun (i:Nat)=>D.int (lo + i)
noncomputable def Zki (tg:Tg)(g:Sv)(d:D)(ρ:Ro)(M:Sto):Fl:=match d with
 | .tup xs=>ZbH tg g xs ρ M
 | .rol xs=>ZbH tg g xs ρ M
 | .ref n=>(match M[n]? with | some (.lst xs)=>ZgN tg g n xs.length 0 ρ M | none=> .bad)
 |_=> .bad
noncomputable def Zlg (tg:Tg)(f:Ev)(g:Sv):Sv:=fun ρ M=>Zar (f ρ M) fun d M1=>Zki tg g d ρ M1
noncomputable def ZbM (tg:Tg)(fs:Av)(g:Sv):Sv:=fun ρ M=>Zar (fs ρ M) fun ds M1=>match ds with
 | [.int j]=>if -(2 ^ 62)<=j/\j < 2 ^ 62 then ZbH tg g (Zbq 0 j.toNat) ρ M1 else .bad
 |_=> .bad
noncomputable def Zhz (tg:Tg)(fs:Av)(g:Sv):Sv:=fun ρ M=>Zar (fs ρ M) fun ds M1=>match ds with
 | [.int i,.int j]=>if -(2 ^ 62)<=i/\i < 2 ^ 62/\ -(2 ^ 62)<=j/\j < 2 ^ 62 then ZbH tg g (Zbq i (j - i).toNat) ρ M1 else .bad
 |_=> .bad
theorem ZfF {lo:Int}{n i:Nat}(h:i < n):(Zbq lo n)[i]?=some (.int (lo + i)):=by
 unfold Zbq;rw[List.getElem?_map,List.getElem?_range h]
 rfl
theorem ZdD {lo:Int}{n:Nat}:(Zbq lo n).length=n:=by unfold Zbq;rw[List.length_map,List.length_range]
theorem ZhA {lo:Int}{n i:Nat}(h:i < n):(Zbq lo n).drop i= .int (lo + i) :: (Zbq lo n).drop (i + 1):=by
 have hl:i < (Zbq lo n).length:=by rw[ZdD];exact h
 have e:=ZfF (lo:=lo) h
 rw[List.getElem?_eq_getElem hl] at e
 rw[List.drop_eq_getElem_cons hl,Option.some.inj e]
theorem Zjm {tg:Expr}{gt:Tg}{tt:TG}{tb:TS}{Dn:Ends}{H H1:Hp}{α α1:List Addr}{o:Fl}{k:Ro->Sto->Fl}(w:FP X.K H α ξ Dn o)
  (qt: ∀ v d σ ρ H α ρ' Q,SR X.K H α σ ρ->Rep X.K H α v d->gt d ρ=some ρ'->(∀ σ',SR X.K H α σ' ρ'->Q σ' H)->tt v σ H Q) (qb: ∀ σ ρ H α M Dn,SR X.K H α σ ρ->HR X.K H α M->FP X.K H α ξ Dn (g ρ M)->tb Dn σ H)
  {v:V} {d:D} {σ1:L2.St} {ρ1:Ro} {M1:Sto} (e1:Ext X.K H H1 α α1) (s1:SR X.K H1 α1 σ1 ρ1) (h1:HR X.K H1 α1 M1) (r:Rep X.K H1 α1 v d)
  (en:(match gt d ρ1 with | none=>Fl.bad | some ρ2=>(match g ρ2 M1 with | .nx ρ3 M3=>k ρ3 M3 | .cnt ρ3 M3=>k ρ3 M3 | .brk ρ3 M3=> .nx ρ3 M3 | o=>o))=o)
  {N:L2.St->Hp->Prop} (hN: ∀ σ' H',(∃ ρ' α' M',Ext X.K H H' α α'/\SR X.K H' α' σ' ρ'/\HR X.K H' α' M'/\k ρ' M'=o)->N σ' H'):tt v σ1 H1 fun σ2 H2=>tb { Dn with nx:=N,ct:=N,bk:=Dn.nx } σ2 H2:=by
 cases eg:gt d ρ1 with
 |none=>rw[eg] at en;cases en;exact w.elim
 |some ρ2=>
  simp only[eg] at en;refine qt v d σ1 ρ1 H1 α1 ρ2 _ s1 r eg fun σ2 s2=>qb σ2 ρ2 H1 α1 M1 _ s2 h1 ?_
  cases ex:g ρ2 M1 with
  |nx ρ3 M3=>simp only[ex] at en;exact fun σ' H' α' e2 hr sr=>hN _ _ ⟨ρ3,α',M3,e1.trans e2,sr,hr,en⟩
  |cnt ρ3 M3=>simp only[ex] at en;exact fun σ' H' α' e2 hr sr=>hN _ _ ⟨ρ3,α',M3,e1.trans e2,sr,hr,en⟩
  |brk ρ3 M3=>simp only[ex] at en;cases en;exact fun σ' H' α' e2 hr sr=>w σ' H' α' (e1.trans e2) hr sr
  |ret d M3=>simp only[ex] at en;cases en;exact fun v H' α' e2 hr sr=>w v H' α' (e1.trans e2) hr sr
  |exc x M3=>simp only[ex] at en;cases en;exact fun C H' α' nn e2 hr=>w C H' α' nn (e1.trans e2) hr
  |bad=>simp only[ex] at en;cases en;exact w.elim
theorem Znp {tg:Expr}{gt:Tg}{tt:TG}{tb:TS}{Dn:Ends}{H:Hp}{α:List Addr}{lo:Int}{n:Nat}{σ:L2.St}{ρ:Ro}{M:Sto}
  (qt: ∀ v d σ ρ H α ρ' Q,SR X.K H α σ ρ->Rep X.K H α v d->gt d ρ=some ρ'->(∀ σ',SR X.K H α σ' ρ'->Q σ' H)->tt v σ H Q) (qb: ∀ σ ρ H α M Dn,SR X.K H α σ ρ->HR X.K H α M->FP X.K H α ξ Dn (g ρ M)->tb Dn σ H)
  (s:SR X.K H α σ ρ) (hh:HR X.K H α M) (w:FP X.K H α ξ Dn (ZbH gt g (Zbq lo n) ρ M)):
  ∃ W:Nat->Nat->L2.St->Hp->Prop,(∃ m,W 0 m σ H)/\ ∀ i m σ H,W i m σ H->
   ((Itr lo n).stop i H/\Dn.nx σ H)\/((Itr lo n).go i H/\ ∃ N:L2.St->Hp->Prop,(∀ σ' H',N σ' H'-> ∃ m',m' < m/\W (i + 1) m' σ' H')/\ ∀ x H',(Itr lo n).yld i H x H'->tt x σ H' fun σ2 H2=>tb { Dn with nx:=N,ct:=N,bk:=Dn.nx } σ2 H2):=by
 generalize ho:ZbH gt g (Zbq lo n) ρ M=o at w;refine Zg2 (fun i σ' H'=> ∃ ρ' α' M',Ext X.K H H' α α'/\SR X.K H' α' σ' ρ'/\HR X.K H' α' M'/\ZbH gt g ((Zbq lo n).drop i) ρ' M'=o) ⟨ρ,α,M,Ext.refl,s,hh,ho⟩ ?_ ?_
 ·rintro i σ1 H1 hi ⟨ρ1,α1,M1,e1,s1,h1,en⟩
  rw[ZhA hi] at en;exact Zjm (tg:=tg) w qt qb e1 s1 h1 (.int (lo + i)) en (fun σ' H' z=>z)
 ·rintro σ1 H1 ⟨ρ1,α1,M1,e1,s1,h1,en⟩
  rw[List.drop_eq_nil_of_le (by rw[ZdD];exact Nat.le_refl _)] at en
  cases en
  exact w σ1 H1 α1 e1 h1 s1
theorem ZbE {tg a:Expr}{gt:Tg}{fs:Av}{body:List Stmt}{p p2:Pos}(hp:PassesOwn (model X.prog X.w) X.A X.env X.xe)(hm:X.mg "range"=none)(ha:DA X ξ [a] fs)(hg:DG X tg gt)(hb:DSs X ξ body g)
  (hgl:Gl X "range":=by rfl) (hs:starEach [a] X.env=[(false,eval a X.env)]:=by rfl) (hf: ∀ x,foldedSetIterable (.Call (.Name "range" p) [a] [] p2) X.env x=pure x:=by intro _;rfl):DS X ξ (.For tg (.Call (.Name "range" p) [a] [] p2) body [] pos) (ZbM gt fs g):=by
 obtain ⟨ta,pa,qa⟩:=ha
 obtain ⟨tt,pt,qt⟩:=hg
 obtain ⟨tb,pb,qb⟩:=hb
 refine ⟨_,Zg1 hp (Zd7 hgl hm pa hs) pt pb hf,fun σ ρ H α M Dn s hh w=>qa σ ρ H α M _ s hh (FP.seq w fun ds M1 vs H1 α1 e1 h1 r1 w1=> ?_)⟩
 match r1 with
 | .nil=>exact w1.elim
 | .cons r (.cons _ _)=>cases r<;>exact w1.elim
 | .cons r .nil=>
  cases r with
  |int j=>
   by_cases c: -(2 ^ 62)<=j/\j < 2 ^ 62
   ·simp only[if_pos c] at w1
    exact ⟨j,rfl,c.1,c.2,Znp (tg:=tg) qt qb (s.mono e1) h1 w1⟩
   ·simp only[if_neg c] at w1
    exact w1.elim
  |_=>exact w1.elim
noncomputable def Ztg (K:PySem.W.Frag)(tl:TE):TI:=fun σ H R=>tl σ H fun x H1=> ∃ a,x= .ref a/\(((∃ xs,SqL K H1 a xs)/\R (Itl K a) H1)\/((∃ xs,SqT K H1 a xs)/\R (Itt K a) H1))
theorem Zkj {tg l:Expr}{tl:TE}(hl:PE X l tl):PI X tg l (Ztg X.K tl):=by
 intro pins s σ H R I h;refine thn (hl pins s σ H _ I h) fun v s1 ⟨x,H1,I1,r1,q1⟩=> ?_
 obtain ⟨a,e,q⟩:=q1
 subst e;cases r1
 have fp: ∀ b∈[s1.heap.objs.size],Zd6 X pins H1 b:=fun b hb=>by
  have e:b=s1.heap.objs.size:=by simpa using hb
  subst e;exact I1.fpOk (Nat.le_refl _) (I1.hok.fresh (Nat.le_refl _))
 rcases q with ⟨⟨xs,hq⟩,q⟩ | ⟨⟨xs,hq⟩,q⟩
 ·obtain ⟨its,rv,p,hz⟩:=I1.list hq
  refine wpAny_pyIter_list p.isList ?_
  exact ⟨s1.heap.objs.size,[s1.heap.objs.size],_,_,H1,rfl,I1.kept (t':=s1.toks) fun b o e=>Heap.get?_push_of_some _ e,ZgZ a _,⟨_,Heap.get?_push_size _ rfl,rfl,rfl⟩,fp,q⟩
 ·obtain ⟨its,rv,p,hz⟩:=I1.tuple hq
  refine wpAny_pyIter_tuple (show s1.heap.IsTuple a its.toArray from p) ?_
  exact ⟨s1.heap.objs.size,[s1.heap.objs.size],_,_,H1,rfl,I1.kept (t':=s1.toks) fun b o e=>Heap.get?_push_of_some _ e,Zgc a _,⟨_,Heap.get?_push_size _ rfl,rfl,rfl⟩,fp,q⟩
theorem ZfG {tg l:Expr}{gt:Tg}{f:Ev}{body:List Stmt}(hp:PassesOwn (model X.prog X.w) X.A X.env X.xe)(hl:DE X ξ l f)(hg:DG X tg gt)(hb:DSs X ξ body g)
  (hf: ∀ x,foldedSetIterable l X.env x=pure x:=by intro _;rfl):DS X ξ (.For tg l body [] pos) (Zlg gt f g):=by
 obtain ⟨ta,pa,qa⟩:=hl
 obtain ⟨tt,pt,qt⟩:=hg
 obtain ⟨tb,pb,qb⟩:=hb
 refine ⟨_,Zg1 hp (Zkj pa) pt pb hf,fun σ ρ H α M Dn s hh w=>qa σ ρ H α M _ s hh (FP.seq w fun d M1 v H1 α1 e1 h1 r1 w1=> ?_)⟩
 have s1:=s.mono e1
 have pure_: ∀ (ds:List D) (xs:List V),Reps X.K H1 α1 xs ds->FP X.K H1 α1 ξ Dn (ZbH gt g ds ρ M1)-> ∀ (i:Nat) σ' H',(∃ ρ' α' M',Ext X.K H1 H' α1 α'/\SR X.K H' α' σ' ρ'/\HR X.K H' α' M'/\ZbH gt g (ds.drop i) ρ' M'=ZbH gt g ds ρ M1)->
   (∀ x,xs[i]?=some x->tt x σ' H' fun σ2 H2=>tb { Dn with nx:=fun σ H=> ∃ ρ' α' M',Ext X.K H1 H α1 α'/\SR X.K H α' σ ρ'/\HR X.K H α' M'/\ZbH gt g (ds.drop (i + 1)) ρ' M'=ZbH gt g ds ρ M1,ct:=fun σ H=> ∃ ρ' α' M',Ext X.K H1 H α1 α'/\SR X.K H α' σ ρ'/\HR X.K H α' M'/\ZbH gt g (ds.drop (i + 1)) ρ' M'=ZbH gt g ds ρ M1,bk:=Dn.nx } σ2 H2)/\
   (i=xs.length->Dn.nx σ' H'):=by
  intro ds xs r w1 i σ' H' ⟨ρ',α',M',ex,sr,hr,en⟩;refine ⟨fun x hx=> ?_,fun hi=> ?_⟩
  ·have hi:i < ds.length:=by rw[<- r.length];exact (List.getElem?_eq_some_iff.mp hx).1
   obtain ⟨v,g1,g2⟩:=r.get (List.getElem?_eq_getElem hi)
   rw[hx] at g1;cases g1
   rw[List.drop_eq_getElem_cons hi] at en;exact Zjm (tg:=tg) w1 qt qb ex sr hr (Rep.mono ex g2) en (fun σ' H' z=>z)
  ·rw[hi,r.length,List.drop_length] at en
   have en':Fl.nx ρ' M'=ZbH gt g ds ρ M1:=en
   rw[<- en'] at w1;exact w1 σ' H' α' ex hr sr
 cases r1 with
 | @tup p xs ds hp rp=>
  have w2:FP X.K H1 α1 ξ Dn (ZbH gt g ds ρ M1):=w1
  refine ⟨p,rfl,.inr ⟨⟨xs,(SqT.of hp)⟩,ZkV (K:=X.K) (a:=p) (xs:=xs) (fun i σ' H'=> ∃ ρ' α' M',Ext X.K H1 H' α1 α'/\SR X.K H' α' σ' ρ'/\HR X.K H' α' M'/\ZbH gt g (ds.drop i) ρ' M'=ZbH gt g ds ρ M1) ⟨ρ,α1,M1,Ext.refl,s1,h1,rfl⟩ ?_ ?_ ?_⟩⟩
  ·rintro i σ' H' _ ⟨ρ',α',M',ex,_⟩
   exact SqT.of (ex.tup _ _ hp)
  ·intro i x σ' H' hx z
   exact (pure_ ds xs rp w2 i σ' H' z).1 x hx
  ·intro σ' H' z
   exact (pure_ ds xs rp w2 _ σ' H' z).2 rfl
 | @rol p xs ds hp rp=>
  have w2:FP X.K H1 α1 ξ Dn (ZbH gt g ds ρ M1):=w1
  refine ⟨p,rfl,.inl ⟨⟨xs,hp.sq⟩,Zi3 (K:=X.K) (a:=p) (xs:=xs) (fun i σ' H'=> ∃ ρ' α' M',Ext X.K H1 H' α1 α'/\SR X.K H' α' σ' ρ'/\HR X.K H' α' M'/\ZbH gt g (ds.drop i) ρ' M'=ZbH gt g ds ρ M1) ⟨ρ,α1,M1,Ext.refl,s1,h1,rfl⟩ ?_ ?_ ?_⟩⟩
  ·rintro i σ' H' _ ⟨ρ',α',M',ex,_⟩
   exact (ex.rol _ _ hp).sq
  ·intro i x σ' H' hx z
   exact (pure_ ds xs rp w2 i σ' H' z).1 x hx
  ·intro σ' H' z
   exact (pure_ ds xs rp w2 _ σ' H' z).2 rfl
 | @ref p n hp=>
  cases em:M1[n]? with
  |none=>simp only[Zki,em] at w1;exact w1.elim
  |some so=>
   cases so with
   |lst ds=>
    simp only[Zki,em] at w1;obtain ⟨xs0,g0,r0⟩:=h1.at hp em
    generalize eo:ZgN gt g n ds.length 0 ρ M1=o at w1;refine ⟨p,rfl,.inl ⟨⟨xs0,SqL.of g0⟩,fun i m σ' H'=> ∃ ρ' α' M',Ext X.K H1 H' α1 α'/\SR X.K H' α' σ' ρ'/\HR X.K H' α' M'/\ZgN gt g n m i ρ' M'=o,⟨ds.length,ρ,α1,M1,Ext.refl,s1,h1,eo⟩,?_⟩⟩
    rintro i m σ' H' ⟨ρ',α',M',ex,sr,hr,en⟩
    unfold ZgN at en;cases em2:M'[n]? with
    |none=>simp only[em2] at en;cases en;exact w1.elim
    |some so2=>
     cases so2 with
     |lst ds2=>
      simp only[em2] at en;obtain ⟨xs,g1,g2⟩:=hr.at (ex.get hp) em2
      cases ei:ds2[i]? with
      |none=>
       simp only[ei] at en;cases en
       refine .inl ⟨⟨xs,SqL.of g1,?_⟩,w1 σ' H' α' ex hr sr⟩
       rw[g2.length];exact List.getElem?_eq_none_iff.mp ei
      |some d=>
       simp only[ei] at en;obtain ⟨v,k1,k2⟩:=g2.get ei
       cases m with
       |zero=>cases en;exact w1.elim
       |succ m=>
        refine .inr ⟨⟨xs,v,SqL.of g1,k1⟩,fun σ2 H2=> ∃ ρ' α' M',Ext X.K H1 H2 α1 α'/\SR X.K H2 α' σ2 ρ'/\HR X.K H2 α' M'/\ZgN gt g n m (i + 1) ρ' M'=o,fun σ2 H2 z=>⟨m,Nat.lt_succ_self m,z⟩,fun x H2 y=> ?_⟩
        obtain ⟨ey,y⟩:=y
        subst ey;have ev:=y xs (SqL.of g1)
        rw[k1] at ev;cases ev
        exact Zjm (tg:=tg) w1 qt qb ex sr hr k2 en (fun σ' H' z=>z)
 |_=>exact w1.elim
end
noncomputable def fnF (g:Sv)(n k:Nat):List D->Sto->Out D:=fun ds M=>if ds.length=n then (match g (ds.map some ++ List.replicate k none) M with
 | .ret d M'=> .ok d M'
 | .nx _ M'=> .ok .non M'
 | .exc c M'=> .exc c M'
 |_=> .bad) else .bad
noncomputable def spD (K:PySem.W.Frag)(F:List D->Sto->Out D):Sp:=fun vs H Q E=> ∃ ds α M,Reps K H α vs ds/\HR K H α M/\OP K H α E Q (F ds M)
theorem Zem: ∀ {ds:List D} {k i:Nat} {d:D},(ds.map some ++ List.replicate k none)[i]?=some (some d)->ds[i]?=some d
 | [],k,i,d,h=>by
  rw[List.map_nil,List.nil_append] at h
  have:=List.mem_of_getElem? h
  rw[List.mem_replicate] at this;cases this.2
 |x :: r,k,0,d,h=>by simpa using h
 |x :: r,k,i + 1,d,h=>by
  rw[List.map_cons,List.cons_append,List.getElem?_cons_succ] at h
  rw[List.getElem?_cons_succ]
  exact Zem h
theorem SR.start {K:PySem.W.Frag}{H:Hp}{α:List Addr}{N:List Str}{vs:List V}{ds:List D}{k:Nat}(r:Reps K H α vs ds)(hk:k=N.length - ds.length):SR K H α (start N vs) (ds.map some ++ List.replicate k none):=by
 unfold L2.start;refine ⟨by simp only[List.length_append,List.length_map,List.length_replicate,r.length,hk],fun i d h=> ?_⟩
 obtain ⟨v,h1,h2⟩:=r.get (Zem h)
 refine ⟨v,?_,h2⟩
 have hl:i < vs.length:=(List.getElem?_eq_some_iff.mp h1).1
 rw[List.getElem?_append_left (by rw[List.length_map];exact hl),List.getElem?_map,h1]
 rfl
section
variable {P:Program}{w:World}{K:PySem.W.Frag}{mg:Str->Option Value}{base:Heap}
theorem Znq {x qual:Str}{st:Stmt}{f:Addr}{fd:FuncData}{N ps:List Str}{k n m:Nat}{g:Sv}(F:Fun K x qual st f fd)(S:FnScope N ps (Zy st))(hn:n=ps.length)(hm:m=N.length - n)
  (hb: ∀ (cdv:Value) (A:Around) (outer:List Env) (s:Shared) (H:Hp) (E:XK),Room k (A.deeper (envOfC qual (Zy st) s.heap.objs.size f cdv))->Thr (Zg8 (CXE P w) P w K mg base N qual (Zy st) f cdv A outer s H E) E->DSs (Zg8 (CXE P w) P w K mg base N qual (Zy st) f cdv A outer s H E) E (ZaF st) g):
  FnOk P w K mg base (CXE P w) (k + 1) f fd ps (spD K (fnF g n m)):=by
 obtain ⟨oc,od,kV,doc,pm,an,cdv,ct,osl,rfl,lk,hcd⟩:=F.ex
 refine ZmX lk hcd S (fun vs H Q E h=> ?_) (fun A outer s H vs Q E hr h=> ?_)
 ·obtain ⟨ds,α,M,r,_,q⟩:=h
  by_cases c:ds.length=n
  ·rw[r.length,c,hn]
  ·simp only[fnF,if_neg c] at q
   exact q.elim
 ·obtain ⟨ds,α,M,r,hh,q⟩:=h
  obtain ⟨t,p,w'⟩:=hb cdv A outer s H E hr Znn
  by_cases c:ds.length=n
  ·simp only[fnF,if_pos c] at q
   refine ⟨t,p,w' _ _ H α M _ (SR.start (N:=N) r (k:=m) (by rw[hm,c])) hh ?_⟩
   cases e:g (ds.map some ++ List.replicate m none) M with
   |nx ρ' M'=>simp only[e] at q;exact fun σ' H' α' ex hr sr=>q _ H' α' ex hr .non
   |ret d M'=>simp only[e] at q;exact q
   |exc x M'=>simp only[e] at q;exact q
   |brk ρ' M'=>simp only[e] at q;exact q.elim
   |cnt ρ' M'=>simp only[e] at q;exact q.elim
   |bad=>simp only[e] at q;exact q.elim
  ·simp only[fnF,if_neg c] at q
   exact q.elim
end
section
variable {X:Cx}{ξ:XK}{k:Nat}{f:Addr}{fd:FuncData}{ps:List Str}{F:List D->Sto->Out D}{x:Str}{p pos:Pos}{e:Expr}{es:List Expr}{fs:Av}
theorem Zlh (G:FnOk X.prog X.w X.K X.mg X.base (CXE X.prog X.w) k f fd ps (spD X.K F))(T:Thr X ξ)(hr:Room k X.A)(hm:X.mg x=some (.ref f))(hk:PySem.W.keepIn X.K (.ref f)=true)(hb:Zdz X.K fd ps [])(ha:DA X ξ (e :: es) fs)(hg:Gl X x:=by rfl)
  (hdb:(x == ("__debug__":Str))=false:=by decide) (he:starEach (e :: es) X.env=(false,eval e X.env) :: starEach es X.env:=by rfl) (hpl:(backTo pos (starEach es X.env)).any (·.1)=false:=by rfl):DE X ξ (.Call (.Name x p) (e :: es) [] pos) (Zl F fs):=by
 obtain ⟨t,pa,qa⟩:=ha
 refine ⟨_,Zk0 G hr hg hm hk hb .nil T.ps pa hdb he hpl,fun σ ρ H α M Q s hh q=>qa σ ρ H α M _ s hh (OG.seq q fun ds M1 vs H1 α1 e1 h1 r1 q1=> ?_)⟩
 rw[List.append_nil];exact ⟨ds,α1,M1,r1,h1,q1⟩
end
end DL
end
section
namespace DL
open PySem PySem.Spec PyProof.Rows L2
theorem ZbN:bootBuiltins "abs"=some (.builtin "abs"):=by decide +kernel
theorem ZfH:bootBuiltins "int"=some (.type "int"):=by decide +kernel
theorem ZeY:bootBuiltins "bool"=some (.type "bool"):=by decide +kernel
theorem Zas:bootBuiltins "list"=some (.type "list"):=by decide +kernel
theorem ZZ:bootBuiltins "tuple"=some (.type "tuple"):=by decide +kernel
theorem Zkk:bootBuiltins "max"=some (.builtin "max"):=by decide +kernel
theorem Znr:bootBuiltins "min"=some (.builtin "min"):=by decide +kernel
noncomputable def Cal (P:Program)(w:World)(K:PySem.W.Frag)(mg:Str->Option Value)(base:Heap)(x:Str)(k n:Nat)(F:List D->Sto->Out D):Prop:=
 ∃ (f:Addr) (fd:FuncData) (ps:List Str),FnOk P w K mg base (CXE P w) k f fd ps (spD K F)/\mg x=some (.ref f)/\PySem.W.keepIn K (.ref f)=true/\ps.length=n/\Zdz K fd ps []
theorem Zjn {X:Cx}{ξ:XK}{k n:Nat}{F:List D->Sto->Out D}{x:Str}{p pos:Pos}{e:Expr}{es:List Expr}{fs:Av}(C:Cal X.prog X.w X.K X.mg X.base x k n F)(T:Thr X ξ)(hr:Room k X.A)(ha:DA X ξ (e :: es) fs)(hg:Gl X x:=by rfl)
  (hdb:(x == ("__debug__":Str))=false:=by decide) (he:starEach (e :: es) X.env=(false,eval e X.env) :: starEach es X.env:=by rfl) (hpl:(backTo pos (starEach es X.env)).any (·.1)=false:=by rfl):DE X ξ (.Call (.Name x p) (e :: es) [] pos) (Zl F fs):=by
 obtain ⟨f,fd,ps,G,hm,hk,_,hb⟩:=C
 exact Zlh G T hr hm hk hb ha hg hdb he hpl
theorem Zns {K:PySem.W.Frag}{H:Hp}{a:Addr}{ns:List Int}{n:Nat}{F:List D->Sto->Out D}(hl:ns.length<=n)(hO:ZpA H)(hS:SqL K H a (ns.map V.int))(h: ∃ M',F [.rol (ns.map D.int)] []= .ok (.bl true) M'):
  spD K F [.ref a] H (fun v _=>v= .bl true) (fun _ _ _=>False):=by
 obtain ⟨M',e⟩:=h
 have hF:SqF K H a (ns.map V.int):=by
  rcases hS with (h | ⟨o,h⟩) | h
  ·rcases hO a with z | ⟨o,xs,z⟩
   ·rw[h] at z;cases z
   ·rw[h] at z;cases z
  ·exact .inl ⟨o,h⟩
  ·exact .inr h
 refine ⟨[.rol (ns.map D.int)],[],[],.cons (.rol hF (Reps.ints ns)) .nil,HR.nil,?_⟩
 rw[e];intro v H' α' _ _ r;cases r
 rfl
end DL
end
section
namespace DL
open PySem PySem.Spec PyProof.Rows L2
noncomputable def bl:List Str:=["abs","all","any","bool","dict","enumerate","int","isinstance","len","list","max","min","range","repr","reversed","sorted","str","sum","tuple","zip"]
structure Bs (mg:Str->Option Value):Prop where
 b_abs:mg "abs"=none
 b_all:mg "all"=none
 b_any:mg "any"=none
 b_bool:mg "bool"=none
 b_dict:mg "dict"=none
 b_enumerate:mg "enumerate"=none
 b_int:mg "int"=none
 b_isinstance:mg "isinstance"=none
 b_len:mg "len"=none
 b_list:mg "list"=none
 b_max:mg "max"=none
 b_min:mg "min"=none
 b_range:mg "range"=none
 b_repr:mg "repr"=none
 b_reversed:mg "reversed"=none
 b_sorted:mg "sorted"=none
 b_str:mg "str"=none
 b_sum:mg "sum"=none
 b_tuple:mg "tuple"=none
 b_zip:mg "zip"=none
theorem Bs.of {K:PySem.W.Frag}{h:Heap}{mg:Str->Option Value}(X:K.In h)(G:h.Ns mainGlobals mg)(z:bl.map (PySem.W.nsIn K mainGlobals)=bl.map fun _=>some none):Bs mg:=by
 have q (x:Str) (m:x∈bl):mg x=none:=PySem.W.mg_none_of X G (List.map_inj_left.mp z x m)
 constructor<;>exact q _ (by decide +kernel)
noncomputable def Df (K:PySem.W.Frag)(x:Str)(st:Stmt):Prop:= ∃ f fd,PySem.W.nsIn K mainGlobals x=some (some (.ref f))/\Fun K x x st f fd
noncomputable def Dfs (K:PySem.W.Frag)(p:Nat->Stmt)(L:List Rw):Prop:=
 L.map (fun r=>(PySem.W.nsIn K mainGlobals r.n,K.lookup r.f,PySem.W.codeIn K (.ref (r.f - 1)) r.n,PySem.W.keepIn K (.ref r.f)))=L.map fun r=>(some (some (.ref r.f)),some (r.fo p),true,true)
theorem Dfs.of {K:PySem.W.Frag}{p:Nat->Stmt}{L:List Rw}(h:L.map (fun r=>(PySem.W.nsIn K mainGlobals r.n,K.lookup r.f,PySem.W.codeIn K (.ref (r.f - 1)) r.n,PySem.W.keepIn K (.ref r.f)))=L.map fun r=>(some (some (.ref r.f)),some (r.fo p),true,true)):Dfs K p L:=h
theorem Dfs.at {K:PySem.W.Frag}{p:Nat->Stmt}{L:List Rw}(h:Dfs K p L)(j i:Nat){x:Str}(e:(L[j]?).map (fun r=>(Str.ofString r.n,r.i))=some (x,i):=by rfl):Df K x (p i):=by
 obtain ⟨r,m,e⟩:=Option.map_eq_some_iff.mp e
 have q:=List.map_inj_left.mp h r (List.mem_of_getElem? m)
 cases e
 simp only[Prod.mk.injEq] at q;exact ⟨_,_,q.1,Zj7 q.2.1 q.2.2.1 q.2.2.2⟩
section
variable {P:Program}{w:World}{K:PySem.W.Frag}{mg:Str->Option Value}{base:Heap}
theorem Zth {α:Type}{P:List α->Prop}(h:P []): ∀ us:List α,us.length=0->P us
 | [],_=>h
theorem Zti {α:Type}{P:List α->Prop}(h: ∀ x0,P [x0]): ∀ us:List α,us.length=1->P us
 | [x0],_=>h x0
theorem Ztj {α:Type}{P:List α->Prop}(h: ∀ x0 x1,P [x0,x1]): ∀ us:List α,us.length=2->P us
 | [x0,x1],_=>h x0 x1
theorem ZrW {α:Type}{P:List α->Prop}(h: ∀ x0 x1 x2,P [x0,x1,x2]): ∀ us:List α,us.length=3->P us
 | [x0,x1,x2],_=>h x0 x1 x2
theorem Ztk {α:Type}{P:List α->Prop}(h: ∀ x0 x1 x2 x3,P [x0,x1,x2,x3]): ∀ us:List α,us.length=4->P us
 | [x0,x1,x2,x3],_=>h x0 x1 x2 x3
theorem Ztl {α:Type}{P:List α->Prop}(h: ∀ x0 x1 x2 x3 x4,P [x0,x1,x2,x3,x4]): ∀ us:List α,us.length=5->P us
 | [x0,x1,x2,x3,x4],_=>h x0 x1 x2 x3 x4
theorem Ztm {α:Type}{P:List α->Prop}(h: ∀ x0 x1 x2 x3 x4 x5,P [x0,x1,x2,x3,x4,x5]): ∀ us:List α,us.length=6->P us
 | [x0,x1,x2,x3,x4,x5],_=>h x0 x1 x2 x3 x4 x5
theorem ZO {x:Str}{st:Stmt}{N:List Str}{k n m:Nat}{g:Sv}(D:Df K x st)(gl: ∀ c v,PySem.W.nsIn K mainGlobals c=some (some v)->mg c=some v)
  (hb: ∀ (cdv:Value) (A:Around) (outer:List Env) (s:Shared) (H:Hp) (E:XK) (f:Addr),N.Nodup->Room k (A.deeper (envOfC x (Zy st) s.heap.objs.size f cdv))->Thr (Zg8 (CXE P w) P w K mg base N x (Zy st) f cdv A outer s H E) E->DSs (Zg8 (CXE P w) P w K mg base N x (Zy st) f cdv A outer s H E) E (ZaF st) g)
  (h1:(Zy st).kind= .function:=by rfl) (h2:(Zy st).isCoroutine=false:=by rfl) (h3:(Zy st).isGenerator=false:=by rfl) (h4:N.Nodup:=by decide +kernel) (h5:(N.take n).length=n:=by rfl)
  (h6: ∀ y∈N.take n,(Zy st).names.lookup y=some .local\/(Zy st).names.lookup y=some .cell:=by decide +kernel) (h7: ∀ y∈(Zy st).names,y.2≠ .free:=by decide +kernel) (hm:m=N.length - n:=by rfl)
  (bi: ∀ (kV doc pm:Value) (an:Option Addr) (cdv ct:Value) (us:List Value),us.length=n->bindArgs (PySem.W.fnOf x x (Zbg st) (ZaF st) (Zy st) .none kV doc pm an cdv ct) ⟨us,[]⟩=pure ((N.take n).zip us):=by first | exact fun _ _ _ _ _ _=>Zti fun _=>rfl | exact fun _ _ _ _ _ _=>Ztj fun _ _=>rfl | exact fun _ _ _ _ _ _=>ZrW fun _ _ _=>rfl | exact fun _ _ _ _ _ _=>Ztk fun _ _ _ _=>rfl | exact fun _ _ _ _ _ _=>Ztl fun _ _ _ _ _=>rfl | exact fun _ _ _ _ _ _=>Ztm fun _ _ _ _ _ _=>rfl | exact fun _ _ _ _ _ _=>Zth rfl):Cal P w K mg base x (k + 1) n (fnF g n m):=by
 obtain ⟨f,fd,a,F⟩:=D
 have S:FnScope N (N.take n) (Zy st):=⟨h1,h2,h3,h4,by rw[h5],h6,h7⟩
 exact ⟨f,fd,N.take n,Znq F S h5.symm hm (fun cdv A outer s H E hr θ=>hb cdv A outer s H E f h4 hr θ),gl _ _ a,F.kp,h5,F.binds (fun kV doc pm an cdv ct us hu=>bi kV doc pm an cdv ct us (hu.trans h5))⟩
theorem Zi {X:Cx}{ξ:XK}{j k n:Nat}{F:List D->Sto->Out D}{x:Str}{p pos:Pos}{e:Expr}{es:List Expr}{fs:Av}(C:Cal X.prog X.w X.K X.mg X.base x k n F)(T:Thr X ξ)(hr:Room j X.A)(ha:DA X ξ (e :: es) fs)(hj:k<=j:=by decide)(hg:Gl X x:=by rfl)
  (hdb:(x == ("__debug__":Str))=false:=by decide) (he:starEach (e :: es) X.env=(false,eval e X.env) :: starEach es X.env:=by rfl) (hpl:(backTo pos (starEach es X.env)).any (·.1)=false:=by rfl):DE X ξ (.Call (.Name x p) (e :: es) [] pos) (Zl F fs):=Zjn C T (hr.mono hj) ha hg hdb he hpl
theorem Znt {l:PySem.W.OpenLaw}{h:Heap}{fa:Addr}{st:Stmt}{k:Nat}{y:Str}{F:List D->Sto->Out D}(X:K.In h)(G:h.Ns mainGlobals mg)(hfa:mg "law"=some (.ref fa))(D:Df K "law" st)(b: ∀ (kV doc pm:Value) (an:Option Addr) (cdv ct:Value) (v:Value),bindArgs (PySem.W.fnOf "law" "law" (Zbg st) (ZaF st) (Zy st) .none kV doc pm an cdv ct) ⟨[v],[]⟩=pure [(y,v)])
  (q: ∀ base fd,Fun K "law" "law" st fa fd->FnOk l.prog w K mg base (CXE l.prog w) k fa fd [y] (spD K F)): ∃ fd:FuncData,(∀ (s:Shared) (v:Value),BindsTo s fd ⟨[v],[]⟩ [(y,v)])/\ ∀ base:Heap,K.In base->base.Ns mainGlobals mg->FnOk l.prog w K mg base (CXE l.prog w) k fa fd [y] (spD K F):=by
 obtain ⟨f,fd,a,F⟩:=D
 have e:=hfa.symm.trans (PySem.W.mg_of X G a)
 cases e
 refine ⟨fd,?_,fun base _ _=>q base fd F⟩
 obtain ⟨oc,od,kV,doc,pm,an,cdv,ct,osl,rfl,lk,hcd⟩:=F.ex
 exact fun s v=> .of_eq (b kV doc pm an cdv ct v)
end
end DL
end
section
namespace DL
open PySem PySem.Spec PyProof.Rows L2
inductive Src where
 |pur (ds:List D)
 |sto (n:Nat)
 |zip (n m:Nat)
 |enu (n:Nat)
 |rev (n l:Nat)
 |zips (ns:List Nat)
 |dct (n:Nat)
noncomputable def ZhB (M:Sto)(i:Nat):List Nat->Option (Option (List D))
 | []=>some (some [])
 |n :: ns=>match M[n]? with
  |none=>none
  |some (.lst xs)=>match ZhB M i ns with
   |none=>none
   |some r=>match xs[i]?,r with | some x,some ds=>some (some (x :: ds)) | _,_=>some none
noncomputable def nxt (src:Src)(i:Nat)(M:Sto):Option (Option D):=match src with
 | .pur ds=>some ds[i]?
 | .sto n=>match M[n]? with | some (.lst xs)=>some xs[i]? | none=>none
 | .zip n m=>match M[n]?,M[m]? with
  |some (.lst xs),some (.lst ys)=>(match xs[i]?,ys[i]? with | some x,some y=>some (some (.tup [x,y])) | _,_=>some none)
  |_,_=>none
 | .enu n=>match M[n]? with | some (.lst xs)=>(match xs[i]? with | some x=>some (some (.tup [.int i,x])) | none=>some none) | none=>none
 | .dct n=>match M[n]? with | some (.lst (.non :: r))=>(match r[i]? with | some (.tup (k :: _))=>some (some k) | some _=>none | none=>some none) | _=>none
 | .zips ns=>match ZhB M i ns with | some (some ds)=>some (some (.tup ds)) | some none=>some none | none=>none
 | .rev n l=>match M[n]? with | some (.lst xs)=>if i < l then (match xs[l - 1 - i]? with | some x=>some (some x) | none=>none) else (if i=l then some none else none) | none=>none
noncomputable def cnt (src:Src)(M:Sto):Nat:=match src with
 | .pur ds=>ds.length
 | .sto n=>match M[n]? with | some (.lst xs)=>xs.length | none=>0
 | .zip n _=>match M[n]? with | some (.lst xs)=>xs.length | none=>0
 | .enu n=>match M[n]? with | some (.lst xs)=>xs.length | none=>0
 | .rev _ l=>l
 | .dct n=>match M[n]? with | some (.lst xs)=>xs.length | none=>0
 | .zips ns=>match ns with | n :: _=>(match M[n]? with | some (.lst xs)=>xs.length | none=>0) | []=>0
noncomputable def Ats (H:Hp)(α:List Addr):List Nat->List Addr->Prop
 | [],[]=>True
 |n :: ns,l :: ls=>RefK H α 0 n l/\Ats H α ns ls
 |_,_=>False
noncomputable def Zml (K:PySem.W.Frag)(H:Hp)(α:List Addr)(J:It)(src:Src):Prop:= ∀ (i:Nat) H' α' M',Ext K H H' α α'->HR K H' α' M'->match nxt src i M' with
 |some none=>J.stop i H'
 |some (some d)=>J.go i H'/\ ∀ x H'',J.yld i H' x H''->Ext K H' H'' α' α'/\HR K H'' α' M'/\Rep K H'' α' x d
 |none=>True
noncomputable def DI (X:Cx)(ξ:XK)(tg iter:Expr)(f:Ro->Sto->Out Src):Prop:= ∃ wi:TI,PI X tg iter wi/\ ∀ σ ρ H α M R,SR X.K H α σ ρ->HR X.K H α M->OG X.K (Zml X.K) H α ξ R (f ρ M)->wi σ H R
section
variable {X:Cx}{ξ:XK}{tg iter a b:Expr}{fs:Av}{f:Ev}{p pos:Pos}
noncomputable def iR1 (fs:Av):Ro->Sto->Out Src:=fun ρ M=>(fs ρ M).bind fun ds M1=>match ds with
 | [.int j]=>if -(2 ^ 62)<=j/\j < 2 ^ 62 then .ok (.pur (Zbq 0 j.toNat)) M1 else .bad
 |_=> .bad
theorem Zgp {K:PySem.W.Frag}{H:Hp}{α:List Addr}{lo:Int}{n:Nat}:Zml K H α (Itr lo n) (.pur (Zbq lo n)):=by
 intro i H' α' M' ex hr;show match some (Zbq lo n)[i]? with | some none=>_ | some (some d)=>_ | none=>True
 by_cases h:i < n
 ·rw[ZfF h]
  refine ⟨h,fun x H'' y=> ?_⟩
  obtain ⟨e1,e2⟩:=y
  subst e1 e2;exact ⟨Ext.refl,hr,.int _⟩
 ·rw[List.getElem?_eq_none (by rw[ZdD];omega)]
  exact Nat.le_of_not_lt h
theorem Zen (hm:X.mg "range"=none)(ha:DA X ξ [a] fs)(hgl:Gl X "range":=by rfl)(hs:starEach [a] X.env=[(false,eval a X.env)]:=by rfl):DI X ξ tg (.Call (.Name "range" p) [a] [] pos) (iR1 fs):=by
 obtain ⟨ta,pa,qa⟩:=ha
 refine ⟨_,Zd7 hgl hm pa hs,fun σ ρ H α M R s hh q=>qa σ ρ H α M _ s hh (OG.seq q fun ds M1 vs H1 α1 e1 h1 r1 w1=> ?_)⟩
 match r1 with
 | .nil=>exact w1.elim
 | .cons r (.cons _ _)=>cases r<;>exact w1.elim
 | .cons r .nil=>
  cases r with
  |int j=>
   by_cases c: -(2 ^ 62)<=j/\j < 2 ^ 62
   ·simp only[if_pos c] at w1
    exact ⟨j,rfl,c.1,c.2,w1 _ H1 α1 Ext.refl h1 Zgp⟩
   ·simp only[if_neg c] at w1
    exact w1.elim
  |_=>exact w1.elim
noncomputable def iSq (f:Ev):Ro->Sto->Out Src:=fun ρ M=>(f ρ M).bind fun d M1=>match d with
 | .tup ds=> .ok (.pur ds) M1
 | .rol ds=> .ok (.pur ds) M1
 | .con ds=> .ok (.pur ds) M1
 | .ref n=> .ok (.sto n) M1
 |_=> .bad
theorem ZaM (ha:DE X ξ a f):DI X ξ tg a (iSq f):=by
 obtain ⟨ta,pa,qa⟩:=ha
 refine ⟨_,Zkj pa,fun σ ρ H α M R s hh q=>qa σ ρ H α M _ s hh (OG.seq q fun d M1 v H1 α1 e1 h1 r1 w1=> ?_)⟩
 cases r1 with
 | @tup p xs ds hp rp=>
  refine ⟨p,rfl,.inr ⟨⟨xs,(SqT.of hp)⟩,w1 (Itt X.K p) H1 α1 Ext.refl h1 ?_⟩⟩
  intro i H' α' M' ex hr;show match some ds[i]? with | some none=>_ | some (some d)=>_ | none=>True
  cases ei:ds[i]? with
  |none=>exact ⟨xs,SqT.of (ex.tup _ _ hp),by rw[rp.length];exact List.getElem?_eq_none_iff.mp ei⟩
  |some d=>
   obtain ⟨v,k1,k2⟩:=rp.get ei
   refine ⟨⟨xs,v,SqT.of (ex.tup _ _ hp),k1⟩,fun x H'' y=> ?_⟩
   obtain ⟨ey,y⟩:=y
   have z:=y xs (SqT.of (ex.tup _ _ hp))
   rw[k1] at z;cases z
   subst ey;exact ⟨Ext.refl,hr,Rep.mono ex k2⟩
 | @con p xs ds hp rp=>
  refine ⟨p,rfl,.inr ⟨⟨xs,hp.sq⟩,w1 (Itt X.K p) H1 α1 Ext.refl h1 ?_⟩⟩
  intro i H' α' M' ex hr;show match some ds[i]? with | some none=>_ | some (some d)=>_ | none=>True
  cases ei:ds[i]? with
  |none=>exact ⟨xs,hp.sq,by rw[rp.length];exact List.getElem?_eq_none_iff.mp ei⟩
  |some d=>
   obtain ⟨v,k1,k2⟩:=rp.get ei
   refine ⟨⟨xs,v,hp.sq,k1⟩,fun x H'' y=> ?_⟩
   obtain ⟨ey,y⟩:=y
   have z:=y xs hp.sq
   rw[k1] at z;cases z
   subst ey;exact ⟨Ext.refl,hr,Rep.mono ex k2⟩
 | @rol p xs ds hp rp=>
  refine ⟨p,rfl,.inl ⟨⟨xs,hp.sq⟩,w1 (Itl X.K p) H1 α1 Ext.refl h1 ?_⟩⟩
  intro i H' α' M' ex hr;show match some ds[i]? with | some none=>_ | some (some d)=>_ | none=>True
  have hq:=(ex.rol _ _ hp).sq
  cases ei:ds[i]? with
  |none=>exact ⟨xs,hq,by rw[rp.length];exact List.getElem?_eq_none_iff.mp ei⟩
  |some d=>
   obtain ⟨v,k1,k2⟩:=rp.get ei
   refine ⟨⟨xs,v,hq,k1⟩,fun x H'' y=> ?_⟩
   obtain ⟨ey,y⟩:=y
   have z:=y xs hq
   rw[k1] at z;cases z
   subst ey;exact ⟨Ext.refl,hr,Rep.mono ex k2⟩
 | @ref p n hp=>
  obtain ⟨xs0,g0⟩:=h1.some_at hp
  refine ⟨p,rfl,.inl ⟨⟨xs0,SqL.of g0⟩,w1 (Itl X.K p) H1 α1 Ext.refl h1 ?_⟩⟩
  intro i H' α' M' ex hr;show match (match M'[n]? with | some (.lst xs)=>some xs[i]? | none=>none) with | some none=>_ | some (some d)=>_ | none=>True
  cases em:M'[n]? with
  |none=>exact True.intro
  |some so=>
   cases so with
   |lst ds=>
    obtain ⟨xs,g1,g2⟩:=hr.at (ex.get hp) em
    show match some ds[i]? with | some none=>_ | some (some d)=>_ | none=>True
    cases ei:ds[i]? with
    |none=>exact ⟨xs,SqL.of g1,by rw[g2.length];exact List.getElem?_eq_none_iff.mp ei⟩
    |some d=>
     obtain ⟨v,k1,k2⟩:=g2.get ei
     refine ⟨⟨xs,v,SqL.of g1,k1⟩,fun x H'' y=> ?_⟩
     obtain ⟨ey,y⟩:=y
     have z:=y xs (SqL.of g1)
     rw[k1] at z;cases z
     subst ey;exact ⟨Ext.refl,hr,k2⟩
 |_=>exact w1.elim
end
noncomputable def blk (X:Cx)(scope:Scope)(cl:List (Str × Addr))(N:List Str)(C:Addr)(fp:List Addr)(s:Shared)(H:Hp):Cx:=
 { X with N:=N,s₀:=s,H₀:=H,env:=compEnvC scope cl C X.env,outer:=X.stack,stack:=X.stack,ex:=fp,fn:=fun _=>false,pn:=[],xe:=fun _ _=>False,fxs:=none }
theorem Z5 {X:Cx}{scope:Scope}{cl:List (Str × Addr)}{N:List Str}{C:Addr}{fp:List Addr}{s:Shared}{H:Hp}:Thr (blk X scope cl N C fp s H) E0:=
 ⟨PassesOwn.never,fun _ _ _ _ _ _ _ ⟨_,_,_,_,_,_,_,_,_,_,_,_,_,q⟩=>q,fun _ _ _ _ _ _ _ _ _ _ _ _ _ _ _ _ _ _ _ _ _ _ q=>q⟩
noncomputable def Zcp (src:Src)(tg:Tg)(c:Tv)(f:Ev)(n:Nat):Nat->Nat->Ro->Sto->Out Unit
 |fuel,i,ρ,M=>match nxt src i M with
  |none=> .bad
  |some none=> .ok () M
  |some (some d)=>(match fuel with
   |0=> .bad
   |fuel + 1=>(match tg d ρ with
    |none=> .bad
    |some ρ1=>(match c ρ1 M with
     | .ok true M1=>(match f ρ1 M1 with
      | .ok x M2=>(match M2[n]? with
       |some (.lst xs)=>if xs.length < 10000000 then Zcp src tg c f n fuel (i + 1) ρ1 (M2.set n (.lst (xs ++ [x]))) else .bad
       |none=> .bad)
      |_=> .bad)
     | .ok false M1=>Zcp src tg c f n fuel (i + 1) ρ1 M1
     |_=> .bad)))
noncomputable def roB (k:Nat)(fr:List Nat)(ρ:Ro):Ro:=List.replicate k none ++ fr.map fun i=>(ρ[i]?).join
noncomputable def ZaQ (fi:Ro->Sto->Out Src)(k:Nat)(fr:List Nat)(tg:Tg)(c:Tv)(f:Ev):Ev:=fun ρ M=>(fi ρ M).bind fun src M1=>match Zcp src tg c f M1.length (cnt src M1) 0 (roB k fr ρ) (M1 ++ [.lst []]) with
 | .ok _ M2=> .ok (.ref M1.length) M2
 |_=> .bad
structure Blk (X:Cx) (scope:Scope) (cl:List (Str × Addr)) (N:List Str) (k:Nat) (fr:List Nat):Prop where
 clos:closureFor scope X.env=pure cl
 kind:scope.kind= .function
 cell: ∀ y∈scope.names,y.2≠ .cell
 names: ∀ y∈scope.names,y.2= .local->scope.names.lookup y.1=some .local
 sub: ∀ x c,cl.lookup x=some c->X.env.cells.lookup x=some c
 has: ∀ x,((relabel scope X.env).names.lookup x=some .cell\/(relabel scope X.env).names.lookup x=some .free)-> ∃ c,cl.lookup x=some c
 len:N.length=k + fr.length
 at_: ∀ (j i:Nat),fr[j]?=some i-> ∃ x,N[k + j]?=some x/\X.N[i]?=some x/\X.env.kindOf x=some .cell/\((relabel scope X.env).names.lookup x=some .cell\/(relabel scope X.env).names.lookup x=some .free)/\cl.lookup x=X.env.cells.lookup x
theorem Zeo {prog:Program}{w:World}{A:Around}{R:Result->Shared->Prop}{s:Shared}{elt target iter:Expr}{ifs:List Expr}{scope:Scope}{pos:Pos}{it acc:Value}{env:Env}(I:Nat->Shared->Prop)
  (turn: ∀ n s,I n s->wpAny (model prog w) A (pyNext it) (fun r s₁=>match r with
   |none=>R (.ok .next) s₁
   |some v=>wpAny (model prog w) A (letOwnedTupleGo target it v) (fun _ s₁=>wpAny (model prog w) A (assign target env v) (fun _ s₂=>
     wpAny (model prog w) A (forIn ifs true fun c r=>if r=true then do let ok <- isTrue c env (eval c env);pure (ForInStep.yield ok) else pure (ForInStep.yield r)) (fun ok s₃=>
      if ok=true then wpAny (model prog w) A (eval elt env) (fun x s₄=>
       wpAny (model prog w) A (call (.builtin "list.append") [acc,x]) (fun _ s₅=> ∃ m,m < n/\I m s₅) (fun _ _=>False) s₄) (fun _ _=>False) s₃
      else ∃ m,m < n/\I m s₃) (fun _ _=>False) s₂) (fun _ _=>False) s₁) (fun _ _=>False) s₁) (fun _ _=>False) s)
  (n:Nat) (h:I n s):
  codeAny (model prog w) A (.compLoop (.ListComp elt [⟨target,iter,ifs,0⟩] scope pos) 0 it acc env) R s:=by
 refine codeAny_loop rfl I (fun n s hI=> ?_) n h
 show wpAny _ A ((compTurn (.ListComp elt [⟨target,iter,ifs,0⟩] scope pos) 0 it acc env).onRaise (fun x=>do noteFrame x env;theTreesLotGoes x)) _ _ s
 refine wpAny_noted ?_
 rw[compTurn_list];refine wpAny_bind (wpAny_standAt (wpAny_bind (wpAny_mono (turn n s hI) (fun r s₁ h₁=> ?_) fun _ _ h'=>h'.elim)))
 cases r with
 |none=>exact wpAny_pure h₁
 |some v=>
  refine wpAny_bind (wpAny_mono h₁ (fun _ s₁ h₁=> ?_) fun _ _ h'=>h'.elim)
  refine wpAny_bind (wpAny_mono h₁ (fun _ s₂ h₂=>wpAny_bind (wpAny_mono h₂ (fun ok s₃ h₃=> ?_) fun _ _ h'=>h'.elim)) fun _ _ h'=>h'.elim)
  cases ok with
  |false=>exact wpAny_pure ⟨rfl,h₃⟩
  |true=>
   exact wpAny_bind (wpAny_bind (wpAny_mono h₃ (fun x s₄ h₄=>wpAny_bind (wpAny_mono h₄ (fun _ s₅ h₅=>wpAny_pure (wpAny_pure ⟨rfl,h₅⟩)) fun _ _ h'=>h'.elim)) fun _ _ h'=>h'.elim))
noncomputable def DC (X:Cx)(ifs:List Expr)(c:Tv):Prop:=(ifs=[]/\c=fun _ M=> .ok true M)\/ ∃ e,ifs=[e]/\DT X E0 e c
section
variable {X:Cx}{ξ:XK}{tg iter elt:Expr}{ifs:List Expr}{scope:Scope}{cl:List (Str × Addr)}{N:List Str}{k:Nat}{fr:List Nat}{fi:Ro->Sto->Out Src}{gt:Tg}{c:Tv}{f:Ev}{pos:Pos}
theorem ZhC (B:Blk X scope cl N k fr){pins:List (Addr × Obj)}{σ:L2.St}{H:Hp}{s:Shared}{fp:List Addr}(I:Inv X pins σ H s)(hf: ∀ b∈fp,Zd6 X pins H b)(hlt: ∀ b∈fp,b < s.heap.objs.size):(blk X scope cl N s.heap.objs.size fp s H).Ok where
 mod:=I.ok.mod
 kind:=B.kind
 glob:=I.ok.glob
 blt:=I.ok.blt
 above:=Nat.le_refl _
 inj:=fun x y c h1 h2=>I.ok.inj x y c (B.sub x c h1) (B.sub y c h2)
 has:=fun x h=>B.has x h
 cab:=fun x c h=>(by cases h)
 hd:=I.ok.hd
 frames:=I.ok.frames
 stk:= .inl rfl
 exf:=fun b hb=>⟨Nat.ne_of_lt (hlt b hb),fun x c h=>(hf b hb).2.2.2.2.1 x c (B.sub x c h)⟩
 bs:=I.bs
 bsz:=Nat.le_trans I.ok.bsz I.sz
 noex:=fun b o e hb=>by
  rcases (hf b hb).2.2.2.1 with z | z
  ·exact I.ok.noex b o e z
  ·exact absurd (Nat.lt_of_lt_of_le (Heap.lt_size (I.ok.bs b o e).1) z) (Nat.lt_irrefl _)
 exfs:=fun b hb z=>by
  rcases List.mem_cons.mp (I.stkSub b z) with e | e
  ·exact (hf b hb).2.1 e
  ·exact (hf b hb).2.2.1 e
 funs:=I.stack
 frf:=I.stkFree
theorem join_some {α:Type}{o:Option (Option α)}{v:α}(h:o.join=some v):o=some (some v):=by
 cases o with
 |none=>cases h
 |some x=>cases x with
  |none=>cases h
  |some y=>cases h;rfl
theorem Zli {ρ:Ro}{i:Nat}{d:D}(h:(roB k fr ρ)[i]?=some (some d)): ∃ j r,i=k + j/\fr[j]?=some r/\ρ[r]?=some (some d):=by
 unfold roB at h
 by_cases hi:i < k
 ·rw[List.getElem?_append_left (by rw[List.length_replicate];exact hi)] at h
  have:=List.mem_of_getElem? h
  rw[List.mem_replicate] at this;cases this.2
 ·rw[List.getElem?_append_right (by rw[List.length_replicate];omega),List.length_replicate,List.getElem?_map] at h
  cases e:fr[i - k]? with
  |none=>rw[e] at h;cases h
  |some r=>
   rw[e] at h;exact ⟨i - k,r,by omega,e,join_some (Option.some.inj h)⟩
noncomputable def stB (k:Nat)(fr:List Nat)(σ:L2.St):L2.St:=List.replicate k none ++ fr.map fun i=>(σ[i]?).join
theorem Zlj {σ:L2.St}{i:Nat}{d:V}(h:(stB k fr σ)[i]?=some (some d)): ∃ j r,i=k + j/\fr[j]?=some r/\σ[r]?=some (some d):=by
 unfold stB at h
 by_cases hi:i < k
 ·rw[List.getElem?_append_left (by rw[List.length_replicate];exact hi)] at h
  have:=List.mem_of_getElem? h
  rw[List.mem_replicate] at this;cases this.2
 ·rw[List.getElem?_append_right (by rw[List.length_replicate];omega),List.length_replicate,List.getElem?_map] at h
  cases e:fr[i - k]? with
  |none=>rw[e] at h;cases h
  |some r=>
   rw[e] at h;exact ⟨i - k,r,by omega,e,join_some (Option.some.inj h)⟩
theorem SR.blk {K:PySem.W.Frag}{H:Hp}{α:List Addr}{σ:L2.St}{ρ:Ro}(h:SR K H α σ ρ):SR K H α (stB k fr σ) (roB k fr ρ):=by
 refine ⟨by simp[stB,roB],fun i d e=> ?_⟩
 obtain ⟨j,r,rfl,e1,e2⟩:=Zli e
 obtain ⟨v,e3,e4⟩:=h.2 r d e2
 refine ⟨v,?_,e4⟩
 unfold stB;rw[List.getElem?_append_right (by rw[List.length_replicate];omega),List.length_replicate,List.getElem?_map,Nat.add_sub_cancel_left,e1]
 show some (σ[r]?).join=_
 rw[e3];rfl
theorem ZhD (B:Blk X scope cl N k fr){pins:List (Addr × Obj)}{σ:L2.St}{H:Hp}{s:Shared}{fp:List Addr}{h1:Heap}{tk:Nat}{m:Str->Option Value}(I:Inv X pins σ H s)(hf: ∀ b∈fp,Zd6 X pins H b)(hlt: ∀ b∈fp,b < s.heap.objs.size)
  (hn:h1.Ns s.heap.objs.size m) (hk: ∀ b o,s.heap.get? b=some o->h1.get? b=some o):Inv (blk X scope cl N s.heap.objs.size fp s H) [] (stB k fr σ) H { s with heap:=h1,toks:=tk } where
 ok:=ZhC B I hf hlt
 os:=rfl
 bare:=I.bare
 base:=Un.kept hk
 loc:=by
  refine ⟨m,hn,fun i x v e1 e2 e3=> ?_⟩
  obtain ⟨j,r,rfl,g1,g2⟩:=Zlj e2
  obtain ⟨y,k1,k2,k3,k4,k5⟩:=B.at_ j r g1
  have exy:x=y:=Option.some.inj (e1.symm.trans k1)
  subst exy;obtain ⟨m0,hm0,hl⟩:=I.loc
  obtain ⟨u,ru,lk⟩:=hl r x v k2 g2 (.inr (.inl k3))
  refine ⟨u,ru,?_⟩
  rcases lk with ⟨z,_⟩ | ⟨_,c,z1,⟨o,z2,z3⟩⟩
  ·rw[k3] at z;cases z
  ·exact .inr ⟨k4,c,k5.trans z1,⟨o,hk _ _ z2,z3⟩⟩
 cell:=fun x c h=>by
  obtain ⟨v,o,e1,e2⟩:=I.cell x c (B.sub x c h)
  exact ⟨v,o,hk _ _ e1,e2⟩
 free:=I.fresh
 freeC:=fun x c h=>I.freeC x c (B.sub x c h)
 pin:=fun p hp=>(by simp[blk] at hp)
 hok:=I.hok.kept hk
 len:=by
  show (stB k fr σ).length=N.length
  rw[B.len]
  simp[stB]
 qd:=I.qd
 fx:= .free rfl
theorem ZfI {pins:List (Addr × Obj)}{σ σ5:L2.St}{H3 H5:Hp}{s3 s6:Shared}{fp:List Addr}(B:Blk X scope cl N k fr)(I3:Inv X pins σ H3 s3)(f3: ∀ b∈fp,Zd6 X pins H3 b)(I6:Inv (blk X scope cl N s3.heap.objs.size fp s3 H3) [] σ5 H5 s6):Inv X pins σ H5 s6/\ ∀ (σ':L2.St) (s8:Shared) (h':Heap),Inv X pins σ' H5 s8->(∀ b o,b≠s3.heap.objs.size->s8.heap.get? b=some o->h'.get? b=some o)->Inv X pins σ' H5 { s8 with heap:=h',toks:=s8.toks }:=by
 refine ⟨I3.call' (s':=s6) (ch:=fp) I6.os I6.base I6.hok I6.bare fun b hb=> ?_,fun σ' s8 h' I8 sb=> ?_⟩
 ·obtain ⟨_,z1,z2,z3,z4,z5⟩:=f3 b hb
  exact ⟨z3,z1,z4,z5⟩
 ·exact I8.turned (it:=s3.heap.objs.size) sb I6.free (Nat.ne_of_gt I3.lt) (.inr I3.sz)
   (fun x c h z=>by
    obtain ⟨v,o,e,_⟩:=I3.cell x c h
    exact absurd (Heap.lt_size e) (by rw[z];exact Nat.lt_irrefl _)) (fun p hp z=>by
    have:=(I3.pin p hp).1
    exact absurd (Heap.lt_size this) (by rw[z];exact Nat.lt_irrefl _))
noncomputable def CmI (Y:Cx)(fp:List Addr)(tn:Nat->Heap->Prop)(H3:Hp)(α3:List Addr)(g:Nat->Nat->Ro->Sto->Prop)(n:Nat)(s':Shared):Prop:=
 ∃ i σ' ρ' H' α' M',Inv Y [] σ' H' s'/\tn i s'.heap/\(∀ b∈fp,H' b=none)/\SR Y.K H' α' σ' ρ'/\HR Y.K H' α' M'/\Ext Y.K H3 H' α3 α'/\g n i ρ' M'
theorem ZfJ {Y:Cx}{fp α3:List Addr}{it D:Addr}{tn:Nat->Heap->Prop}{J:It}{tg iter elt:Expr}{ifs:List Expr}{scope:Scope}{pos:Pos}{gt:Tg}{c:Tv}{f:Ev}{src:Src}{H3:Hp}{σ0:L2.St}{ρ0:Ro}{M3 M9:Sto}{u9:Unit}{n0 fuel:Nat}{s4:Shared}{R:Result->Shared->Prop}
  (T:Turn Y.prog Y.w Y.K Y.A tg J fp it tn) (hxe: ∀ x y,Y.xe x y->False) (fp5: ∀ {H':Hp},(∀ b∈fp,H' b=none)-> ∀ b∈fp,Zd6 Y [] H' b) (hg:DG Y tg gt) (tst:DC Y ifs c) (he:DE Y E0 elt f)
  (sc:Zml Y.K H3 α3 J src) (aD:RefK H3 α3 0 n0 D) (I4:Inv Y [] σ0 H3 s4) (st4:tn 0 s4.heap) (fr4: ∀ b∈fp,H3 b=none) (sr:SR Y.K H3 α3 σ0 ρ0) (h3:HR Y.K H3 α3 M3) (er:Zcp src gt c f n0 fuel 0 ρ0 M3= .ok u9 M9)
  (post: ∀ σ5 H5 α5 s6,Inv Y [] σ5 H5 s6->Ext Y.K H3 H5 α3 α5->HR Y.K H5 α5 M9->R (.ok .next) s6):
  codeAny (model Y.prog Y.w) Y.A (.compLoop (.ListComp elt [⟨tg,iter,ifs,0⟩] scope pos) 0 (.ref it) (.ref D) Y.env) R s4:=by
 obtain ⟨tt,pt,qt⟩:=hg
 obtain ⟨te,pe,qe⟩:=he
 refine Zeo (CmI Y fp tn H3 α3 fun n i ρ' M'=>Zcp src gt c f n0 n i ρ' M'= .ok u9 M9) ?_ fuel ⟨0,σ0,ρ0,H3,α3,M3,I4,st4,fr4,sr,h3,Ext.refl,er⟩
 rintro n s5 ⟨i,σ5,ρ5,H5,α5,M5,I5,st5,fr5,sr5,hr5,ex5,en⟩
 have src5:=sc i H5 α5 M5 ex5 hr5
 rw[Zcp] at en;cases ex:nxt src i M5 with
 |none=>rw[ex] at en;cases en
 |some od=>
  rw[ex] at src5 en;cases od with
  |none=>
   cases en
   have fin:=T.done Y rfl rfl rfl rfl i [] s5 σ5 H5 (fun _ _=>False) I5 (fp5 fr5) st5 src5
   refine thn fin fun r s6 w6=> ?_
   obtain ⟨hr6,I6⟩:=w6
   subst hr6;exact post σ5 H5 α5 s6 I6 ex5 hr5
  |some d=>
   obtain ⟨go,yl⟩:=src5
   cases n with
   |zero=>cases en
   |succ n=>
    simp only at en
    have itm:=T.item Y rfl rfl rfl rfl i [] s5 σ5 H5 (fun _ _=>False) I5 (fp5 fr5) st5 go
    refine thn itm fun r s6 ⟨u,hr6,w6⟩=> ?_
    subst hr6;refine thn w6 fun _ s7 ⟨x,H7,I7,r7,y7,st7,fr7⟩=> ?_
    obtain ⟨ex7,hr7,rp7⟩:=yl x H7 y7
    have sr5:=sr5.mono ex7
    have hr5:=hr7
    have ex5:=ex5.trans ex7
    have I7':=I7.pinned (fp5 fr7) (T.obj _ _ st7)
    cases eg:gt d ρ5 with
    |none=>rw[eg] at en;cases en
    |some ρ6=>
     rw[eg] at en
     simp only at en
     have asg:=pt _ s7 σ5 H7 x u _ I7' r7 (qt x d σ5 ρ5 H7 α5 ρ6 (fun σ' H'=>H'=H7/\SR Y.K H7 α5 σ' ρ6) sr5 rp7 eg fun σ' s'=>⟨rfl,s'⟩)
     refine wpAny_mono asg (fun _ s8 ⟨σ8,H8,I8,z8,sr8⟩=> ?_) (fun x y z=>hxe x y z)
     subst z8;have again: ∀ {σ9:L2.St} {H9:Hp} {s9:Shared},Inv Y ([] ++ Zdj fp s7.heap) σ9 H9 s9->Inv Y [] σ9 H9 s9/\tn (i + 1) s9.heap/\ ∀ b∈fp,H9 b=none:=fun {σ9 H9 s9} I9=>by
      refine ⟨I9.unpinned,T.keep _ _ _ st7 fun b hb o e=>(I9.pin (b,o) (List.mem_append_right _ (List.mem_append_right _ (ZbD hb e)))).1,fun b hb=> ?_⟩
      obtain ⟨o,e,_⟩:=T.obj _ _ st7 b hb
      exact (I9.pin (b,o) (List.mem_append_right _ (List.mem_append_right _ (ZbD hb e)))).2.1
     have after: ∀ (kk:Bool) (M8:Sto) (H9:Hp) (α9:List Addr) (s9:Shared),Inv Y ([] ++ Zdj fp s7.heap) σ8 H9 s9->Ext Y.K H8 H9 α5 α9->HR Y.K H9 α9 M8->c ρ6 M5= .ok kk M8->
       (if kk=true then wpAny (model Y.prog Y.w) Y.A (eval elt Y.env) (fun x s₄=>wpAny (model Y.prog Y.w) Y.A (call (.builtin "list.append") [.ref D,x]) (fun _ s₅=> ∃ m,m < n + 1/\CmI Y fp tn H3 α3 (fun n i ρ' M'=>Zcp src gt c f n0 n i ρ' M'= .ok u9 M9) m s₅) (fun _ _=>False) s₄) (fun _ _=>False) s9
        else ∃ m,m < n + 1/\CmI Y fp tn H3 α3 (fun n i ρ' M'=>Zcp src gt c f n0 n i ρ' M'= .ok u9 M9) m s9):=by
      intro kk M8 H9 α9 s9 I9 ex9 hr9 ec;rw[ec] at en;cases kk with
      |false=>
       obtain ⟨a1,a2,a3⟩:=again I9
       exact Zj8 ⟨n,Nat.lt_succ_self n,i + 1,σ8,ρ6,H9,α9,M8,a1,a2,a3,sr8.mono ex9,hr9,ex5.trans ex9,en⟩
      |true=>
       simp only at en
       refine Zj9 ?_
       cases ef:f ρ6 M8 with
       |exc x9 M10=>rw[ef] at en;cases en
       |bad=>rw[ef] at en;cases en
       |ok y M10=>
        rw[ef] at en
        simp only at en
        have ev:=pe _ s9 σ8 H9 (fun v H'=> ∃ α',Ext Y.K H9 H' α9 α'/\HR Y.K H' α' M10/\Rep Y.K H' α' v y) I9 (qe σ8 ρ6 H9 α9 M8 _ (sr8.mono ex9) hr9 (by
         rw[ef];exact fun v H' α' e h r=>⟨α',e,h,r⟩))
        refine wpAny_mono ev (fun yv s10 ⟨v,H10,I10,r10,α10,ex10,hr10,rp10⟩=> ?_) (fun x y z=>hxe x y z)
        cases em:M10[n0]? with
        |none=>rw[em] at en;cases en
        |some so=>
         cases so with
         |lst ds=>
          rw[em] at en
          simp only at en
          by_cases cz:ds.length < 10000000
          ·rw[if_pos cz] at en
           have aD10:=ex10.get (ex9.get (ex5.get aD))
           obtain ⟨xs,g1,g2⟩:=hr10.at aD10 em
           have ap:=Zef (X:=Y) _ s10 σ8 H10 (.ref D) [v] (.ref D) [yv] (fun _ H'=>H'=upd H10 D (.lst (xs ++ [v]))) I10 rfl (.cons r10 .nil) ⟨D,xs,v,rfl,rfl,g1,by rw[g2.length];exact Nat.lt_of_lt_of_le cz (by decide),rfl⟩
           refine wpAny_mono ap (fun _ s11 ⟨v11,H11,I11,_,z11⟩=> ?_) (fun x y z=>hxe x y z)
           subst z11;obtain ⟨a1,a2,a3⟩:=again I11
           have exw:Ext Y.K H10 (upd H10 D (.lst (xs ++ [v]))) α10 α10:=Ext.wr g1
           exact ⟨n,Nat.lt_succ_self n,i + 1,σ8,ρ6,_,α10,_,a1,a2,a3,((sr8.mono ex9).mono ex10).mono exw,hr10.wr aD10 g1 (g2.append (.cons rp10 .nil)),((ex5.trans ex9).trans ex10).trans exw,en⟩
          ·rw[if_neg cz] at en
           cases en
     rcases tst with ⟨rfl,ec⟩ | ⟨e,rfl,tt',ptt,qtt⟩
     ·refine wpAny_tests_nil ?_
      exact after true M5 H8 α5 s8 I8 Ext.refl hr5 (by rw[ec])
     ·refine wpAny_tests_one ?_
      cases ec:c ρ6 M5 with
      |exc x9 M10=>rw[ec] at en;cases en
      |bad=>rw[ec] at en;cases en
      |ok kk M8=>
       have tv':=ptt _ s8 σ8 H8 (fun b H'=>b=kk/\ ∃ α',Ext Y.K H8 H' α5 α'/\HR Y.K H' α' M8) I8 (qtt σ8 ρ6 H8 α5 M5 _ sr8 hr5 (by
        rw[ec];exact fun v H' α' e h r=>⟨r,α',e,h⟩))
       refine wpAny_mono tv' (fun b s9 ⟨H9,I9,zb,α9,ex9,hr9⟩=> ?_) (fun x y z=>hxe x y z)
       subst zb;exact after b M8 H9 α9 s9 I9 ex9 hr9 ec
theorem ZY (B:Blk X scope cl N k fr)(hi:DI X ξ tg iter fi)(hg: ∀ C fp s H,DG (blk X scope cl N C fp s H) tg gt)(ht: ∀ C fp s H,DC (blk X scope cl N C fp s H) ifs c)(he: ∀ C fp s H,DE (blk X scope cl N C fp s H) E0 elt f)
  (hs: ∀ x,foldedSetIterable iter X.env x=pure x:=by intro _;rfl):DE X ξ (.ListComp elt [⟨tg,iter,ifs,0⟩] scope pos) (ZaQ fi k fr gt c f):=by
 obtain ⟨wi,pi,qi⟩:=hi
 refine ⟨fun σ H Q=> ∃ ρ α M,SR X.K H α σ ρ/\HR X.K H α M/\OP X.K H α ξ Q (ZaQ fi k fr gt c f ρ M),?_,fun σ ρ H α M Q s h q=>⟨ρ,α,M,s,h,q⟩⟩
 rintro pins s σ H Q I ⟨ρ,α,M,sr,hr,op⟩
 rw[eval_ListComp];refine wpAny_comprehension_free (use:=none) rfl hs B.clos B.kind B.names ?_
 refine thn (pi pins s σ H (fun J H2=> ∃ α2 M2 src,Ext X.K H H2 α α2/\HR X.K H2 α2 M2/\Zml X.K H2 α2 J src/\OP X.K H2 α2 ξ Q (match Zcp src gt c f M2.length (cnt src M2) 0 (roB k fr ρ) (M2 ++ [.lst []]) with | .ok _ M2'=> .ok (.ref M2.length) M2' | _=> .bad)) I
  (qi σ ρ H α M _ sr hr (OG.seq op fun src M1 J H1 α1 e1 h1 r1 q1=>⟨α1,M1,src,e1,h1,r1,q1⟩))) fun v s1 w1=>thn w1 fun itv s2 w2=> ?_
 obtain ⟨it,fp,tn,J,H2,rfl,I2,T,st2,f2,α2,M2,src,e2,h2,sc,op2⟩:=w2
 have srI:=sr.mono e2
 refine wpAny_newObj_type ?_
 have I3:Inv X pins σ (upd H2 s2.heap.objs.size (.lst [])) { s2 with heap:=s2.heap.push { cls:= .type "list",data:= .seq ([]:List Value).toArray } }:=I2.lnew (its:=[]) (t':=s2.toks) .nil (Nat.zero_le _)
 have fD:H2 s2.heap.objs.size=none:=I2.fresh
 generalize hD:s2.heap.objs.size=D at I3 fD;generalize hs3:({ s2 with heap:=s2.heap.push { cls:= .type "list",data:= .seq ([]:List Value).toArray } }:Shared)=s3 at I3
 generalize hH3:upd H2 D (.lst [])=H3 at I3;have h3:HR X.K H3 (α2 ++ [D]) (M2 ++ [.lst []]):=by rw[<- hH3];exact h2.new fD .nil
 have e3:Ext X.K H2 H3 α2 (α2 ++ [D]):=by rw[<- hH3];exact Ext.new fD
 have aD:RefK H3 (α2 ++ [D]) 0 M2.length D:=⟨h2.last D,by first | exact Kn.lst Zv | (rw[<- hH3];exact Kn.lst Zv)⟩
 have lt2: ∀ b∈fp,b < s2.heap.objs.size:=fun b hb=>let ⟨o,e,_⟩:=T.obj _ _ st2 b hb;Heap.lt_size e
 have keep3: ∀ b o,s2.heap.get? b=some o->s3.heap.get? b=some o:=fun b o e=>by rw[<- hs3];exact Heap.get?_push_of_some _ e
 have f3: ∀ b∈fp,Zd6 X pins H3 b:=fun b hb=>⟨by rw[<- hH3,Zu (by rw[<- hD];exact Nat.ne_of_lt (lt2 b hb))];exact (f2 b hb).1,(f2 b hb).2⟩
 have lt3: ∀ b∈fp,b < s3.heap.objs.size:=fun b hb=>let ⟨o,e,_⟩:=T.obj _ _ st2 b hb;Heap.lt_size (keep3 b o e)
 have st3:tn 0 s3.heap:=T.keep _ _ _ st2 fun b _ o e=>keep3 b o e
 refine wpAny_newFunctionEnv B.cell (by intro y hy;simp at hy) (fun h₁ hns₁ hsb₁=> ?_) B.kind
 have keep4: ∀ b o,s3.heap.get? b=some o->h₁.get? b=some o:=fun b o e=>hsb₁.extBut b o (Nat.ne_of_lt (Heap.lt_size e)) (Heap.get?_push_of_some _ e)
 have I4:=ZhD (tk:=s3.toks + ([]:List (Str × Value)).length) B I3 f3 lt3 hns₁ keep4
 have st4:tn 0 h₁:=T.keep _ _ _ st3 fun b _ o e=>keep4 b o e
 have fp5: ∀ {H':Hp},(∀ b∈fp,H' b=none)-> ∀ b∈fp,Zd6 (blk X scope cl N s3.heap.objs.size fp s3 H3) [] H' b:=fun hn b hb=>⟨hn b hb,Nat.ne_of_lt (lt3 b hb),(ZhC B I3 f3 lt3).exfs b hb,.inl hb,fun x c h=>(f3 b hb).2.2.2.2.1 x c (B.sub x c h),fun p hp=>(by simp[blk] at hp)⟩
 cases er:Zcp src gt c f M2.length (cnt src M2) 0 (roB k fr ρ) (M2 ++ [.lst []]) with
 |exc x M9=>rw[er] at op2;exact op2.elim
 |bad=>rw[er] at op2;exact op2.elim
 |ok u9 M9=>
  rw[er] at op2;have loop:codeAny (model X.prog X.w) X.A (.compLoop (.ListComp elt [⟨tg,iter,ifs,0⟩] scope pos) 0 (.ref it) (.ref D) (compEnvC scope cl s3.heap.objs.size X.env)) (compPost (model X.prog X.w) X.A X.xe none (EP X pins σ Q) (.ref D) s3.heap.objs.size) { s3 with heap:=h₁,toks:=s3.toks + ([]:List (Str × Value)).length }:=by
   refine ZfJ (Y:=blk X scope cl N s3.heap.objs.size fp s3 H3) T (fun _ _ z=>z) fp5 (hg _ fp s3 H3) (ht _ fp s3 H3) (he _ fp s3 H3) (fun i H' α' M' ex hr=>sc i H' α' M' (e3.trans ex) hr) aD I4 st4 (fun b hb=>(f3 b hb).1) ((srI.blk).mono e3) h3 er ?_
   intro σ5 H5 α5 s6 I6 ex5 hr5;obtain ⟨I7,I8⟩:=ZfI B I3 f3 I6
   obtain ⟨m6,hm6,_⟩:=id I6.loc
   exact ⟨m6,hm6,fun h' sb=>⟨.ref D,H5,I8 σ s6 h' I7 (fun b o hb e=>(sb.2 b hb).trans e),rfl,op2 _ H5 α5 (e3.trans ex5) hr5 (.ref (ex5.get aD))⟩⟩
  exact codeAny_compStart_list loop (T.self X.A 0 _ _ _ st4 loop)
end
end DL
end
section
namespace DL
open PySem PySem.Spec PyProof.Rows L2
theorem Znu {names:List (Str × NameKind)}(h:names.all (fun y=>y.2 != .cell && y.2 != .free)=true)(x:Str): ¬ (names.lookup x=some .cell\/names.lookup x=some .free):=by
 induction names with
 |nil=>intro z;rcases z with z | z<;>simp at z
 |cons y r ih=>
  rw[List.all_cons,Bool.and_eq_true] at h;obtain ⟨n,kd⟩:=y
  rw[List.lookup_cons];cases e:x == n with
  |true=>
   simp only
   intro z;have h1:=h.1
   rcases z with z | z<;>(cases z;simp at h1)
  |false=>exact ih h.2
theorem Zjo {names:List (Str × NameKind)}{env:Env}(h:names.all (fun y=>y.2 != .cell && y.2 != .free)=true):
  (names.map fun (n,k)=>if (k == NameKind.free && env.scope.kind == .function && env.kindOf n == some .cell) then (n,NameKind.cell) else (n,k))=names:=by
 induction names with
 |nil=>rfl
 |cons y r ih=>
  rw[List.all_cons,Bool.and_eq_true] at h;obtain ⟨n,kd⟩:=y
  have hk:(kd == NameKind.free)=false:=by
   have h1:=h.1
   rw[Bool.and_eq_true] at h1;have h2:=h1.2
   cases kd<;>first | rfl | simp at h2
  rw[List.map_cons,ih h.2]
  simp[hk]
theorem ZfK {X:Cx}{scope:Scope}{N:List Str}{k:Nat}(h:scope.names.all (fun y=>y.2 != .cell && y.2 != .free)=true)(hk:scope.kind= .function)(hn: ∀ y∈scope.names,y.2= .local->scope.names.lookup y.1=some .local)(hl:N.length=k):Blk X scope [] N k [] where
 clos:=closureFor_none fun y hy z=>by
  have:=List.all_eq_true.mp h y hy
  rw[z] at this
  simp at this
 kind:=hk
 cell:=fun y hy z=>by
  have:=List.all_eq_true.mp h y hy
  rw[z] at this
  simp at this
 names:=hn
 sub:=fun x c z=>(by cases z)
 has:=fun x z=>by
  have e:(relabel scope X.env).names=scope.names:=Zjo h
  rw[e] at z;exact absurd z (Znu h x)
 len:=hl
 at_:=fun j i z=>(by simp at z)
theorem ZeZ {env:Env}: ∀ (names:List (Str × NameKind)) (acc:List (Str × Addr)),(∀ y∈names,y.2= .free-> ∃ c,env.cells.lookup y.1=some c)->
  (forIn names acc fun (x:Str × NameKind) (cs:List (Str × Addr))=>if x.2 == NameKind.free then (do let a <- cellOf env x.1;pure (ForInStep.yield ((x.1,a) :: cs))) else (pure (ForInStep.yield cs):Sem _))=
   (pure (((names.filter fun y=>y.2 == .free).map fun y=>(y.1,(env.cells.lookup y.1).getD 0)).reverse ++ acc):Sem (List (Str × Addr)))
 | [],acc,_=>by simp
 | (n,kd) :: r,acc,h=>by
  rw[List.forIn_cons]
  by_cases hk:(kd == NameKind.free)=true
  ·obtain ⟨c,hc⟩:=h (n,kd) List.mem_cons_self (by simpa using hk)
   have e1:cellOf env n=pure c:=by unfold cellOf;rw[hc]
   have ih:=ZeZ r ((n,c) :: acc) fun y hy=>h y (List.mem_cons_of_mem _ hy)
   simp only[hk,if_true,e1,pure_bind];refine Eq.trans ih ?_
   simp[List.filter_cons,hk,hc]
  ·have ih:=ZeZ r acc fun y hy=>h y (List.mem_cons_of_mem _ hy)
   simp only[hk,if_false,pure_bind];refine Eq.trans ih ?_
   simp[List.filter_cons,hk]
noncomputable def clF (scope:Scope)(env:Env):List (Str × Addr):=((scope.names.filter fun y=>y.2 == .free).map fun y=>(y.1,(env.cells.lookup y.1).getD 0)).reverse
theorem Zdn {env:Env}: ∀ {l:List (Str × NameKind)} {x:Str} {c:Addr},(l.map fun y=>(y.1,(env.cells.lookup y.1).getD 0)).lookup x=some c->c=(env.cells.lookup x).getD 0/\ ∃ y∈l,y.1=x
 | [],x,c,h=>by simp at h
 |y :: r,x,c,h=>by
  rw[List.map_cons,List.lookup_cons] at h;cases e:x == y.1 with
  |true=>
   rw[e] at h;have ex:x=y.1:=by simpa using e
   cases h
   exact ⟨by rw[ex],y,List.mem_cons_self,ex.symm⟩
  |false=>
   rw[e] at h;obtain ⟨h1,z,h2,h3⟩:=Zdn h
   exact ⟨h1,z,List.mem_cons_of_mem _ h2,h3⟩
theorem ZbV {α:Type}: ∀ {l:List (Str × α)} {x:Str},(∃ y∈l,y.1=x)-> ∃ c,l.lookup x=some c
 | [],x,h=>by obtain ⟨y,h1,_⟩:=h;simp at h1
 |z :: r,x,h=>by
  rw[List.lookup_cons];cases e:x == z.1 with
  |true=>exact ⟨_,rfl⟩
  |false=>
   obtain ⟨y,h1,h2⟩:=h
   rcases List.mem_cons.mp h1 with q | q
   ·subst q;rw[h2] at e;simp at e
   ·exact ZbV ⟨y,q,h2⟩
theorem Zax {env:Env}(nc: ∀ n,env.scope.names.lookup n=env.kindOf n): ∀ {names:List (Str × NameKind)} {x:Str} {kd:NameKind},(names.map fun (n,k)=>if (k == NameKind.free && env.scope.kind == .function && env.kindOf n == some .cell) then (n,NameKind.cell) else (n,k)).lookup x=some kd->
  names.lookup x=some kd\/(names.lookup x=some .free/\kd= .cell)
 | [],x,kd,h=>by simp at h
 | (n,q) :: r,x,kd,h=>by
  rw[List.map_cons,List.lookup_cons] at h;rw[List.lookup_cons];dsimp only at h ⊢
  by_cases c:(q == NameKind.free && env.scope.kind == .function && env.kindOf n == some .cell)=true
  ·rw[if_pos c] at h
   dsimp only at h;cases e:x == n with
   |true=>
    rw[e] at h;cases h
    simp only[Bool.and_eq_true,beq_iff_eq] at c;exact .inr ⟨by rw[c.1.1],rfl⟩
   |false=>rw[e] at h;exact Zax nc h
  ·rw[if_neg c] at h
   dsimp only at h;cases e:x == n with
   |true=>rw[e] at h;exact .inl h
   |false=>rw[e] at h;exact Zax nc h
theorem Zbw {env:Env}: ∀ {names:List (Str × NameKind)} {x:Str},names.lookup x=some .free->(∃ kd,(kd=NameKind.cell\/kd=NameKind.free)/\(names.map fun (n,k)=>if (k == NameKind.free && env.scope.kind == .function && env.kindOf n == some .cell) then (n,NameKind.cell) else (n,k)).lookup x=some kd)
 | [],x,h=>by simp at h
 | (n,q) :: r,x,h=>by
  rw[List.lookup_cons] at h;rw[List.map_cons,List.lookup_cons]
  by_cases c:(q == NameKind.free && env.scope.kind == .function && env.kindOf n == some .cell)=true
  ·dsimp only
   rw[if_pos c];cases e:x == n with
   |true=>exact ⟨_,.inl rfl,rfl⟩
   |false=>rw[e] at h;exact Zbw h
  ·dsimp only
   rw[if_neg c];cases e:x == n with
   |true=>rw[e] at h;exact ⟨q,.inr (Option.some.inj h),rfl⟩
   |false=>rw[e] at h;exact Zbw h
noncomputable def ZrX (XN N:List Str)(dn sn:List (Str × NameKind))(k:Nat)(fr:List Nat):Bool:=
 (sn.all fun y=>y.2 != .cell && (y.2 != .free || dn.lookup y.1 == some .cell) && (y.2 != .local || sn.lookup y.1 == some .local)) && N.length == k + fr.length &&
  (List.range fr.length).all fun j=>match fr[j]? with
   |some i=>(match N[k + j]?,XN[i]? with | some x,some y=>x == y && dn.lookup x == some .cell && sn.lookup x == some .free | _,_=>false)
   |none=>false
theorem Zmm {X:Cx}{scope:Scope}{N:List Str}{k n:Nat}{fr:List Nat}{XN:List Str}{dn:List (Str × NameKind)}(hN:X.N=XN)(hd:X.env.scope.names=dn)(hc:X.env.cells=cellsFrom n dn [])(hk:scope.kind= .function)(h:ZrX XN N dn scope.names k fr=true):Blk X scope (clF scope X.env) N k fr:=by
 unfold ZrX at h;simp only[Bool.and_eq_true,List.all_eq_true,bne_iff_ne,ne_eq,Bool.or_eq_true,beq_iff_eq] at h;obtain ⟨⟨h1,h2⟩,h3⟩:=h
 have kind: ∀ x,X.env.kindOf x=dn.lookup x:=fun x=>by rw[<- hd];rfl
 have cel: ∀ x,dn.lookup x=some .cell-> ∃ c,X.env.cells.lookup x=some c:=fun x e=>by
  have:=PySem.W.cellsFrom_some dn n [] (.inl e)
  rw[hc];exact Option.isSome_iff_exists.mp this
 have frc: ∀ y∈scope.names,y.2= .free-> ∃ c,X.env.cells.lookup y.1=some c:=fun y hy e=>by
  rcases (h1 y hy).1.2 with z | z
  ·exact absurd e z
  ·exact cel _ z
 have sub: ∀ x c,(clF scope X.env).lookup x=some c->X.env.cells.lookup x=some c:=fun x c e=>by
  unfold clF at e;rw[<- List.map_reverse] at e;obtain ⟨e1,y,e2,e3⟩:=Zdn e
  have e4:=List.mem_filter.mp (List.mem_reverse.mp e2)
  obtain ⟨c',g⟩:=frc y e4.1 (by simpa using e4.2)
  rw[e3] at g;rw[g] at e1 ⊢;rw[e1];rfl
 have has: ∀ x,scope.names.lookup x=some .free-> ∃ c,(clF scope X.env).lookup x=some c:=fun x e=>by
  refine ZbV ?_
  have m:=PySem.mem_of_lookup e
  exact ⟨(x,(X.env.cells.lookup x).getD 0),List.mem_reverse.mpr (List.mem_map.mpr ⟨(x,.free),List.mem_filter.mpr ⟨m,by simp⟩,rfl⟩),rfl⟩
 refine ⟨?_,hk,fun y hy=>(h1 y hy).1.1,fun y hy e=> ?_,sub,fun x z=> ?_,h2,fun j i e=> ?_⟩
 ·have:=ZeZ (env:=X.env) scope.names [] frc
  rw[List.append_nil] at this;unfold closureFor;exact (congrArg (fun (m:Sem (List (Str × Addr)))=>m >>= fun cs=>(pure cs:Sem (List (Str × Addr)))) this).trans (pure_bind _ _)
 ·rcases (h1 y hy).2 with z | z
  ·exact absurd e z
  ·exact z
 ·have nc: ∀ m,X.env.scope.names.lookup m=X.env.kindOf m:=fun m=>rfl
  refine has x ?_
  rcases z with z | z
  ·rcases Zax nc z with q | q
   ·exact absurd rfl (h1 _ (PySem.mem_of_lookup q)).1.1
   ·exact q.1
  ·rcases Zax nc z with q | q
   ·exact q
   ·cases q.2
 ·have hj:j < fr.length:=(List.getElem?_eq_some_iff.mp e).1
  have q:=h3 j (List.mem_range.mpr hj)
  rw[e] at q;dsimp only at q;cases e1:N[k + j]? with
  |none=>rw[e1] at q;cases q
  |some x=>
   cases e2:XN[i]? with
   |none=>rw[e1,e2] at q;cases q
   |some y=>
    rw[e1,e2] at q;simp only[Bool.and_eq_true,beq_iff_eq] at q;obtain ⟨⟨q1,q2⟩,q3⟩:=q
    subst q1;obtain ⟨kd,r1,r2⟩:=Zbw (env:=X.env) q3
    obtain ⟨c,r3⟩:=has x q3
    refine ⟨x,rfl,by rw[hN];exact e2,by rw[kind];exact q2,?_,r3.trans (sub x c r3).symm⟩
    rcases r1 with r1 | r1
    ·exact .inl (r1 ▸ r2)
    ·exact .inr (r1 ▸ r2)
section
variable {X:Cx}{ξ:XK}
noncomputable def Zcq:List D->Option (List Bool)
 | []=>some []
 | .bl b :: r=>match Zcq r with | some bs=>some (b :: bs) | none=>none
 |_ :: _=>none
noncomputable def ZrY:List D->Sto->Out D:=fun ds M=>match ds with
 | [.ref n]=>(match M[n]? with | some (.lst xs)=>(match Zcq xs with | some bs=> .ok (.bl (bs.all id)) M | none=> .bad) | none=> .bad)
 |_=> .bad
end
section
variable {prog:Program}{w:World}{A:Around}{E:Value->Shared->Prop}{s:Shared}
end
section
variable {X:Cx}{ξ:XK}{e:Expr}{f:Ev}{p2 p3 p4 pos:Pos}{j:Nat}
theorem Reps.rev {K:PySem.W.Frag}{H:Hp}{α:List Addr}: ∀ {vs:List V} {ds:List D},Reps K H α vs ds->Reps K H α vs.reverse ds.reverse
 |_,_,.nil=> .nil
 |_,_,.cons r t=>by
  rw[List.reverse_cons,List.reverse_cons];exact (Reps.rev t).append (.cons r .nil)
end
end DL
end
section
namespace DL
open PySem PySem.Spec PyProof.Rows L2
section
variable {X:Cx}{ξ:XK}
end
end DL
end
section
namespace DL
open PySem PySem.Spec PyProof.Rows L2
section
variable {M:Model}{A:Around}{E:Value->Shared->Prop}{s:Shared}
end
section
variable {X:Cx}{ξ:XK}{tg iter elt:Expr}{ifs:List Expr}{scope:Scope}{cl:List (Str × Addr)}{N:List Str}{k:Nat}{fr:List Nat}{fi:Ro->Sto->Out Src}{gt:Tg}{c:Tv}{f:Ev}{pos:Pos}
end
section
variable {X:Cx}{scope0:Scope}{cl0:List (Str × Addr)}{N0:List Str}{k0:Nat}{fr0:List Nat}{C:Addr}{fp:List Addr}{s:Shared}{H:Hp}{scope:Scope}{N:List Str}{k:Nat}{fr:List Nat}{dn:List (Str × NameKind)}
end
end DL
end
section
namespace DL
open PySem PySem.Spec PyProof.Rows L2
open PySem.W (nsIn excIn tailIn nsOkIn mroIn clsIn typeIn findIn specialIn takesIn kitOne Looks)
noncomputable abbrev bmV:List Value:=[.type "ValueError",.type "Exception",.type "BaseException",.type "object"]
noncomputable def Zce (K:PySem.W.Frag)(c:Str):Option Addr:=match nsIn K mainGlobals c with | some (some (.ref C))=>some C | _=>none
theorem Zbh {K:PySem.W.Frag}{c:Str}{C:Addr}(h:Zce K c=some C):nsIn K mainGlobals c=some (some (.ref C)):=by
 unfold Zce at h
 split at h
 ·rename_i C' e;cases h;exact e
 ·cases h
noncomputable def Zmn (K:PySem.W.Frag)(c:Str):Bool:=match Zce K c with
 |some C=>excIn K C bmV "ValueError.__new__" && findIn K (.ref C) "__getattribute__" == some (some (.builtin "BaseException.__getattribute__")) && findIn K (.ref C) "__getattr__" == some none && findIn K (.ref C) "__class__" == some (some (.builtin "object.__class__")) &&
  specialIn K (.builtin "object.__class__") "__get__" == some (some (.builtin "getset_descriptor.__get__")) && takesIn K (.builtin "object.__class__") == some true && mroIn K C (.type "BaseException") == some true && mroIn K C (.type "object") == some true && (clsIn K C).isSome
 |none=>false
noncomputable def Zjp (K:PySem.W.Frag)(c:Str):Bool:=match Zce K c with
 |some C=>findIn K (.ref C) "__getattribute__" == some (some (.builtin "BaseException.__getattribute__")) && findIn K (.ref C) "__getattr__" == some none && findIn K (.ref C) "__class__" == some (some (.builtin "object.__class__")) &&
  specialIn K (.builtin "object.__class__") "__get__" == some (some (.builtin "getset_descriptor.__get__")) && takesIn K (.builtin "object.__class__") == some true && mroIn K C (.type "BaseException") == some true && mroIn K C (.type "object") == some true && (clsIn K C).isSome
 |none=>false
theorem ZpE {K:PySem.W.Frag}{c:Str}(h:Zjp K c=true): ∃ C,nsIn K mainGlobals c=some (some (.ref C))/\DQ.ExcC K C:=by
 unfold Zjp at h
 split at h
 ·rename_i C e
  simp only[Bool.and_eq_true,beq_iff_eq] at h;obtain ⟨⟨⟨⟨⟨⟨⟨h2,h3⟩,h4⟩,h5⟩,h6⟩,h7⟩,h8⟩,h9⟩:=h
  exact ⟨C,Zbh e,h2,h3,h4,h5,h6,h7,h8,h9⟩
 ·cases h
theorem Zlk {K:PySem.W.Frag}{c:Str}(h:Zmn K c=true): ∃ C,nsIn K mainGlobals c=some (some (.ref C))/\excIn K C bmV "ValueError.__new__"=true/\DQ.ExcC K C:=by
 unfold Zmn at h
 split at h
 ·rename_i C e
  simp only[Bool.and_eq_true,beq_iff_eq] at h;obtain ⟨⟨⟨⟨⟨⟨⟨⟨h1,h2⟩,h3⟩,h4⟩,h5⟩,h6⟩,h7⟩,h8⟩,h9⟩:=h
  exact ⟨C,Zbh e,h1,h2,h3,h4,h5,h6,h7,h8,h9⟩
 ·cases h
theorem Zll {K:PySem.W.Frag}{h:Heap}{C:Addr}{bmB:List Value}{newId:String}(X:K.In h)(q:excIn K C bmB newId=true):
  ∃ bm N nm q bs hdct sn sub ab col dd k0 k1 k2 k3 k5 mN,h.get? C=some (excClassObj nm q C N bs bm hdct sn sub ab col dd k0 k1 k2 k3 k5 newId)/\h.Ns N mN/\mN "__init__"=none/\OwnTail h bmB bm:=by
 unfold excIn at q
 split at q
 ·rename_i dd cd sl ho
  split at q
  ·rename_i C' bm k0 k1 k2 k3 n k5 hm hs
   simp only[Bool.and_eq_true,beq_iff_eq,Bool.not_eq_true'] at q;obtain ⟨⟨⟨⟨⟨rfl,rfl⟩,hdel⟩,ht⟩,hok⟩,hni⟩:=q
   obtain ⟨nm,bs,mro,ns,qn,hd,sn,sub,ab,col,del⟩:=cd
   dsimp only at hm hdel hok hni;subst hm hdel;obtain ⟨l⟩:=sl
   simp only at hs
   subst hs;exact ⟨bm,ns,nm,qn,bs,hd,sn,sub,ab,col,dd,k0,k1,k2,k3,k5,_,X _ _ ho,.of_isNs (PySem.W.isNs_of_in X hok),PySem.W.nsMap_none_of_in X hok hni,PySem.W.tail_of_in X ht⟩
  ·cases q
 ·cases q
noncomputable def ZhE (K:PySem.W.Frag)(d:Str)(cs:List Str):Bool:=match Zce K d with
 |some D=>mroIn K D (.type "BaseException") == some true && typeIn K (.ref D) == some (.type "type") && (clsIn K D).isSome && cs.all fun c=>Zjp K c && (match Zce K c with | some C=>mroIn K C (.ref D) == some true | none=>false)
 |none=>false
theorem ZfL {K:PySem.W.Frag}{c:Str}{C:Addr}(h:nsIn K mainGlobals c=some (some (.ref C))):Zce K c=some C:=by
 unfold Zce;rw[h]
noncomputable def ZrZ (tab:List (Str × Bool))(f:Ev):Ev:=fun ρ M=>(f ρ M).bind fun x M1=>match x with | .err c _=>(match tab.lookup c with | some b=> .ok (.bl b) M1 | none=> .bad) | _=> .bad
section
variable {X:Cx}{ξ:XK}{e:Expr}{fa:Ev}{p pos:Pos}{tab:List (Str × Bool)}
theorem Zkl {P:Program}{w:World}{H:Hp}{h:Heap}{e:Addr}(k:HOk P w H h)(hn:h.get? e=none):H e=none:=by
 cases z:H e with
 |none=>rfl
 |some u=>obtain ⟨o,g⟩:=ZcK (k e u z);rw[hn] at g;cases g
noncomputable def ZbW (c:Str)(fs:Av):Sv:=fun ρ M=>Zar (fs ρ M) fun ds M1=>if ds.length<=1000 then .exc c M1 else .bad
theorem ZdE {x:Str}{np cpos:Pos}{a:Expr}{as:List Expr}{fs:Av}(T:Thr X ξ)(hx:Zmn X.K x=true)(gl: ∀ c v,nsIn X.K mainGlobals c=some (some v)->X.mg c=some v)(hh:X.A.handled=none)(ha:DA X ξ (a :: as) fs)(hg:Gl X x:=by rfl)(hdb:(x == ("__debug__":Str))=false:=by decide)(hf:Zho x=false:=by decide)
  (he:starEach (a :: as) X.env=(false,eval a X.env) :: starEach as X.env:=by rfl) (hpl:(backTo cpos (starEach as X.env)).any (·.1)=false:=by rfl):DS X ξ (.Raise (some (.Call (.Name x np) (a :: as) [] cpos)) none pos) (ZbW x fs):=by
 obtain ⟨ta,pa,qa⟩:=ha
 obtain ⟨C,hC,hq,_⟩:=Zlk hx
 refine ⟨fun Dn σ H=>ta σ H fun vs H1=>vs.length<=sizeLine/\ξ (.ref C) none H1,fun pins s σ H Dn I h=> ?_,fun σ ρ H α M Dn s h q=> ?_⟩
 ·obtain ⟨tl,N,nm,q,bs,hdct,sn,sub,ab,col,dd,k0,k1,k2,k3,k5,mN,gC,hN,hni,TL⟩:=Zll I.ok.mod.kin hq
  refine wpAny_Raise_call_subT (C:=C) (nm:=nm) (q:=q) (N:=N) (bs:=bs) (bm:=tl) (hdct:=hdct) (sn:=sn) (sub:=sub) (ab:=ab) (col:=col) (dd:=dd) (k0:=k0) (k1:=k1) (k2:=k2) (k3:=k3) (k5:=k5) F.excBase_ValueError (mN:=mN)
   (TL.hasType F.excBase_ValueError.hasBase) hh (by rw[he];show (false || (backTo cpos (starEach as X.env)).any (·.1))=false;rw[hpl];rfl) hni (Zdw I hg (gl x _ hC) ⟨rfl,?_⟩ hdb)
  have hs:=pa cpos pins s σ H _ I h
  rw[he] at hs ⊢;refine Calls.evalArgs_plain (wpAny_mono hs (fun us s2 ⟨vs,H1,I1,r1,z1,z2⟩=>⟨rfl,by rw[<- r1.length];exact z1,I1.bk _ _ gC,hN.keeps I1.bk,TL.keeps I1.bk,fun h' e m=> ?_⟩) fun _ _ y=>y)
  obtain ⟨t,g1,g2,g3⟩:=m.there
  exact T.mak pins σ H1 H1 s2 { s2 with heap:=h' } e _ _ C I1 rfl I1.bare (Un.kept m.keeps) (I1.hok.kept m.keeps) m.new g1 rfl rfl rfl rfl (Zkl I1.hok m.new) z2
 ·refine qa σ ρ H α M _ s h (FP.seq q fun ds M1 vs H1 α1 e1 h1 r1 w1=> ?_)
  by_cases hl:ds.length<=1000
  ·rw[if_pos hl] at w1
   exact ⟨by rw[r1.length];exact small hl,w1 C H1 α1 hC Ext.refl none (.inl ⟨hf,h1,rfl⟩)⟩
  ·rw[if_neg hl] at w1
   exact w1.elim
end
end DL
end
section
namespace DL
open PySem PySem.Spec PyProof.Rows L2
open PySem.W (nsIn excIn tailIn nsOkIn mroIn clsIn typeIn findIn specialIn takesIn kitOne Looks looks_mroIn looks_typeIn)
theorem ZhF {K:PySem.W.Frag}{e C D:Addr}{oe:Obj}{od:Option Obj}{b:Bool}{prog:Program}{w:World}{A:Around}{E:Value->Shared->Prop}{s:Shared}{Q:Bool->Shared->Prop}(X:K.In s.heap)(I:PySem.W.InstAt s.heap e oe C od)
  (hD:typeIn K (.ref D)=some (.type "type")) (hi:(clsIn K D).isSome=true) (hb:mroIn K D (.type "BaseException")=some true) (hm:mroIn K C (.ref D)=some b) (h:Q b s):wpAny (model prog w) A (excMatches (.ref e) (.ref D)) Q E s:=by
 obtain ⟨hh,g,d,tk,os⟩:=s
 have L0:=I.type (M:=model prog w)
 have L1:=looks_typeIn (M:=model prog w) X hD
 have L2:Looks (model prog w) hh (isInstance (.ref D) (.type "tuple")) false:=L1.andThen (Looks.of_pure tc_notTuple)
 have L3:Looks (model prog w) hh (isType (.ref D)) true:=by
  obtain ⟨cd,hc⟩:=Option.isSome_iff_exists.mp hi
  unfold clsIn at hc
  split at hc
  ·rename_i o1 o2 o3 o4 ho
   intro A' Q' E' s' k q;unfold isType loadHead;exact wpAny_bind (wpAny_loadPart (k _ _ (X _ _ ho)) (wpAny_pure q))
  ·cases hc
 have L4:=looks_mroIn (M:=model prog w) X hb
 have L5:=looks_mroIn (M:=model prog w) X hm
 have L6:Looks (model prog w) hh (isExcClass (.ref D)) true:=L3.andThen (by simpa using L4)
 unfold excMatches;refine wpAny_bind (L2.at ?_)
 simp only[Bool.false_eq_true,if_false];refine wpAny_bind (m:=forIn [Value.ref D] _ _) ?_
 rw[List.forIn_cons];refine wpAny_bind (wpAny_bind (L6.at ?_))
 simp only[Bool.not_true,Bool.false_eq_true,if_false];refine wpAny_pure ?_
 dsimp only;rw[List.forIn_nil];refine wpAny_pure (wpAny_bind (L0.at (wpAny_bind ?_)))
 rw[List.forIn_cons];refine wpAny_bind (wpAny_bind (L5.at ?_))
 cases b with
 |true=>exact wpAny_pure (wpAny_pure (wpAny_pure h))
 |false=>
  simp only[Bool.false_eq_true,if_false];refine wpAny_pure ?_
  dsimp only;rw[List.forIn_nil];exact wpAny_pure (wpAny_pure h)
noncomputable def Cx.han (X:Cx)(e:Addr):Cx:={ X with A:=X.A.mark (some (.ref e)),calm:=false,xe:=fun _ _=>False }
noncomputable def Cx.tri (X:Cx)(pn:List (Addr × Obj))(xe:Value->Shared->Prop)(W:List Bool)(σ:L2.St):Cx:={ X with pn:=pn,xe:=xe,fxs:=some (W,σ) }
section
variable {X:Cx}{pins pins' pn:List (Addr × Obj)}{σ:L2.St}{H H':Hp}{s:Shared}{xe:Value->Shared->Prop}{e:Addr}
theorem Znv (ok:X.Ok):(Cx.han X e).Ok:=
 ⟨ok.mod,ok.kind,ok.glob,ok.blt,ok.above,ok.inj,ok.has,ok.cab,fun z=>(by cases z),ok.frames,ok.stk,ok.exf,ok.bs,ok.bsz,ok.noex,ok.exfs,ok.funs,ok.frf⟩
theorem Zjq (ok:(Cx.han X e).Ok)(hh:X.A.handled=none):X.Ok:=
 ⟨ok.mod,ok.kind,ok.glob,ok.blt,ok.above,ok.inj,ok.has,ok.cab,fun _=>hh,ok.frames,ok.stk,ok.exf,ok.bs,ok.bsz,ok.noex,ok.exfs,ok.funs,ok.frf⟩
theorem Znw {W:List Bool}(ok:X.Ok):(Cx.tri X pn xe W σ).Ok:=
 ⟨ok.mod,ok.kind,ok.glob,ok.blt,ok.above,ok.inj,ok.has,ok.cab,ok.hd,ok.frames,ok.stk,ok.exf,ok.bs,ok.bsz,ok.noex,ok.exfs,ok.funs,ok.frf⟩
theorem Zjr {W:List Bool}(ok:(Cx.tri X pn xe W σ).Ok):X.Ok:=
 ⟨ok.mod,ok.kind,ok.glob,ok.blt,ok.above,ok.inj,ok.has,ok.cab,ok.hd,ok.frames,ok.stk,ok.exf,ok.bs,ok.bsz,ok.noex,ok.exfs,ok.funs,ok.frf⟩
theorem Zlm (I:Inv X pins σ H s)(q:Qd (X.A.mark (some (.ref e))) H):Inv (Cx.han X e) pins σ H s:=⟨Znv I.ok,I.os,I.bare,I.base,I.loc,I.cell,I.free,I.freeC,I.pin,I.hok,I.len,q,I.fx⟩
theorem Zep (I:Inv (Cx.han X e) pins σ H s)(hh:X.A.handled=none):Inv X pins σ H s:=⟨Zjq I.ok hh,I.os,I.bare,I.base,I.loc,I.cell,I.free,I.freeC,I.pin,I.hok,I.len,.inl hh,I.fx⟩
theorem Zln {W:List Bool}(I:Inv X pins σ H s):Inv (Cx.tri X (X.pn ++ pins) xe W σ) [] σ H s:=⟨Znw I.ok,I.os,I.bare,I.base,I.loc,I.cell,I.free,I.freeC,fun p hp=>I.pin p (by rw[List.append_nil] at hp;exact hp),I.hok,I.len,I.qd,fun W' σ0 e j _=>by cases e;rfl⟩
theorem Za8 {W:List Bool}{σ0:L2.St}(hx:X.fxs=none)(I:Inv (Cx.tri X (X.pn ++ pins) xe W σ0) pins' σ H s):Inv X pins σ H s:=⟨Zjr I.ok,I.os,I.bare,I.base,I.loc,I.cell,I.free,I.freeC,fun p hp=>I.pin p (List.mem_append_left _ hp),I.hok,I.len,I.qd,.free hx⟩
theorem ZhG (I:Inv X pins σ H s){a:Addr}{o:Obj}{vs:Array Value}(hn:H a=none)(he:s.heap.get? a=some o)(hd:o.data= .fields vs)(h0:X.s₀.heap.get? a=none)(hp: ∀ p∈X.pn ++ pins,p.1≠a):Inv X pins σ (upd H a (.frz o (.own 0))) s:=by
 have ne: ∀ b u,H b=some u->b≠a:=fun b u z q=>by rw[q,hn] at z;cases z
 refine ⟨I.ok,I.os,I.bare,⟨I.base.keep,I.base.slot,fun b o' x n hx=> ?_,I.base.there,fun b xs x=> ?_,fun b o' u x=> ?_,fun b ps x=> ?_⟩,I.loc,I.cell,?_,fun x c z=> ?_,fun p hp'=> ?_,fun b u z=> ?_,I.len,I.qd.mono fun b o' u x=> ?_,I.fx⟩
 ·rw[Zu (fun z=>by rw[z,h0] at x;cases x)]
  exact I.base.free b o' x n hx
 ·have:=I.base.tups b xs x
  rw[Zu (ne b _ this)];exact this
 ·have:=I.base.frzs b o' u x
  rw[Zu (ne b _ this)];exact this
 ·obtain ⟨m1,z⟩:=I.base.tbls b ps x
  exact ⟨m1,by rw[Zu (ne b _ z)];exact z⟩
 ·rw[Zu (fun z=> ?_)]
  ·exact I.free
  ·obtain ⟨m,⟨oL,es,ep,hoL,hdL,r⟩,_⟩:=I.loc
   rw[z,he] at hoL;cases hoL
   rw[hd] at hdL;cases hdL
 ·rw[Zu (fun q=> ?_)]
  ·exact I.freeC x c z
  ·obtain ⟨v,oc,g1,g2⟩:=I.cell x c z
   rw[q,he] at g1;cases g1
   rw[hd] at g2;cases g2
 ·obtain ⟨g1,g2,g3,g4,g5⟩:=I.pin p hp'
  exact ⟨g1,by rw[Zu (hp p hp')];exact g2,g3,g4,g5⟩
 ·by_cases hb:b=a
  ·subst hb
   rw[Zv] at z;cases z
   exact ⟨he,⟨o,he⟩⟩
  ·rw[Zu hb] at z
   exact (I.hok b u z).stay (fun _ _ _ q=>q) (fun c q=>by rw[Zu (ne c _ q)];exact q) fun c xs q=>by rw[Zu (ne c _ q)];exact q
 ·rw[Zu (ne b _ x)];exact x
theorem Zlo {h1 h2 B:Heap}(I:Inv X pins σ H s)(u:Un (frs X.stack) [] H H' s.heap h1)(hok:HOk X.prog X.w H' h1)(t1: ∀ b q,H' b=some q-> ∃ o,B.get? b=some o)(t2: ∀ b o,s.heap.get? b=some o->b ∉ frs X.stack-> ∃ o',B.get? b=some o')
  (st1:B.StaysIn h1) (st2:B.StaysIn h2) (up:h1.UpToSlots h2):Un (frs X.stack) [] H H' s.heap h2/\HOk X.prog X.w H' h2:=by
 have kB: ∀ b ob o,B.get? b=some ob->h1.get? b=some o->h2.get? b=some o:=fun b ob o e x=>by
  have z:=st1 b ob e
  rw[x] at z;cases z
  exact st2 b _ e
 have sl: ∀ b o,s.heap.get? b=some o->H b=none->b∈frs X.stack-> ∃ sl,h2.get? b=some { o with slots:=sl }:=fun b o x n hb=>by
  obtain ⟨s2,e2⟩:=u.any x n (by simp)
  obtain ⟨_,o',g1,g2⟩:=I.stack.mem hb
  rw[x] at g1;cases g1
  obtain ⟨s3,e3⟩:=up b _ e2 g2
  exact ⟨s3,e3⟩
 refine ⟨⟨fun b o x n hb _=> ?_,fun b o x n hb _=>sl b o x n hb,u.free,fun b o x _=> ?_,u.tups,u.frzs,u.tbls⟩,fun a o x=> ?_⟩
 ·obtain ⟨ob,g⟩:=t2 b o x hb
  exact kB b ob o g (u.keep b o x n hb (by simp))
 ·by_cases hb:b∈frs X.stack
  ·obtain ⟨s1,e1⟩:=sl b o x (I.stkFree b hb) hb
   exact ⟨_,e1⟩
  ·obtain ⟨ob,g⟩:=t2 b o x hb
   exact ⟨ob,st2 b ob g⟩
 ·refine (hok a o x).stay (fun b q hb y=> ?_) (fun _ q=>q) fun _ _ q=>q
  have tr: ∃ q,H' b=some q:=by
   rcases hb with z | z
   ·exact ⟨o,z ▸ x⟩
   ·exact ⟨_,z⟩
  obtain ⟨q',z⟩:=tr
  obtain ⟨ob,g⟩:=t1 b q' z
  exact kB b ob q g y
end
theorem Zgq {M:Model}{A:Around}{E:Value->Shared->Prop}{s:Shared}{B:Heap}{env:Env}{outer:List Env}{L e:Addr}{oe:Obj}{vs:Array Value}{Q:Unit->Shared->Prop}(hfr:A.frames=some (env :: outer))(hf:env.frame=some L)(hl:s.heap.FunFrames B (env :: outer))(he:s.heap.get? e=some oe)(hs:B.StaysIn s.heap)(hb:B.get? e=none)(hd:oe.data= .fields vs)(h1:vs[1]?=some .none)(h2:vs[2]?=some .none)
  (h: ∀ h',DQ.Fly B (env :: outer) e oe.cls oe.dict (rawInt L) h'->s.heap.UpToSlots h'->Q () { s with heap:=h' }):wpAny M A (noteFrame (.ref e) env) Q E s:=by
 unfold noteFrame;simp only[hf];refine wpAny_bind (wpAny_field he hd h1 ?_)
 rw[if_neg (by decide)]
 exact DQ.ZcT hfr hl hf he hs hb hd (Array.getElem?_eq_some_iff.mp h2).1 h2 h
noncomputable def kpR:List Bool->Ro->Ro
 |b :: m,x :: r=>(bif b then none else x) :: kpR m r
 |_,[]=>[]
 | [],_ :: r=>none :: kpR [] r
theorem Ze0: ∀ (W:List Bool) (ρ:Ro),(kpR W ρ).length=ρ.length
 | [],[]=>rfl
 |_ :: _,[]=>rfl
 | [],_ :: r=>by rw[kpR,List.length_cons,List.length_cons,Ze0 [] r]
 |_ :: m,_ :: r=>by rw[kpR,List.length_cons,List.length_cons,Ze0 m r]
theorem ZhH: ∀ (W:List Bool) (ρ:Ro) (j:Nat) (d:D),(kpR W ρ)[j]?=some (some d)->W[j]?=some false/\ρ[j]?=some (some d)
 | [],[],_,_,h=>by simp[kpR] at h
 |_ :: _,[],_,_,h=>by simp[kpR] at h
 | [],_ :: r,0,_,h=>by simp[kpR] at h
 | [],x :: r,j + 1,d,h=>by
  have:=ZhH [] r j d (by simpa [kpR] using h)
  simp at this
 |b :: m,x :: r,0,d,h=>by
  cases b with
  |true=>simp[kpR] at h
  |false=>exact ⟨rfl,by simpa [kpR] using h⟩
 |b :: m,x :: r,j + 1,d,h=>by
  have:=ZhH m r j d (by simpa [kpR] using h)
  simpa using this
noncomputable def fsE (c:Str)(M:Sto):List D:=if Zho c=true then (match M.getLast? with | some (.lst xs)=>xs | none=>[]) else []
noncomputable def stE (c:Str)(M:Sto):Sto:=if Zho c=true then M.dropLast else M
theorem ZbX {c:Str}{M:Sto}(h:Zho c=false):fsE c M=[]:=by unfold fsE;rw[h];rfl
theorem ZbP {c:Str}{M:Sto}(h:Zho c=false):stE c M=M:=by unfold stE;rw[h];rfl
theorem Zqb {c:Str}{M:Sto}{ds:List D}(h:Zho c=true):fsE c (M ++ [.lst ds])=ds:=by unfold fsE;rw[if_pos h,List.getLast?_concat]
theorem Znx {c:Str}{M:Sto}{ds:List D}(h:Zho c=true):stE c (M ++ [.lst ds])=M:=by unfold stE;rw[if_pos h,List.dropLast_concat]
theorem XO.hr {K:PySem.W.Frag}{H:Hp}{α:List Addr}{c:Str}{M:Sto}{dct:Option Addr}(h:XO K H α c M dct):HR K H α (stE c M):=by
 rcases h with ⟨h1,h2,_⟩ | ⟨h1,M0,ds,dx,fs,rfl,h2,_⟩
 ·rw[ZbP h1];exact h2
 ·rw[Znx h1];exact h2
theorem XO.inst {K:PySem.W.Frag}{P:Program}{w:World}{H:Hp}{α:List Addr}{c:Str}{M:Sto}{e C:Addr}{oe:Obj}{vs:Array Value}{hp:Heap}(h:XO K H α c M oe.dict)(hok:HOk P w H hp)(he:hp.get? e=some oe)(k2:oe.cls= .ref C)(k4:oe.data= .fields vs): ∃ od,PySem.W.InstAt hp e oe C od:=by
 have nc:PySem.W.notCls oe=true:=by unfold PySem.W.notCls;rw[k4]
 rcases h with ⟨h1,h2,h3⟩ | ⟨h1,M0,ds,dx,fs,_,h2,h3,h4,h5,h6⟩
 ·exact ⟨none,he,k2,nc,by rw[h3];trivial⟩
 ·obtain ⟨o,g⟩:=ZcK (hok _ _ h4)
  exact ⟨some o,he,k2,nc,by rw[h3];exact g⟩
noncomputable def Zr0 (gb:Sv)(cs:List Str)(W:List Bool)(i:Nat)(gh:Sv):Sv:=fun ρ M=>match gb ρ M with
 | .exc c M1=>if cs.contains c=true then (match gh ((kpR W ρ).set i (some (.err c (fsE c M1)))) (stE c M1) with
  | .ret d M2=> .ret d M2
  | .nx _ M2=> .nx (List.replicate ρ.length none) M2
  |_=> .bad) else .bad
 |o=>o
section
variable {X:Cx}{ξ:XK}{d n:Str}{cs:List Str}{i:Nat}{body suite:List Stmt}{b0:Stmt}{gb gh:Sv}{pos hpos np:Pos}
end
theorem ZF {k:Nat}{A:Around}{env:Env}(hr:Room k (A.deeper env))(h:100<=k):A.handled.isNone=true:=by
 have e:A.handled=none:=hr.hd h
 rw[e];rfl
end DL
end
section
namespace DL
open PySem PySem.Spec PyProof.Rows L2
noncomputable abbrev Me:=D->List D->Sto->Out D
noncomputable def MO (X:Cx)(ξ:XK)(r:V->List V->Hp->VK->Prop)(g:Me):Prop:= ∀ H α M v vs x ds Q,HR X.K H α M->Rep X.K H α v x->Reps X.K H α vs ds->OP X.K H α ξ Q (g x ds M)->r v vs H Q
theorem HR.wrE {K:PySem.W.Frag}{H:Hp}{α:List Addr}{M:Sto}{n:Nat}{p:Addr}{xs ys:List V}{ds:List D}(h:HR K H α M)(e:RefK H α 0 n p)(hp:H p=some (.lst ys))(r:Reps K H α xs ds):Ext K H (upd H p (.lst xs)) α α/\HR K (upd H p (.lst xs)) α (M.set n (.lst ds)):=
 ⟨Ext.wr hp,h.wr e hp r⟩
section
variable {X:Cx}{ξ:XK}{o e:Expr}{es:List Expr}{fo fa:Ev}{fs:Av}{name:Str}{apos cpos pos:Pos}{T id:String}{r:V->List V->Hp->VK->Prop}{g:Me}
noncomputable def Zlp (x:D)(M:Sto):Bool:=match x with | .ref n=>M[n]?.isSome | _=>false
noncomputable def ZhI (g:Me)(fo:Ev)(fs:Av):Ev:=fun ρ M=>(fo ρ M).bind fun x M1=>if Zlp x M1=true then (fs ρ M1).bind fun ds M2=>g x ds M2 else .bad
theorem Zlq {K:PySem.W.Frag}{H:Hp}{α:List Addr}{M:Sto}{v:V}{x:D}(h:HR K H α M)(rx:Rep K H α v x)(k:Zlp x M=true):tyV K "list" v H:=by
 cases rx with
 | @ref p n hp=>
  obtain ⟨xs,g⟩:=h.some_at hp
  exact .inl ⟨rfl,_,SqL.of g⟩
 |_=>cases k
theorem Zny (slot:Slot "list" name id)(hty:typeOf (.builtin id)=pure (.type "method_descriptor"))(hm:MtR X id r)(hf:MO X ξ r g)(ho:DE X ξ o fo)(ha:DA X ξ (e :: es) fs)
  (hbase:attributeBase o name X.env (eval o X.env)=eval o X.env:=by rfl)
  (hfew:((backTo cpos (starEach (e :: es) X.env)).all (fun x=> !x.1) && (backToKw cpos (keywordEach [] X.env)).all (fun x=>x.1.isSome)
   && decide ((e :: es).length + ([]:List Keyword).length + (if ([]:List Keyword).isEmpty then 0 else 1) < 30))=true:=by rfl)
  (hline:(apos.endLine == cpos.line)=true:=by rfl) (hs:starEach (e :: es) X.env=(false,eval e X.env) :: starEach es X.env:=by rfl) (hplain:(backTo cpos (starEach es X.env)).any (·.1)=false:=by rfl):
  DE X ξ (.Call (.Attribute o name apos) (e :: es) [] cpos) (ZhI g fo fs):=by
 obtain ⟨to,po,qo⟩:=ho
 obtain ⟨ta,pa,qa⟩:=ha
 refine ⟨_,Zp3 PySem.F.plainAttrs_list slot hty hm po pa hbase hfew hline hs hplain,fun σ ρ H α M Q s h q=> ?_⟩
 refine qo σ ρ H α M _ s h (OG.seq q fun x M1 v H1 α1 e1 h1 r1 q1=> ?_)
 by_cases k:Zlp x M1=true
 ·rw[if_pos k] at q1
  exact ⟨Zlq h1 r1 k,qa σ ρ H1 α1 M1 _ (s.mono e1) h1 (OG.seq q1 fun ds M2 vs H2 α2 e2 h2 r2 q2=>hf H2 α2 M2 v vs x ds Q h2 (Rep.mono e2 r1) r2 q2)⟩
 ·rw[if_neg k] at q1
  exact q1.elim
noncomputable def mApp:Me:=fun x ds M=>match x,ds with
 | .ref n,[d]=>(match M[n]? with | some (.lst xs)=>if xs.length < 10000000 then .ok .non (M.set n (.lst (xs ++ [d]))) else .bad | none=> .bad)
 |_,_=> .bad
theorem Znz:MO X ξ rAppend mApp:=by
 intro H α M v vs x ds Q h rx rs q;cases rx with
 | @ref p n hp=>
  match rs with
  | .nil=>exact q.elim
  | .cons _ (.cons _ _)=>exact q.elim
  | .cons (v:=u) (d:=d) ru .nil=>
   cases em:M[n]? with
   |none=>simp only[mApp,em] at q;exact q.elim
   |some so=>
    cases so with
    |lst es=>
     obtain ⟨xs,g1,g2⟩:=h.at hp em
     by_cases c:es.length < 10000000
     ·simp only[mApp,em,if_pos c] at q
      obtain ⟨k1,k2⟩:=h.wrE hp g1 (g2.append (.cons ru .nil))
      exact ⟨p,xs,u,rfl,rfl,g1,by rw[g2.length];exact Nat.lt_of_lt_of_le c (by decide),q _ _ α k1 k2 .non⟩
     ·simp only[mApp,em,if_neg c] at q
      exact q.elim
 |_=>cases rs<;>exact q.elim
noncomputable def Zr1:Me:=fun x ds M=>match x,ds with
 | .ref n,[]=>(match M[n]? with | some (.lst _)=> .ok .non (M.set n (.lst [])) | none=> .bad)
 |_,_=> .bad
noncomputable def Zr2:Me:=fun x ds M=>match x,ds with
 | .ref n,[.ref m]=>(match M[n]?,M[m]? with | some (.lst xs),some (.lst ys)=>if xs.length + ys.length<=10000000 then .ok .non (M.set n (.lst (xs ++ ys))) else .bad | _,_=> .bad)
 |_,_=> .bad
theorem Zbx (ho:DE X ξ o fo)(ha:DE X ξ e fa)(hbase:attributeBase o "append" X.env (eval o X.env)=eval o X.env:=by rfl)
  (hfew:((backTo cpos (starEach [e] X.env)).all (fun x=> !x.1) && (backToKw cpos (keywordEach [] X.env)).all (fun x=>x.1.isSome)
   && decide ([e].length + ([]:List Keyword).length + (if ([]:List Keyword).isEmpty then 0 else 1) < 30))=true:=by rfl)
  (hline:(apos.endLine == cpos.line)=true:=by rfl) (hs:starEach [e] X.env=(false,eval e X.env) :: starEach [] X.env:=by rfl) (hplain:(backTo cpos (starEach [] X.env)).any (·.1)=false:=by rfl):
  DE X ξ (.Call (.Attribute o "append" apos) [e] [] cpos) (ZhI mApp fo (Zc fa aNil)):=Zny PySem.F.slot_list_append PySem.F.type_list_append Zef Znz ho (Za ha Ze hs) hbase hfew hline hs hplain
noncomputable def DO (X:Cx)(ξ:XK)(e:Option Expr)(f:Ro->Sto->Out (Option Int)):Prop:= ∃ t:TO,PO X e t/\ ∀ σ ρ H α M (Q:Option Int->Hp->Prop),SR X.K H α σ ρ->HR X.K H α M->OG X.K (fun _ _ v d=>v=d) H α ξ Q (f ρ M)->t σ H Q
noncomputable def oNo:Ro->Sto->Out (Option Int):=fun _ M=> .ok none M
noncomputable def oSo (f:Ev):Ro->Sto->Out (Option Int):=fun ρ M=>(f ρ M).bind fun x M1=>match x with | .int i=> .ok (some i) M1 | _=> .bad
theorem Zag:DO X ξ none oNo:=⟨_,Zk2,fun σ ρ H α M Q s h q=>q none H α Ext.refl h rfl⟩
theorem Zah (ha:DE X ξ e fa):DO X ξ (some e) (oSo fa):=by
 obtain ⟨ta,pa,qa⟩:=ha
 refine ⟨_,Zk3 pa,fun σ ρ H α M Q s h q=> ?_⟩
 refine qa σ ρ H α M _ s h (OG.seq q fun x M1 v H1 α1 e1 h1 r1 q1=> ?_)
 cases r1 with
 |int i=>exact ⟨i,rfl,q1 (some i) H1 α1 Ext.refl h1 rfl⟩
 |_=>exact q1.elim
noncomputable def Zeq (xs:List D)(lo hi:Option Int):List D:=(xs.drop (HT.sIx xs.length 0 lo)).take (HT.sIx xs.length xs.length hi - HT.sIx xs.length 0 lo)
theorem Reps.drop {K:PySem.W.Frag}{H:Hp}{α:List Addr}: ∀ (n:Nat) {vs:List V} {ds:List D},Reps K H α vs ds->Reps K H α (vs.drop n) (ds.drop n)
 |0,_,_,h=>h
 |_ + 1,_,_,.nil=> .nil
 |n + 1,_,_,.cons _ t=>Reps.drop n t
theorem Reps.take {K:PySem.W.Frag}{H:Hp}{α:List Addr}: ∀ (n:Nat) {vs:List V} {ds:List D},Reps K H α vs ds->Reps K H α (vs.take n) (ds.take n)
 |0,_,_,_=> .nil
 |_ + 1,_,_,.nil=> .nil
 |n + 1,_,_,.cons r t=> .cons r (Reps.take n t)
theorem Reps.cut {K:PySem.W.Frag}{H:Hp}{α:List Addr}{vs:List V}{ds:List D}(r:Reps K H α vs ds)(lo hi:Option Int):Reps K H α (Zj6 vs lo hi) (Zeq ds lo hi):=by
 unfold Zj6 Zeq;rw[r.length];exact (r.drop _).take _
noncomputable def eSl (f:Ev)(lo hi:Ro->Sto->Out (Option Int)):Ev:=fun ρ M=>(f ρ M).bind fun x M1=>(lo ρ M1).bind fun l M2=>(hi ρ M2).bind fun u M3=>match x with
 | .ref n=>(match M3[n]? with | some (.lst xs)=> .ok (.ref M3.length) (M3 ++ [.lst (Zeq xs l u)]) | none=> .bad)
 | .rol xs=> .ok (.ref M3.length) (M3 ++ [.lst (Zeq xs l u)])
 | .tup xs=>if HT.sIx xs.length 0 l=0/\HT.sIx xs.length xs.length u=xs.length then .bad else .ok (.tup (Zeq xs l u)) M3
 |_=> .bad
theorem Zai {lo hi:Option Expr}{fl fh:Ro->Sto->Out (Option Int)}{p2:Pos}(he:DE X ξ e fa)(hl:DO X ξ lo fl)(hh:DO X ξ hi fh):DE X ξ (.Subscript e (.Slice lo hi none p2) pos) (eSl fa fl fh):=by
 obtain ⟨ta,pa,qa⟩:=he
 obtain ⟨tl,pl,ql⟩:=hl
 obtain ⟨th,ph,qh⟩:=hh
 refine ⟨_,Zja (SlR.or Zk8 ZmZ) pa pl ph,fun σ ρ H α M Q s h q=> ?_⟩
 refine qa σ ρ H α M _ s h (OG.seq q fun x M1 v H1 α1 e1 h1 r1 q1=> ?_)
 refine ql σ ρ H1 α1 M1 _ (s.mono e1) h1 (OG.seq q1 fun l M2 l' H2 α2 e2 h2 r2 q2=> ?_)
 refine qh σ ρ H2 α2 M2 _ ((s.mono e1).mono e2) h2 (OG.seq q2 fun u M3 u' H3 α3 e3 h3 r3 q3=> ?_)
 cases r2
 cases r3
 cases Rep.mono e3 (Rep.mono e2 r1) with
 | @ref p n hp=>
  cases em:M3[n]? with
  |none=>simp only[em] at q3;exact q3.elim
  |some so=>
   cases so with
   |lst es=>
    simp only[em] at q3;obtain ⟨xs,g1,g2⟩:=h3.at hp em
    exact .inl ⟨p,xs,rfl,SqL.of g1,fun a ha=>q3 _ _ (α3 ++ [a]) (Ext.new ha) (h3.new ha (g2.cut l u)) (.ref ⟨h3.last a,Kn.lst Zv⟩)⟩
 | @rol p xs ds hp rp=>
  have q4:OP X.K H3 α3 ξ Q (.ok (.ref M3.length) (M3 ++ [.lst (Zeq ds l u)])):=q3
  exact .inl ⟨p,xs,rfl,hp.sq,fun a ha=>q4 _ _ (α3 ++ [a]) (Ext.new ha) (h3.new ha (rp.cut l u)) (.ref ⟨h3.last a,Kn.lst Zv⟩)⟩
 | @tup p xs ds hp rp=>
  by_cases c:HT.sIx ds.length 0 l=0/\HT.sIx ds.length ds.length u=ds.length
  ·simp only[if_pos c] at q3
   exact q3.elim
  ·simp only[if_neg c] at q3
   exact .inr ⟨p,xs,rfl,(SqT.of hp),by rw[rp.length];exact c,fun a ha=>q3 _ _ α3 (Ext.new0 ha) (h3.tup ha) (.tup Zv (Reps.mono (Ext.new0 ha) (rp.cut l u)))⟩
 |_=>exact q3.elim
noncomputable def ZpF (M:Sto)(x:D):Option (List D):=match x with | .con _=>none | y=>ZdB M y
theorem ZhJ {M:Sto}{x:D}{ys:List D}(e:ZpF M x=some ys):ZdB M x=some ys/\ ∀ zs,x≠ .con zs:=by
 cases x with
 |con _=>cases e
 |_=>exact ⟨e,fun _ z=>by cases z⟩
noncomputable def bTup:List D->Sto->Out D:=fun ds M=>match ds with
 | [x]=>match ZpF M x with | some xs=> .ok (.tup xs) M | none=> .bad
 |_=> .bad
theorem Zer:CO X ξ (fun xs H Q=> ∃ p ys,xs=[.ref p]/\((SqL X.K H p ys/\ ∀ l,H l=none->Q (.ref l) (upd H l (.tup ys)))\/(SqT X.K H p ys/\Q (.ref p) H))) bTup:=by
 intro H α M vs ds Q h rs q;unfold bTup at q
 match rs with
 | .nil=>exact q.elim
 | .cons _ (.cons _ _)=>exact q.elim
 | .cons (d:=x) r .nil=>
  cases e:ZpF M x with
  |none=>simp only[e] at q;exact q.elim
  |some ys=>
   simp only[e] at q;obtain ⟨p,xs,rfl,h2,h3⟩:=Zjj h r (ZhJ e).1 (ZhJ e).2
   rcases h2 with h2 | h2
   ·exact ⟨p,xs,rfl,.inl ⟨h2,fun l hl=>q _ _ α (Ext.new0 hl) (h.tup hl) (.tup Zv (Reps.mono (Ext.new0 hl) h3))⟩⟩
   ·exact ⟨p,xs,rfl,.inr ⟨SqT.of h2,q _ H α Ext.refl h (.tup h2 h3)⟩⟩
noncomputable def iR2 (fs:Av):Ro->Sto->Out Src:=fun ρ M=>(fs ρ M).bind fun ds M1=>match ds with
 | [.int i,.int j]=>if -(2 ^ 62)<=i/\i < 2 ^ 62/\ -(2 ^ 62)<=j/\j < 2 ^ 62 then .ok (.pur (Zbq i (j - i).toNat)) M1 else .bad
 |_=> .bad
end
noncomputable def eRv (f:Ev):Ev:=fun ρ M=>(f ρ M).bind fun x M1=>match x with
 | .tup xs=> .ok (.tup xs.reverse) M1
 | .ref n=>(match M1[n]? with | some (.lst xs)=> .ok (.ref M1.length) (M1 ++ [.lst xs.reverse]) | none=> .bad)
 | .rol xs=> .ok (.ref M1.length) (M1 ++ [.lst xs.reverse])
 |_=> .bad
end DL
end
section
namespace DL
open PySem PySem.Spec PyProof.Rows L2
noncomputable def Ze1 (tg:Tg)(g:Sv)(src:Src):Nat->Nat->Ro->Sto->Fl
 |f,i,ρ,M=>match nxt src i M with
  |none=> .bad
  |some none=> .nx ρ M
  |some (some d)=>(match f with
   |0=> .bad
   |f + 1=>(match tg d ρ with
    |none=> .bad
    |some ρ1=>(match g ρ1 M with
     | .nx ρ2 M2=>Ze1 tg g src f (i + 1) ρ2 M2
     | .cnt ρ2 M2=>Ze1 tg g src f (i + 1) ρ2 M2
     | .brk ρ2 M2=> .nx ρ2 M2
     |o=>o)))
noncomputable def ZdF (tg:Tg)(fi:Ro->Sto->Out Src)(g:Sv):Sv:=fun ρ M=>Zar (fi ρ M) fun src M1=>Ze1 tg g src (cnt src M1) 0 ρ M1
section
variable {X:Cx}{ξ:XK}{tg iter a b:Expr}{gt:Tg}{fi:Ro->Sto->Out Src}{g:Sv}{body:List Stmt}{f fa fb:Ev}{fs:Av}{p pos:Pos}
theorem ZdG (hp:PassesOwn (model X.prog X.w) X.A X.env X.xe)(hi:DI X ξ tg iter fi)(hg:DG X tg gt)(hb:DSs X ξ body g)(hf: ∀ x,foldedSetIterable iter X.env x=pure x:=by intro _;rfl):DS X ξ (.For tg iter body [] pos) (ZdF gt fi g):=by
 obtain ⟨wi,pi,qi⟩:=hi
 obtain ⟨tt,pt,qt⟩:=hg
 obtain ⟨tb,pb,qb⟩:=hb
 refine ⟨_,Zg1 hp pi pt pb hf,fun σ ρ H α M Dn s hh w=>qi σ ρ H α M _ s hh (FP.seq w fun src M1 J H1 α1 e1 h1 sc w1=> ?_)⟩
 generalize eo:Ze1 gt g src (cnt src M1) 0 ρ M1=o at w1;refine ⟨fun i m σ' H'=> ∃ ρ' α' M',Ext X.K H1 H' α1 α'/\SR X.K H' α' σ' ρ'/\HR X.K H' α' M'/\Ze1 gt g src m i ρ' M'=o,⟨cnt src M1,ρ,α1,M1,Ext.refl,s.mono e1,h1,eo⟩,?_⟩
 rintro i m σ' H' ⟨ρ',α',M',ex,sr,hr,en⟩
 have s5:=sc i H' α' M' ex hr
 unfold Ze1 at en;cases en1:nxt src i M' with
 |none=>rw[en1] at en;cases en;exact w1.elim
 |some od=>
  rw[en1] at en s5;cases od with
  |none=>cases en;exact .inl ⟨s5,w1 σ' H' α' ex hr sr⟩
  |some d=>
   obtain ⟨go,yl⟩:=s5
   cases m with
   |zero=>cases en;exact w1.elim
   |succ m=>
    simp only at en
    refine .inr ⟨go,fun σ2 H2=> ∃ ρ' α' M',Ext X.K H1 H2 α1 α'/\SR X.K H2 α' σ2 ρ'/\HR X.K H2 α' M'/\Ze1 gt g src m (i + 1) ρ' M'=o,fun σ2 H2 z=>⟨m,Nat.lt_succ_self m,z⟩,fun x H2 y=> ?_⟩
    obtain ⟨ex7,hr7,rp7⟩:=yl x H2 y
    exact Zjm (tg:=tg) w1 qt qb (ex.trans ex7) (sr.mono ex7) hr7 rp7 en (fun σ' H' z=>z)
end
theorem ZhK {X:Cx}{pins:List (Addr × Obj)}{σ:L2.St}{H:Hp}{s:Shared}{h':Heap}{t':Nat}{ch:List Addr}(I:Inv X pins σ H s)(k: ∀ b o,b ∉ ch->s.heap.get? b=some o->h'.get? b=some o)(hf: ∀ b∈ch,Zd6 X pins H b):Inv X pins σ H { s with heap:=h',toks:=t' }:=by
 have nit: ∀ b u,H b=some u->b ∉ ch:=fun b u e z=>by rw[(hf b z).1] at e;cases e
 have hL:X.env.locals ∉ ch:=fun z=>(hf _ z).2.1 rfl
 refine I.step (g':=s.gens) (d':=s.drawn) (ch:=ch) (fun b hb=> ?_) (fun b o _ _ hc e _=>k b o hc e) (fun b o _ _ hc e _=>⟨o.slots,k b o hc e⟩) (fun _ _ _ _ n=>n)
  (fun b o hc e=>⟨o,k b o hc e⟩) (fun _ _ e=>e) (fun _ _ _ e=>e) (fun b ps e=>⟨#[],by rw[e];simp⟩) (fun m hm=> ?_) (fun b u e=> ?_) I.bare
 ·obtain ⟨_,z1,_,z3,z4,z5⟩:=hf b hb
  exact ⟨z3,z1,z4,z5⟩
 ·obtain ⟨o,es,ep,ho,r⟩:=hm
  exact ⟨o,es,ep,k _ o hL ho,r⟩
 ·refine (I.hok b u e).stay (fun c v hc q=>k c v ?_ q) (fun _ q=>q) fun _ _ q=>q
  rcases hc with z | z
  ·rw[z];exact nit b u e
  ·exact nit c _ z
theorem Zkm {X:Cx}{pins:List (Addr × Obj)}{σ:L2.St}{H:Hp}{s:Shared}{h':Heap}{t':Nat}{ch:List Addr}{vs:List V}{us:List Value}(I:Inv X pins σ H s)(hf: ∀ b∈ch,Zd6 X pins H b)(hlt: ∀ b∈ch,b < s.heap.objs.size)(rv:ZX vs us)(hz:vs.length<=sizeLine)
  (k: ∀ b o,b ∉ ch->s.heap.get? b=some o->h'.get? b=some o) (ht:h'.get? s.heap.objs.size=some { cls:= .type "tuple",data:= .seq us.toArray }):
  Inv X pins σ (upd H s.heap.objs.size (.tup vs)) { s with heap:=h',toks:=t' }/\H s.heap.objs.size=none/\ ∀ b∈ch,upd H s.heap.objs.size (.tup vs) b=none:=by
 have fr:H s.heap.objs.size=none:=I.hok.fresh (Nat.le_refl _)
 have hn: ∀ b∈ch,upd H s.heap.objs.size (.tup vs) b=none:=fun b hb=>by rw[Zu (Nat.ne_of_lt (hlt b hb))];exact (hf b hb).1
 have I1:Inv X pins σ (upd H s.heap.objs.size (.tup vs)) { s with heap:=s.heap.push { cls:= .type "tuple",data:= .seq us.toArray },toks:=t' }:=
  I.laid (t':=t') (o:= .tup vs) (fun _ _ q=>Heap.get?_push_of_some _ q) (Nat.le_refl _) ⟨hz,us,rv,_,Heap.get?_push_size _ rfl,rfl,_,rfl⟩
 refine ⟨ZhK (s:={ s with heap:=s.heap.push { cls:= .type "tuple",data:= .seq us.toArray },toks:=t' }) (t':=t') (ch:=ch) I1 (fun b o hb e=> ?_) (fun b hb=>⟨hn b hb,(hf b hb).2⟩),fr,hn⟩
 by_cases c:b=s.heap.objs.size
 ·subst c
  have e':(s.heap.push { cls:= .type "tuple",data:= .seq us.toArray }).get? s.heap.objs.size=some o:=e
  rw[Heap.get?_push_size _ rfl] at e'
  cases e'
  exact ht
 ·refine k b o hb ?_
  have e':(s.heap.push { cls:= .type "tuple",data:= .seq us.toArray }).get? b=some o:=e
  have hl:b < s.heap.objs.size:=by
   have q:b < s.heap.objs.size + 1:=by
    have z:=Heap.lt_size e'
    rwa [Heap.size_push] at z
   exact Nat.lt_of_le_of_ne (Nat.le_of_lt_succ q) c
  have q:(s.heap.push { cls:= .type "tuple",data:= .seq us.toArray }).get? b=s.heap.get? b:=by
   unfold Heap.get? Heap.push;simp only[Array.getElem?_push]
   rw[if_neg (Nat.ne_of_lt hl)]
  rwa [q] at e'
noncomputable def Ite (K:PySem.W.Frag)(a:Addr):It:=
 ⟨fun i H=> ∃ xs x,SqL K H a xs/\xs[i]?=some x,fun i H y H'=> ∃ p,H p=none/\y= .ref p/\ ∀ xs x,SqL K H a xs->xs[i]?=some x->H'=upd H p (.tup [.int i,x]),fun i H=> ∃ xs,SqL K H a xs/\xs.length<=i⟩
noncomputable def Itz (K:PySem.W.Frag)(a b:Addr):It:=
 ⟨fun i H=> ∃ xs ys x y,SqL K H a xs/\SqL K H b ys/\xs[i]?=some x/\ys[i]?=some y,fun i H v H'=> ∃ p,H p=none/\v= .ref p/\ ∀ xs ys x y,SqL K H a xs->SqL K H b ys->xs[i]?=some x->ys[i]?=some y->H'=upd H p (.tup [x,y]),
  fun i H=> ∃ xs ys,SqL K H a xs/\SqL K H b ys/\(xs.length<=i\/ys.length<=i)⟩
theorem ZhL {P:Program}{w:World}{K:PySem.W.Frag}{B:Around}{elts:List Expr}{k0:Nat}{tp:Pos}(hB:B.handled=none)(a e it:Addr)(hne:e≠it):
  Turn P w K B (.Tuple elts k0 tp) (Ite K a) [e,it] e (fun i h=>(∃ old,IsEnum h e it (i:Int) old)/\h.IsListIter it a i) where
 mem:=by simp
 obj:=fun i h st b hb=>by
  obtain ⟨⟨old,h1⟩,o,e2,c2,d2⟩:=st
  rcases List.mem_cons.mp hb with z | z
  ·subst z;exact ⟨_,h1,fun v z=>by cases z⟩
  ·have z':b=it:=by simpa using z
   subst z';exact ⟨o,e2,fun v z=>by rw[d2] at z;cases z⟩
 keep:=fun i h h' st k=>⟨let ⟨old,z⟩:=st.1;⟨old,k e (by simp) _ z⟩,st.2.at fun o z=>k it (by simp) o z⟩
 item:=by
  intro X hP hw hK hA i pins s σ H E I hf st hg;subst hP hw hK hA;obtain ⟨⟨old,h1⟩,h2⟩:=st
  obtain ⟨xs,x,hq,hx⟩:=hg
  obtain ⟨its,rv,p,hz⟩:=I.list hq
  obtain ⟨u,hu,ru⟩:=rv.get hx
  have lt: ∀ b∈[e,it],b < s.heap.objs.size:=fun b hb=>by
   rcases List.mem_cons.mp hb with z | z
   ·subst z;exact Heap.lt_size h1
   ·have z':b=it:=by simpa using z
    subst z';obtain ⟨o,e2,_⟩:=h2
    exact Heap.lt_size e2
  refine wpAny_pyNext_enum_item h1 h2 p.isList (x:=u) (by simpa using hu) hne fun h' o1 o2 o3 o4 o5=>⟨_,rfl,?_⟩
  refine wpAny_letOwnedTupleGo_enum (s:={ s with heap:=h',toks:=s.toks + 1 }) o1 fun h'' q1 q2=> ?_
  have pe:s.heap.objs.size≠e:=Nat.ne_of_gt (lt e (by simp))
  have ie:it≠e:=Ne.symm hne
  obtain ⟨J1,J2,J3⟩:=Zkm (h':=h'') (t':=s.toks + 1) (ch:=[e,it]) (vs:=[.int i,x]) (us:=[.int i s.toks,u]) I hf lt (.cons ⟨_,rfl⟩ (.cons ru .nil)) (by show 2<=sizeLine;decide)
   (fun b o hb z=>by
    have n1:b≠e:=fun y=>hb (by simp[y])
    have n2:b≠it:=fun y=>hb (by simp[y])
    exact (q2.2 b n1).trans (o5 b o n1 n2 z)) ((q2.2 _ pe).trans o3)
  refine ⟨.ref s.heap.objs.size,_,J1,rfl,⟨_,J2,rfl,fun ys y hy hy2=> ?_⟩,⟨⟨u,by simpa using q1⟩,o2.at fun o z=>(q2.2 it ie).trans z⟩,J3⟩
  rw[I.list_inj hy hq,hx] at hy2;cases hy2
  rfl
 done:=by
  intro X hP hw hK hA i pins s σ H E I hf st hg;subst hP hw hK hA;obtain ⟨⟨old,h1⟩,h2⟩:=st
  obtain ⟨xs,hq,hx⟩:=hg
  obtain ⟨its,rv,p,hz⟩:=I.list hq
  obtain ⟨f0,f1,f2,f3,f4,f5⟩:=hf it (by simp)
  refine wpAny_pyNext_enum_end hB h1 h2 p.isList (by simp only[List.getElem?_toArray];exact List.getElem?_eq_none (by rw[<- rv.length];exact hx)) fun h' ext=>⟨rfl,?_⟩
  exact I.turned (t':=s.toks) (it:=it) (fun b o hb z=>ext b o hb z) f0 f1 f3 f4 f5
 self:=fun A i s Q E st q=>by
  obtain ⟨⟨old,h1⟩,_⟩:=st
  have hT:s.TypeIs (.ref e) "enumerate":=⟨_,h1,rfl⟩
  refine wpAny_pyIter_slot hT F.slot_enumerate_iter (wpAny_call_entry F.slot_enumerate_iter hT F.entry_enumerate_iter ?_ (F.args_enumerate_iter_1 _))
  show wpAny _ _ (ret (.ref e)) _ _ s
  exact wpAny_pure ⟨_,rfl,"enumerate",_,hT,F.slot_enumerate_next.lookup,q⟩
theorem ZpG {P:Program}{w:World}{K:PySem.W.Frag}{B:Around}{elts:List Expr}{k0:Nat}{tp:Pos}(hB:B.handled=none){z TI TO i1 i2 a b:Addr}(D:ZipApart z TI TO i1 i2 a b):
  Turn P w K B (.Tuple elts k0 tp) (Itz K a b) [z,TI,TO,i1,i2] z (fun i h=>IsZip h z TI TO .none/\IsPair h TI (.ref i1) (.ref i2)/\(∃ x y,IsPair h TO x y)/\h.IsListIter i1 a i/\h.IsListIter i2 b i) where
 mem:=by simp
 obj:=fun i h st c hc=>by
  obtain ⟨h1,h2,⟨x,y,h3⟩,⟨o4,e4,c4,d4⟩,⟨o5,e5,c5,d5⟩⟩:=st
  simp only[List.mem_cons,List.not_mem_nil,or_false] at hc
  rcases hc with rfl | rfl | rfl | rfl | rfl
  ·exact ⟨_,h1,fun v q=>by cases q⟩
  ·exact ⟨_,h2,fun v q=>by cases q⟩
  ·exact ⟨_,h3,fun v q=>by cases q⟩
  ·exact ⟨o4,e4,fun v q=>by rw[d4] at q;cases q⟩
  ·exact ⟨o5,e5,fun v q=>by rw[d5] at q;cases q⟩
 keep:=fun i h h' st k=>by
  obtain ⟨h1,h2,⟨x,y,h3⟩,h4,h5⟩:=st
  exact ⟨k z (by simp) _ h1,k TI (by simp) _ h2,⟨x,y,k TO (by simp) _ h3⟩,h4.at fun o q=>k i1 (by simp) o q,h5.at fun o q=>k i2 (by simp) o q⟩
 item:=by
  intro X hP hw hK hA i pins s σ H E I hf st hg;subst hP hw hK hA;obtain ⟨h1,h2,⟨x0,y0,h3⟩,h4,h5⟩:=st
  obtain ⟨xs,ys,x,y,hq,hq2,hx,hy⟩:=hg
  obtain ⟨its,rv,p,hz⟩:=I.list hq
  obtain ⟨its2,rv2,p2,hz2⟩:=I.list hq2
  obtain ⟨u,hu,ru⟩:=rv.get hx
  obtain ⟨u2,hu2,ru2⟩:=rv2.get hy
  have lt: ∀ c∈[z,TI,TO,i1,i2],c < s.heap.objs.size:=fun c hc=>by
   simp only[List.mem_cons,List.not_mem_nil,or_false] at hc
   rcases hc with rfl | rfl | rfl | rfl | rfl
   ·exact Heap.lt_size h1
   ·exact Heap.lt_size h2
   ·exact Heap.lt_size h3
   ·obtain ⟨o,e2,_⟩:=h4;exact Heap.lt_size e2
   ·obtain ⟨o,e2,_⟩:=h5;exact Heap.lt_size e2
  refine wpAny_pyNext_zip_item D h1 h2 h3 h4 h5 p.isList p2.isList (x:=u) (y:=u2) (by simpa using hu) (by simpa using hu2) fun h' o1 o2 o3 o4 o5 o6 o7=>⟨_,rfl,?_⟩
  refine wpAny_letOwnedTupleGo_zip (s:={ s with heap:=h' }) o1 fun h'' q1 q2=> ?_
  have pe:s.heap.objs.size≠z:=Nat.ne_of_gt (lt z (by simp))
  obtain ⟨J1,J2,J3⟩:=Zkm (h':=h'') (t':=s.toks) (ch:=[z,TI,TO,i1,i2]) (vs:=[x,y]) (us:=[u,u2]) I hf lt (.cons ru (.cons ru2 .nil)) (by show 2<=sizeLine;decide)
   (fun c o hc q=>by
    simp only[List.mem_cons,List.not_mem_nil,or_false,not_or] at hc;exact (q2.2 c hc.1).trans (o7 c o hc.1 hc.2.2.1 hc.2.2.2.1 hc.2.2.2.2 q)) ((q2.2 _ pe).trans o5)
  refine ⟨.ref s.heap.objs.size,_,J1,rfl,⟨_,J2,rfl,fun xs' ys' x' y' hx1 hy1 hx2 hy2=> ?_⟩,⟨q1,(q2.2 TI D.TIz).trans (o7 TI _ D.TIz D.TITO D.TIi1 D.TIi2 h2),⟨u,u2,(q2.2 TO D.TOz).trans o2⟩,o3.at fun o q=>(q2.2 i1 D.i1z).trans q,o4.at fun o q=>(q2.2 i2 D.i2z).trans q⟩,J3⟩
  rw[I.list_inj hx1 hq,hx] at hx2;rw[I.list_inj hy1 hq2,hy] at hy2;cases hx2
  cases hy2
  rfl
 done:=by
  intro X hP hw hK hA i pins s σ H E I hf st hg;subst hP hw hK hA;obtain ⟨h1,h2,⟨x0,y0,h3⟩,h4,h5⟩:=st
  obtain ⟨xs,ys,hq,hq2,hx⟩:=hg
  obtain ⟨its,rv,p,hz⟩:=I.list hq
  obtain ⟨its2,rv2,p2,hz2⟩:=I.list hq2
  have he:its.toArray[i]?=none\/its2.toArray[i]?=none:=by
   rcases hx with hx | hx
   ·exact .inl (by simp only[List.getElem?_toArray];exact List.getElem?_eq_none (by rw[<- rv.length];exact hx))
   ·exact .inr (by simp only[List.getElem?_toArray];exact List.getElem?_eq_none (by rw[<- rv2.length];exact hx))
  refine wpAny_pyNext_zip_end hB D h1 h2 h3 h4 h5 p.isList p2.isList he fun h' keep=>⟨rfl,?_⟩
  refine ZhK (t':=s.toks) (ch:=[z,TI,TO,i1,i2]) I (fun c o hc q=> ?_) hf
  simp only[List.mem_cons,List.not_mem_nil,or_false,not_or] at hc;exact keep c o hc.1 hc.2.2.1 hc.2.2.2.1 hc.2.2.2.2 q
 self:=fun A i s Q E st q=>wpAny_pyIter_zip st.1 q
theorem Zes:bootBuiltins "enumerate"=some (.type "enumerate"):=by decide +kernel
section
variable {X:Cx}{ξ:XK}{a b:Expr}{elts:List Expr}{k0:Nat}{tp:Pos}{fa:Ev}{fs:Av}{p pos:Pos}{ta:TA}
noncomputable def Zqc (K:PySem.W.Frag)(t:TA):TI:=fun σ H R=>t σ H fun vs H1=> ∃ l xs,vs=[.ref l]/\SqL K H1 l xs/\R (Ite K l) H1
theorem Zlr (hc:X.A.handled=none)(hg:Gl X "enumerate")(hm:X.mg "enumerate"=none)(ha:PA X [a] ta)(hs:starEach [a] X.env=(false,eval a X.env) :: starEach [] X.env:=by rfl)(hpl:(backTo pos (starEach [] X.env)).any (·.1)=false:=by rfl):
  PI X (.Tuple elts k0 tp) (.Call (.Name "enumerate" p) [a] [] pos) (Zqc X.K ta):=by
 intro pins s σ H R I h;refine wpAny_Call_Name_kw (Zcn I hg hm Zes (PyProof.Rows.callWith_type1 (thn (ha pos pins s σ H _ I h) fun us s1 ⟨vs,H1,I1,r1,q1⟩=> ?_) hs hpl) (by decide) (by decide))
 obtain ⟨l,xs,rfl,hq,q⟩:=q1
 obtain ⟨u,rfl,ru⟩:=ZcO r1
 cases ru
 obtain ⟨its,rv,pl,hz⟩:=I1.list hq
 refine call_enumerate_list pl.isList fun h' e1 e2 e3 e4=> ?_
 have T:=ZhL (P:=X.prog) (w:=X.w) (K:=X.K) (B:=X.A) (elts:=elts) (k0:=k0) (tp:=tp) hc l (s1.heap.objs.size + 1) s1.heap.objs.size (Nat.ne_of_gt (Nat.lt_succ_self _))
 have I2:Inv X pins σ H1 { s1 with heap:=h',toks:=s1.toks }:=I1.kept (t':=s1.toks) e4
 refine T.self X.A 0 { s1 with heap:=h' } _ _ ⟨⟨_,e1⟩,e2⟩ ⟨_,_,_,_,H1,rfl,I2,T,⟨⟨_,e1⟩,e2⟩,fun b hb=> ?_,q⟩
 have hb':s1.heap.objs.size<=b:=by
  simp only[List.mem_cons,List.not_mem_nil,or_false] at hb
  rcases hb with rfl | rfl<;>omega
 exact I1.fpOk hb' (I1.hok.fresh hb')
noncomputable def iEn (fs:Av):Ro->Sto->Out Src:=fun ρ M=>(fs ρ M).bind fun ds M1=>match ds with | [.ref n]=> .ok (.enu n) M1 | _=> .bad
noncomputable def iZp (fs:Av):Ro->Sto->Out Src:=fun ρ M=>(fs ρ M).bind fun ds M1=>match ds with | [.ref n,.ref m]=> .ok (.zip n m) M1 | _=> .bad
theorem ZcV (hc:X.A.handled=none)(hm:X.mg "enumerate"=none)(ha:DA X ξ [a] fs)(hg:Gl X "enumerate":=by rfl)(hs:starEach [a] X.env=(false,eval a X.env) :: starEach [] X.env:=by rfl)(hpl:(backTo pos (starEach [] X.env)).any (·.1)=false:=by rfl):
  DI X ξ (.Tuple elts k0 tp) (.Call (.Name "enumerate" p) [a] [] pos) (iEn fs):=by
 obtain ⟨ta,pa,qa⟩:=ha
 refine ⟨_,Zlr hc hg hm pa hs hpl,fun σ ρ H α M R s hh q=>qa σ ρ H α M _ s hh (OG.seq q fun ds M1 vs H1 α1 e1 h1 r1 w1=> ?_)⟩
 match r1 with
 | .nil=>exact w1.elim
 | .cons r (.cons _ _)=>cases r<;>exact w1.elim
 | .cons r .nil=>
  cases r with
  | @ref l n hp=>
   obtain ⟨xs0,g0⟩:=h1.some_at hp
   refine ⟨l,xs0,rfl,SqL.of g0,w1 _ H1 α1 Ext.refl h1 fun i H' α' M' ex hr=> ?_⟩
   cases em:M'[n]? with
   |none=>rw[show nxt (.enu n) i M'=none by simp only[nxt,em]];exact True.intro
   |some so=>
    cases so with
    |lst es=>
     obtain ⟨xs,g1,g2⟩:=hr.at (ex.get hp) em
     cases ei:es[i]? with
     |none=>rw[show nxt (.enu n) i M'=some none by simp only[nxt,em,ei]];exact ⟨xs,SqL.of g1,by rw[g2.length];exact List.getElem?_eq_none_iff.mp ei⟩
     |some d=>
      obtain ⟨v,k1,k2⟩:=g2.get ei
      rw[show nxt (.enu n) i M'=some (some (D.tup [D.int i,d])) by simp only[nxt,em,ei]]
      refine ⟨⟨xs,v,SqL.of g1,k1⟩,fun x H'' y=> ?_⟩
      obtain ⟨pp,y1,rfl,y3⟩:=y
      have y4:=y3 xs v (SqL.of g1) k1
      subst y4;exact ⟨Ext.new0 y1,hr.tup y1,.tup Zv (.cons (.int i) (.cons (Rep.mono (Ext.new0 y1) k2) .nil))⟩
  |_=>exact w1.elim
end
end DL
end
section
namespace DL
open PySem PySem.Spec PyProof.Rows L2
open PySem.SeqAt (EqAt RcAt RcNeAt)
inductive Ks (X:Cx) (H:Hp) (α:List Addr):Kd->Kd->Prop where
 |non:Ks X H α .non .non
 |bl (b:Bool):Ks X H α (.bl b) (.bl b)
 |int (i:Int):Ks X H α (.int i) (.int i)
 |str (x:Str):Ks X H α (.str x) (.str x)
 |tup {vs:List V} {ds es:List D}:Reps X.K H α vs ds->Reps X.K H α vs es->Ks X H α (.tup ds) (.tup es)
 |lst {vs:List V} {ds es:List D}:Reps X.K H α vs ds->Reps X.K H α vs es->Ks X H α (.lst ds) (.lst es)
section
variable {X:Cx}{ξ:XK}{pins:List (Addr × Obj)}{σ:L2.St}{H:Hp}{s:Shared}{α:List Addr}{M:Sto}
theorem ZnA (h:HR X.K H α M){v:V}{x:D}{k:Kd}(r:Rep X.K H α v x)(e:kd M x=some k):
  (match k with | .tup ds=> ∃ p vs,v= .ref p/\SqT X.K H p vs/\Reps X.K H α vs ds | .lst ds=> ∃ p vs,v= .ref p/\SqL X.K H p vs/\Reps X.K H α vs ds | .non=>v= .non | .bl b=>v= .bl b | .int i=>v= .int i | .str x=>v= .str x):=by
 cases r with
 |non=>cases e;rfl
 |bl b=>cases e;rfl
 |int i=>cases e;rfl
 |str x=>cases e;rfl
 |err _ _ _=>cases e
 |dk _=>cases e
 |dt _=>cases e
 |fn _=>cases e
 | @tup p xs ds hp rp=>cases e;exact ⟨p,xs,rfl,(SqT.of hp),rp⟩
 | @con p xs ds hp rp=>cases e;exact ⟨p,xs,rfl,hp.sq,rp⟩
 | @rol p xs ds hp rp=>cases e;exact ⟨p,xs,rfl,hp.sq,rp⟩
 | @ref p n hp=>
  cases e1:M[n]? with
  |none=>simp only[kd,e1] at e;cases e
  |some o=>
   cases o with
   |lst ds=>
    simp only[kd,e1] at e;cases e
    obtain ⟨xs,g1,r1⟩:=h.at hp e1
    exact ⟨p,xs,rfl,SqL.of g1,r1⟩
theorem ZhM (I:Inv X pins σ H s)(h:HR X.K H α M){v:V}{x y:D}{k l:Kd}(rx:Rep X.K H α v x)(ry:Rep X.K H α v y)(ex:kd M x=some k)(ey:kd M y=some l):Ks X H α k l:=by
 have a:=ZnA h rx ex
 have b:=ZnA h ry ey
 have nl: ∀ {p:Addr} {xs ys:List V},SqT X.K H p xs->SqL X.K H p ys->False:=fun {p xs ys} a c=>by
  obtain ⟨i1,_,⟨o1,g1,c1,_⟩,_⟩:=I.tuple a
  obtain ⟨i2,_,⟨o2,_,g2,c2,_⟩,_⟩:=I.list c
  rw[g1] at g2;cases g2
  rw[c1] at c2;exact absurd c2 (by decide)
 cases k with
 |non=>cases a;cases l<;>first | (cases b;done) | exact .non | (obtain ⟨_,_,q,_⟩:=b;cases q)
 |bl c=>cases a;cases l<;>first | (cases b;done) | (cases b;exact .bl c) | (obtain ⟨_,_,q,_⟩:=b;cases q)
 |int c=>cases a;cases l<;>first | (cases b;done) | (cases b;exact .int c) | (obtain ⟨_,_,q,_⟩:=b;cases q)
 |str c=>cases a;cases l<;>first | (cases b;done) | (cases b;exact .str c) | (obtain ⟨_,_,q,_⟩:=b;cases q)
 |tup ds=>
  obtain ⟨p,vs,rfl,q1,q2⟩:=a
  cases l with
  |tup es=>
   obtain ⟨p2,vs2,e2,q3,q4⟩:=b
   cases e2
   cases I.tuple_inj q1 q3
   exact .tup q2 q4
  |lst es=>
   obtain ⟨p2,vs2,e2,q3,q4⟩:=b
   cases e2
   exact (nl q1 q3).elim
  |_=>cases b
 |lst ds=>
  obtain ⟨p,vs,rfl,q1,q2⟩:=a
  cases l with
  |lst es=>
   obtain ⟨p2,vs2,e2,q3,q4⟩:=b
   cases e2
   cases I.list_inj q1 q3
   exact .lst q2 q4
  |tup es=>
   obtain ⟨p2,vs2,e2,q3,q4⟩:=b
   cases e2
   exact (nl q3 q1).elim
  |_=>cases b
theorem Zkn (I:Inv X pins σ H s)(h:HR X.K H α M): ∀ (n:Nat) {v w:V} {x x' y y':D} {b b':Bool},Rep X.K H α v x->Rep X.K H α v x'->Rep X.K H α w y->Rep X.K H α w y'->eqF n M x y=some b->eqF n M x' y'=some b'->b=b':=by
 intro n
 induction n with
 |zero=>intro v w x x' y y' b b' _ _ _ _ e;simp only[eqF] at e;cases e
 |succ n ih=>
  have lists: ∀ (vs ws:List V) (xs xs' ys ys':List D) (b b':Bool),Reps X.K H α vs xs->Reps X.K H α vs xs'->Reps X.K H α ws ys->Reps X.K H α ws ys'->eqL (eqF n M) xs ys=some b->eqL (eqF n M) xs' ys'=some b'->b=b':=by
   intro vs
   induction vs with
   |nil=>
    intro ws xs xs' ys ys' b b' r1 r2 r3 r4 e e';cases r1;cases r2
    cases r3 with
    |nil=>cases r4;simp only[eqL,Option.some.injEq] at e e';rw[<- e,<- e']
    |cons _ _=>cases r4;simp only[eqL,Option.some.injEq] at e e';rw[<- e,<- e']
   |cons v vs iv=>
    intro ws xs xs' ys ys' b b' r1 r2 r3 r4 e e';cases r1 with
    |cons p1 t1=>
     cases r2 with
     |cons p2 t2=>
      cases r3 with
      |nil=>cases r4;simp only[eqL,Option.some.injEq] at e e';rw[<- e,<- e']
      |cons p3 t3=>
       cases r4 with
       |cons p4 t4=>
        rename_i d1 ds1 d2 ds2 w d3 ws ds3 d4 ds4;cases a1:eqF n M d1 d3 with
        |none=>simp only[eqL,a1] at e;cases e
        |some a=>
         cases a2:eqF n M d2 d4 with
         |none=>simp only[eqL,a2] at e';cases e'
         |some a'=>
          cases c1:eqL (eqF n M) ds1 ds3 with
          |none=>simp only[eqL,a1,c1] at e;cases e
          |some c=>
           cases c2:eqL (eqF n M) ds2 ds4 with
           |none=>simp only[eqL,a2,c2] at e';cases e'
           |some c'=>
            simp only[eqL,a1,c1,Option.some.injEq] at e;simp only[eqL,a2,c2,Option.some.injEq] at e';rw[<- e,<- e',ih p1 p2 p3 p4 a1 a2,iv _ _ _ _ _ _ _ t1 t2 t3 t4 c1 c2]
  intro v w x x' y y' b b' rx rx' ry ry' e e';unfold eqF at e e';cases k1:kd M x with
  |none=>rw[k1] at e;cases e
  |some ka=>
   cases k2:kd M y with
   |none=>rw[k1,k2] at e;cases e
   |some kb=>
    cases k3:kd M x' with
    |none=>rw[k3] at e';cases e'
    |some ka'=>
     cases k4:kd M y' with
     |none=>rw[k3,k4] at e';cases e'
     |some kb'=>
      rw[k1,k2] at e;rw[k3,k4] at e';have s1:=ZhM I h rx rx' k1 k3
      have s2:=ZhM I h ry ry' k2 k4
      cases s1 with
      |tup a1 a2=>
       cases s2 with
       |tup b1 b2=>simp only[eqK] at e e';exact lists _ _ _ _ _ _ _ _ a1 a2 b1 b2 e e'
       |_=>simp only[eqK,Option.some.injEq] at e e';rw[<- e,<- e']
      |lst a1 a2=>
       cases s2 with
       |lst b1 b2=>
        simp only[eqK] at e e';rw[<- a1.length,<- b1.length] at e;rw[<- a2.length,<- b2.length] at e'
        split at e
        ·rename_i c
         rw[if_pos c] at e';exact lists _ _ _ _ _ _ _ _ a1 a2 b1 b2 e e'
        ·rename_i c
         rw[if_neg c] at e';cases e;cases e';rfl
       |_=>simp only[eqK,Option.some.injEq] at e e';rw[<- e,<- e']
      |_=>cases s2<;>(simp only[eqK,Option.some.injEq] at e e';rw[<- e,<- e'])
noncomputable def eqs (M:Sto)(d:D):List D->Option (List Bool)
 | []=>some []
 |x :: r=>match eqF 12 M x d with | some b=>(match eqs M d r with | some bs=>some (b :: bs) | none=>none) | none=>none
theorem ZhN: ∀ {M:Sto} {d:D} {xs:List D} {bs:List Bool},eqs M d xs=some bs->bs.length=xs.length
 |_,_,[],_,e=>by cases e;rfl
 |M,d,x :: r,bs,e=>by
  cases e1:eqF 12 M x d with
  |none=>simp only[eqs,e1] at e;cases e
  |some b=>
   cases e2:eqs M d r with
   |none=>simp only[eqs,e1,e2] at e;cases e
   |some cs=>simp only[eqs,e1,e2,Option.some.injEq] at e;subst e;rw[List.length_cons,List.length_cons,ZhN e2]
theorem ZhO: ∀ {M:Sto} {d:D} {xs:List D} {bs:List Bool} {i:Nat} {x:D},eqs M d xs=some bs->xs[i]?=some x-> ∃ b,bs[i]?=some b/\eqF 12 M x d=some b
 |_,_,[],_,i,x,e,hx=>by simp at hx
 |M,d,y :: r,bs,i,x,e,hx=>by
  cases e1:eqF 12 M y d with
  |none=>simp only[eqs,e1] at e;cases e
  |some b=>
   cases e2:eqs M d r with
   |none=>simp only[eqs,e1,e2] at e;cases e
   |some cs=>
    simp only[eqs,e1,e2,Option.some.injEq] at e;subst e;cases i with
    |zero=>simp at hx;subst hx;exact ⟨b,rfl,e1⟩
    |succ i=>simp at hx;obtain ⟨b',q1,q2⟩:=ZhO e2 hx;exact ⟨b',by simpa using q1,q2⟩
open Classical in
theorem Zls {A:Around}(hu:A.units + 64 < cLine)(I:Inv X pins σ H s)(h:HR X.K H α M){vs:List V}{ds:List D}{us:List Value}{v:V}{d:D}{u:Value}{bs:List Bool}(rv:ZX vs us)(rp:Reps X.K H α vs ds)(ru:Zaa v u)(rd:Rep X.K H α v d)(e:eqs M d ds=some bs):
  ∃ f:Value->Bool,(∀ y,y∈us.toArray->EqAt A.in1 s y u (f y))/\us.map f=bs:=by
 have ll:us.length=ds.length:=by rw[<- rv.length,rp.length]
 have at_: ∀ (i:Nat) y,us[i]?=some y-> ∃ w x b,Zaa w y/\Rep X.K H α w x/\bs[i]?=some b/\eqF 12 M x d=some b:=fun i y hy=>by
  have hi:i < ds.length:=by rw[<- ll];exact (List.getElem?_eq_some_iff.mp hy).1
  obtain ⟨w,a1,a2⟩:=rp.get (List.getElem?_eq_getElem hi)
  obtain ⟨y',a3,a4⟩:=rv.get a1
  rw[hy] at a3;cases a3
  obtain ⟨b,a5,a6⟩:=ZhO e (List.getElem?_eq_getElem hi)
  exact ⟨w,_,b,a4,a2,a5,a6⟩
 refine ⟨fun y=>decide (∃ w x,Zaa w y/\Rep X.K H α w x/\eqF 12 M x d=some true),fun y hy=> ?_,?_⟩
 ·obtain ⟨i,hi,ey⟩:=List.getElem_of_mem (by simpa using hy)
  obtain ⟨w,x,b,q1,q2,q3,q4⟩:=at_ i y (by rw[List.getElem?_eq_getElem hi,ey])
  have hb:decide (∃ w x,Zaa w y/\Rep X.K H α w x/\eqF 12 M x d=some true)=b:=by
   cases b with
   |true=>exact decide_eq_true ⟨w,x,q1,q2,q4⟩
   |false=>
    refine decide_eq_false fun ⟨w',x',z1,z2,z3⟩=> ?_
    cases Zaa.inj z1 q1
    have:=Zkn I h 12 z2 q2 rd rd z3 q4
    cases this
  show EqAt A.in1 s y u (decide (∃ w x,Zaa w y/\Rep X.K H α w x/\eqF 12 M x d=some true))
  rw[hb];exact (eq3 I h 12 x d w v y u b A.in1 (by rw[Around.in1_units];omega) q4 q2 rd q1 ru).1
 ·apply List.ext_getElem?
  intro i;rw[List.getElem?_map]
  cases hy:us[i]? with
  |none=>
   have:bs[i]?=none:=List.getElem?_eq_none (by rw[ZhN e,<- ll];exact List.getElem?_eq_none_iff.mp hy)
   rw[this];rfl
  |some y=>
   obtain ⟨w,x,b,q1,q2,q3,q4⟩:=at_ i y hy
   rw[q3];show some _=some b
   congr 1
   cases b with
   |true=>exact decide_eq_true ⟨w,x,q1,q2,q4⟩
   |false=>
    refine decide_eq_false fun ⟨w',x',z1,z2,z3⟩=> ?_
    cases Zaa.inj z1 q1
    have:=Zkn I h 12 z2 q2 rd rd z3 q4
    cases this
end
section
variable {X:Cx}{ξ:XK}
noncomputable def inE (x y:D)(M:Sto):Option Bool:=match ZdB M y with | some ds=>(match eqs M x ds with | some bs=>some (bs.any id) | none=>none) | none=>none
noncomputable def Zr3:Bo:=fun x y M=>match inE x y M with | some b=> .ok (.bl b) M | none=> .bad
noncomputable def ZhP:Bo:=fun x y M=>match inE x y M with | some b=> .ok (.bl (!b)) M | none=> .bad
noncomputable def ZnB (X:Cx):V->List V->Hp->VK->Prop:=fun v vs H Q=> ∃ α M d ds bs p xs u j,HR X.K H α M/\v= .ref p/\vs=[u]/\Rep X.K H α u d/\SqL X.K H p xs/\Reps X.K H α xs ds/\eqs M d ds=some bs/\bs.findIdx? id=some j/\Q (.int (j:Nat)) H
theorem ZnC (hu:X.A.units + 64 < cLine):MtR X "list.index" (ZnB X):=by
 intro pins s σ H x vs v us Q I rx rv hh;obtain ⟨α,M,d,ds,bs,p,xs,u,j,h,e1,e2,rd,hq,rp,e,ej,q⟩:=hh
 subst e1 e2;cases rx
 obtain ⟨uv,rfl,ru⟩:=ZcO rv
 obtain ⟨its,r,pl,hz⟩:=I.list hq
 obtain ⟨f,f1,f2⟩:=Zls (A:=X.A) hu I h r rp ru rd e
 obtain ⟨⟨cls,dd,data,sl⟩,ho,hc,n,hd⟩:=pl.isList
 simp only at hc hd
 subst hc hd;obtain ⟨jl,j1,j2⟩:=List.findIdx?_eq_some_iff_getElem.mp ej
 have lb:bs.length=its.length:=by rw[<- f2,List.length_map]
 have at_: ∀ (m:Nat) (hm:m < its.length),bs[m]?=some (f its[m]):=fun m hm=>by rw[<- f2,List.getElem?_map,List.getElem?_eq_getElem hm];rfl
 have hj:j < its.toArray.size:=by rw[List.size_toArray,<- lb];exact jl
 have hit:f its.toArray[j]=true:=by
  have:=at_ j (by rw[<- lb];exact jl)
  rw[List.getElem?_eq_getElem jl] at this
  have:=Option.some.inj this
  simp only[List.getElem_toArray];rw[<- this];exact j1
 have hno: ∀ m (hm:m < its.toArray.size),m < j->f its.toArray[m]=false:=fun m hm hmj=>by
  have hm':m < its.length:=by simpa using hm
  have:=at_ m hm'
  rw[List.getElem?_eq_getElem (by omega)] at this
  have:=Option.some.inj this
  simp only[List.getElem_toArray];rw[<- this]
  simpa using j2 m hmj
 have hs:(j:Int) < 2 ^ 63 - 1:=by
  have h1:j < its.length:=by rw[<- lb];exact jl
  have h2:its.length<=sizeLine:=by rw[<- r.length];exact hz
  have h3:sizeLine < 2 ^ 62:=by decide
  omega
 refine call_meets F.slot_list_index ⟨_,ho,rfl⟩ F.entry_list_index (F.args_list_index_2 _ _) (SeqAt.list_indexAt p its.toArray n dd sl uv f j hj hs hit hno) ⟨ho,f1,?_⟩
 exact ⟨.int (j:Nat),H,I.tok _,⟨_,rfl⟩,q⟩
noncomputable def mIdx:Me:=fun x ds M=>match x,ds with
 | .ref n,[d]=>(match M[n]? with | some (.lst xs)=>(match eqs M d xs with | some bs=>(match bs.findIdx? id with | some j=> .ok (.int (j:Nat)) M | none=> .bad) | none=> .bad) | none=> .bad)
 |_,_=> .bad
noncomputable def Ztn:Me:=fun x ds M=>match x,ds with
 | .ref n,[d]=>(match M[n]? with | some (.lst xs)=>(match eqs M d xs with | some bs=> .ok (.int (bs.countP id:Nat)) M | none=> .bad) | none=> .bad)
 |_,_=> .bad
theorem ZnD:MO X ξ (ZnB X) mIdx:=by
 intro H α M v vs x ds Q h rx rs q;cases rx with
 | @ref p n hp=>
  match rs with
  | .nil=>exact q.elim
  | .cons _ (.cons _ _)=>exact q.elim
  | .cons (v:=u) (d:=d) ru .nil=>
   cases em:M[n]? with
   |none=>simp only[mIdx,em] at q;exact q.elim
   |some so=>
    cases so with
    |lst es=>
     cases e2:eqs M d es with
     |none=>simp only[mIdx,em,e2] at q;exact q.elim
     |some bs=>
      cases e3:bs.findIdx? id with
      |none=>simp only[mIdx,em,e2,e3] at q;exact q.elim
      |some j=>
       simp only[mIdx,em,e2,e3] at q;obtain ⟨xs,g1,g2⟩:=h.at hp em
       exact ⟨α,M,d,es,bs,p,xs,u,j,h,rfl,rfl,ru,SqL.of g1,g2,e2,e3,q _ H α Ext.refl h (.int _)⟩
 |_=>cases rs<;>exact q.elim
noncomputable def ZbI:List D->Option (List Int)
 | []=>some []
 | .int b :: r=>match ZbI r with | some bs=>some (b :: bs) | none=>none
 |_ :: _=>none
theorem ZfM {K:PySem.W.Frag}{H:Hp}{α:List Addr}: ∀ {vs:List V} {ds:List D} {bs:List Int},Reps K H α vs ds->ZbI ds=some bs->vs=bs.map V.int
 |_,_,_,.nil,e=>by cases e;rfl
 |_,_,bs,.cons (d:=d) (ds:=ds) r t,e=>by
  cases r with
  |int b=>
   cases e1:ZbI ds with
   |none=>simp only[ZbI,e1] at e;cases e
   |some cs=>
    simp only[ZbI,e1,Option.some.injEq] at e;subst e;rw[ZfM t e1];rfl
  |_=>cases e
noncomputable def Zjs (X:Cx)(g:List Int->Option V):List V->Hp->VK->Prop:=fun vs H Q=> ∃ (p:Addr) (ns:List Int) (v:V),vs=[.ref p]/\SqL X.K H p (ns.map V.int)/\g ns=some v/\Q v H
theorem ZdH: ∀ {ns:List Int} {us:List Value} {i:Nat} {u:Value},ZX (ns.map V.int) us->us[i]?=some u-> ∃ t,u= .int (ns.getD i 0) t
 | [],us,i,u,h,e=>by cases h;simp at e
 |b :: r,us,i,u,h,e=>by
  cases h with
  |cons h1 h2=>
   cases i with
   |zero=>simp at e;subst e;exact h1
   |succ i=>simp at e;obtain ⟨t,g⟩:=ZdH h2 e;exact ⟨t,by simpa using g⟩
theorem ZhQ (hc:X.calm=true){pins:List (Addr × Obj)}{σ:L2.St}{H:Hp}{s:Shared}{p:Addr}{ns:List Int}(I:Inv X pins σ H s)(hl:SqL X.K H p (ns.map V.int)){Q:Value->Shared->Prop}{E:Value->Shared->Prop}
  (q: ∀ (its:List Value) (it:Addr),ZX (ns.map V.int) its->its.length=ns.length->it=s.heap.objs.size->Walks X.prog X.w X.A.in1 it [it,p] [it] its.toArray.size (fun i v=>its.toArray[i]?=some v) (fun i h=>h.IsListIter it p i/\h.IsList p its.toArray)->
   (∀ b∈[it,p],b < (s.heap.push { cls:= .type "list_iterator",data:= .fields #[.ref p,.int 0 0] }).objs.size)->((s.heap.push { cls:= .type "list_iterator",data:= .fields #[.ref p,.int 0 0] }).IsListIter it p 0/\(s.heap.push { cls:= .type "list_iterator",data:= .fields #[.ref p,.int 0 0] }).IsList p its.toArray)->
   (∀ h' tk,(∀ b o,b ∉ [it]->(s.heap.push { cls:= .type "list_iterator",data:= .fields #[.ref p,.int 0 0] }).get? b=some o->h'.get? b=some o)->Inv X pins σ H { s with heap:=h',toks:=tk })->Q (.ref it) { s with heap:=s.heap.push { cls:= .type "list_iterator",data:= .fields #[.ref p,.int 0 0] } }):
  wpAny (model X.prog X.w) X.A.in1 (pyIter (.ref p)) Q E s:=by
 obtain ⟨its,hv,hp,hz⟩:=I.list hl
 have hlt:p < s.heap.objs.size:=by obtain ⟨_,e,_⟩:=hp.isList;exact Heap.lt_size e
 refine wpAny_pyIter_list hp.isList ?_
 refine q its s.heap.objs.size hv (by rw[<- hv.length,List.length_map]) rfl (Walks.list (A:=X.A.in1) (I.ok.hd hc) _ p (Nat.ne_of_lt hlt) its.toArray) (fun b hb=> ?_) ⟨⟨_,Heap.get?_push_size _ rfl,rfl,rfl⟩,hp.isList.push _⟩ fun h' tk hk=> ?_
 ·rw[Heap.size_push]
  simp only[List.mem_cons,List.not_mem_nil,or_false] at hb
  rcases hb with rfl | rfl
  ·exact Nat.lt_succ_self _
  ·exact Nat.lt_succ_of_lt hlt
 ·exact I.kept fun b o e=>hk b o (fun hm=>by rw[List.mem_singleton.mp hm] at e;exact Nat.lt_irrefl _ (Heap.lt_size e)) (Heap.get?_push_of_some _ e)
theorem Zjt {ns:List Int}(h:0 < ns.length):ns.max?=some (ns.getD (argBest (fun i j=>decide (ns.getD i 0 > ns.getD j 0)) (ns.length - 1)) 0):=by
 obtain ⟨h1,h2⟩:=argBest_gt (fun i=>ns.getD i 0) (ns.length - 1)
 refine List.max?_eq_some_iff.mpr ⟨?_,fun b hb=> ?_⟩
 ·have hl:argBest (fun i j=>decide (ns.getD i 0 > ns.getD j 0)) (ns.length - 1) < ns.length:=by omega
  rw[List.getD_eq_getElem?_getD,List.getElem?_eq_getElem hl]
  exact List.getElem_mem hl
 ·obtain ⟨j,hj,rfl⟩:=List.getElem_of_mem hb
  have:=h2 j (by omega)
  rwa [show ns.getD j 0=ns[j] by rw[List.getD_eq_getElem?_getD,List.getElem?_eq_getElem hj];rfl] at this
noncomputable def ZpH (ns:List Int):Option V:=ns.max?.map V.int
theorem ZhR (hc:X.calm=true):ZbS X (.builtin "max") (Zjs X ZpH):=by
 intro pins s σ H vs us Q I rs hh;obtain ⟨p,ns,v,e,hl,hg,q⟩:=hh
 subst e;obtain ⟨u,rfl,ru⟩:=ZcO rs
 cases ru
 have hn:0 < ns.length:=by cases ns with | nil=>cases hg | cons _ _=>simp
 unfold ZpH at hg;rw[Zjt hn] at hg;cases hg
 refine call_max_walk (ZhQ hc I hl fun its it hv hlen ei W hfp st back=> ?_)
 refine ⟨it,_,_,_,_,_,_,rfl,W,st,hfp,by rw[List.size_toArray,hlen];exact hn,CmpOf.ints_gt (fun i=>ns.getD i 0) (fun i v hP=>ZdH hv (by simpa using hP)),fun v h' tk hP hk=>⟨_,H,back h' tk hk,?_,q⟩⟩
 rw[List.size_toArray,hlen] at hP;exact ZdH hv (by simpa using hP)
noncomputable def Zgr (g:List Int->Option Int):List D->Sto->Out D:=fun ds M=>match ds with
 | [x]=>(match ZdB M x with | some xs=>(match x with | .con _=> .bad | .tup _=> .bad | _=>(match ZbI xs with | some ns=>(match g ns with | some i=> .ok (.int i) M | none=> .bad) | none=> .bad)) | none=> .bad)
 |_=> .bad
theorem Zlt {g:List Int->Option Int}{gV:List Int->Option V}(hg: ∀ ns i,g ns=some i->gV ns=some (.int i)):CO X ξ (Zjs X gV) (Zgr g):=by
 intro H α M vs ds Q h rs q;unfold Zgr at q
 match rs with
 | .nil=>exact q.elim
 | .cons _ (.cons _ _)=>exact q.elim
 | .cons (d:=x) r .nil=>
  have fin: ∀ (p:Addr) (xs:List V) (ys:List D),SqL X.K H p xs->Reps X.K H α xs ys->OP X.K H α ξ Q (match ZbI ys with | some ns=>(match g ns with | some i=> .ok (.int i) M | none=> .bad) | none=> .bad)->Zjs X gV [.ref p] H Q:=fun p xs ys k1 k2 q=>by
   cases e1:ZbI ys with
   |none=>rw[e1] at q;exact q.elim
   |some ns=>
    cases e2:g ns with
    |none=>simp only[e1,e2] at q;exact q.elim
    |some i=>
     simp only[e1,e2] at q
     have:=ZfM k2 e1
     subst this;exact ⟨p,ns,.int i,rfl,k1,hg _ _ e2,q _ H α Ext.refl h (.int i)⟩
  cases r with
  | @rol p xs ds hp rp=>exact fin p xs ds hp.sq rp q
  | @ref p n hp=>
   cases em:M[n]? with
   |none=>simp only[ZdB,em] at q;exact q.elim
   |some so=>
    cases so with
    |lst es=>
     simp only[ZdB,em] at q;obtain ⟨xs,g1,g2⟩:=h.at hp em
     exact fin p xs es (SqL.of g1) g2 q
  |tup _ _=>exact q.elim
  |con _ _=>exact q.elim
  |_=>exact q.elim
theorem Zlu:CO X ξ (Zjs X ZpH) (Zgr List.max?):=Zlt fun ns i e=>by unfold ZpH;rw[e];rfl
end
end DL
end
section
namespace DL
open PySem PySem.Spec PyProof.Rows L2
section
variable {κ:Type}[DecidableEq κ]
variable {K:PySem.W.Frag}{H H':Hp}{α α':List Addr}{key:κ->D}{dec:D->Option κ}
end
section
variable {X:Cx}{ξ:XK}{H:Hp}{α:List Addr}{M:Sto}
end
section
variable {X:Cx}{ξ:XK}{o i e:Expr}{fo fi f:Ev}{pos pos':Pos}
end
end DL
end
section
namespace DL
open PySem PySem.Spec PyProof.Rows L2
theorem Ze2:bootBuiltins "reversed"=some (.type "reversed"):=by decide +kernel
section
variable {X:Cx}{ξ:XK}{tg a:Expr}{fs:Av}{p pos:Pos}{ta:TA}
noncomputable def iRv (fs:Av):Ro->Sto->Out Src:=fun ρ M=>(fs ρ M).bind fun ds M1=>match ds with | [.ref n]=>(match M1[n]? with | some (.lst xs)=> .ok (.rev n xs.length) M1 | none=> .bad) | _=> .bad
end
end DL
end
section
namespace DL
open PySem PySem.Spec PyProof.Rows L2
section
variable {X:Cx}{ξ:XK}{e e1 e2:Expr}{es:List Expr}{f:Ev}{pos:Pos}
noncomputable def eFm (f:Ev):Ev:=fun ρ M=>(f ρ M).bind fun x M1=>match x with
 | .int i=>if i.natAbs.log2 < 1900 then .ok (.str (Str.ofString (toString i))) M1 else .bad
 | .str y=>if y.length<=100000 then .ok (.str y) M1 else .bad
 |_=> .bad
theorem ZnE (ha:DE X ξ e f):DE X ξ (.FormattedValue e (-1) none pos) (eFm f):=by
 obtain ⟨ta,pa,qa⟩:=ha
 refine ⟨fun σ H Q=>ta σ H fun x H1=>(∃ i,x= .int i/\i.natAbs.log2 < 1900/\Q (.str (Str.ofString (toString i))) H1)\/ ∃ y,x= .str y/\y.length<=100000/\Q (.str y) H1,fun pins s σ H Q I h=> ?_,fun σ ρ H α M Q s h q=> ?_⟩
 ·refine wpAny_FormattedValue_plain (wpAny_mono (pa pins s σ H _ I h) (fun v s1 ⟨x,H1,I1,r1,q1⟩=> ?_) fun _ _ z=>z)
  rcases q1 with ⟨i,rfl,hi,q⟩ | ⟨y,rfl,hy,q⟩
  ·obtain ⟨t,rfl⟩:=r1
   exact wpAny_formatField_int (by omega) ⟨.str (Str.ofString (toString i)),H1,I1.tok _,⟨_,rfl⟩,q⟩
  ·obtain ⟨t,rfl⟩:=r1
   exact wpAny_formatField_str ⟨.str y,H1,I1,⟨_,rfl⟩,q⟩ ⟨.str y,H1,I1.tok _,⟨_,rfl⟩,q⟩ (Nat.le_trans hy (by rw[sizeLine_eq];decide))
 ·refine qa σ ρ H α M _ s h (OG.seq q fun x M1 v H1 α1 e1 h1 r1 q1=> ?_)
  cases r1 with
  |int i=>
   by_cases hi:i.natAbs.log2 < 1900
   ·simp only[hi,if_true] at q1
    exact .inl ⟨i,rfl,hi,q1 _ H1 α1 Ext.refl h1 (.str _)⟩
   ·simp only[hi,if_false] at q1
    exact q1.elim
  |str y=>
   by_cases hi:y.length<=100000
   ·simp only[hi,if_true] at q1
    exact .inr ⟨y,rfl,hi,q1 _ H1 α1 Ext.refl h1 (.str _)⟩
   ·simp only[hi,if_false] at q1
    exact q1.elim
  |_=>exact q1.elim
noncomputable abbrev Jv:=Str->Ro->Sto->Out Str
noncomputable def PJ (X:Cx)(es:List Expr)(t:L2.St->Hp->Str->(Str->Hp->Prop)->Prop):Prop:=
 ∀ (pins:List (Addr × Obj)) (s:Shared) (σ:L2.St) (H:Hp) (acc:Str) (Q:Str->Hp->Prop),Inv X pins σ H s->t σ H acc Q->Joins (model X.prog X.w) X.A X.xe (evalEach es X.env) acc (fun out s1=>out.length<=100000/\ ∃ H',Inv X pins σ H' s1/\Q out H') s
noncomputable def DJ (X:Cx)(ξ:XK)(es:List Expr)(g:Jv):Prop:= ∃ t,PJ X es t/\ ∀ σ ρ H α M acc (Q:Str->Hp->Prop),SR X.K H α σ ρ->HR X.K H α M->OG X.K (fun _ _ v d=>v=d) H α ξ Q (g acc ρ M)->t σ H acc Q
noncomputable def jNil:Jv:=fun acc _ M=>if acc.length<=100000 then .ok acc M else .bad
noncomputable def ZbY (f:Ev)(g:Jv):Jv:=fun acc ρ M=>(f ρ M).bind fun x M1=>match x with
 | .str y=>if (acc ++ y).length<=100000 then g (acc ++ y) ρ M1 else .bad
 |_=> .bad
noncomputable def eFs (g:Jv):Ev:=fun ρ M=>(g Str.empty ρ M).bind fun x M1=> .ok (.str x) M1
theorem Zko:DJ X ξ [] jNil:=by
 refine ⟨fun σ H acc Q=>acc.length<=100000/\Q acc H,fun pins s σ H acc Q I h=>⟨h.1,H,I,h.2⟩,fun σ ρ H α M acc Q s h q=> ?_⟩
 unfold jNil at q
 by_cases hl:acc.length<=100000
 ·rw[if_pos hl] at q
  exact ⟨hl,q acc H α Ext.refl h rfl⟩
 ·rw[if_neg hl] at q
  exact q.elim
theorem ZcW {g:Jv}(ha:DE X ξ e f)(hr:DJ X ξ es g):DJ X ξ (e :: es) (ZbY f g):=by
 obtain ⟨ta,pa,qa⟩:=ha
 obtain ⟨tr,pr',qr⟩:=hr
 refine ⟨fun σ H acc Q=>ta σ H fun x H1=> ∃ y,x= .str y/\(acc ++ y).length<=100000/\tr σ H1 (acc ++ y) Q,fun pins s σ H acc Q I h=> ?_,fun σ ρ H α M acc Q s h q=> ?_⟩
 ·show wpAny _ _ (eval e X.env) _ _ s
  refine wpAny_mono (pa pins s σ H _ I h) (fun v s1 ⟨x,H1,I1,r1,q1⟩=> ?_) fun _ _ z=>z
  obtain ⟨y,rfl,hy,q⟩:=q1
  obtain ⟨t,rfl⟩:=r1
  exact ⟨y,t,rfl,Nat.le_trans hy (by rw[sizeLine_eq];decide),pr' pins s1 σ H1 (acc ++ y) Q I1 q⟩
 ·refine qa σ ρ H α M _ s h (OG.seq q fun x M1 v H1 α1 e1 h1 r1 q1=> ?_)
  cases r1 with
  |str y=>
   by_cases hi:(acc ++ y).length<=100000
   ·simp only[hi,if_true] at q1
    exact ⟨y,rfl,hi,qr σ ρ H1 α1 M1 (acc ++ y) Q (s.mono e1) h1 q1⟩
   ·simp only[hi,if_false] at q1
    exact q1.elim
  |_=>exact q1.elim
theorem ZnF {g:Jv}(h:DJ X ξ (e1 :: e2 :: es) g):DE X ξ (.JoinedStr (e1 :: e2 :: es) pos) (eFs g):=by
 obtain ⟨t,pj,qj⟩:=h
 refine ⟨fun σ H Q=>t σ H Str.empty fun x H1=>Q (.str x) H1,fun pins s σ H Q I h=> ?_,fun σ ρ H α M Q s h q=> ?_⟩
 ·refine wpAny_JoinedStr ?_
  have:=pj pins s σ H Str.empty _ I h
  have mono: ∀ (ms:List (Sem Value)) (acc:Str) (P R:Str->Shared->Prop) (s:Shared),(∀ o s,P o s->R o s)->Joins (model X.prog X.w) X.A X.xe ms acc P s->Joins (model X.prog X.w) X.A X.xe ms acc R s:=by
   intro ms
   induction ms with
   |nil=>intro acc P R s hp hj;exact hp _ _ hj
   |cons m r ih=>
    intro acc P R s hp hj;exact wpAny_mono hj (fun v s1 ⟨y,t,e,l,k⟩=>⟨y,t,e,l,ih _ P R s1 hp k⟩) fun _ _ z=>z
  refine mono _ _ _ _ s (fun o s1 ⟨hl,H',I',q⟩=> ?_) this
  exact ⟨Nat.le_trans hl (by rw[sizeLine_eq];decide),.str o,H',I'.tok _,⟨_,rfl⟩,q⟩
 ·refine qj σ ρ H α M Str.empty _ s h (OG.seq q fun x M1 v H1 α1 e1 h1 r1 q1=> ?_)
  cases r1
  exact q1 _ H1 α1 Ext.refl h1 (.str x)
end
end DL
end
section
namespace DL
open PySem PySem.Spec PyProof.Rows L2
theorem Zgs {β γ:Type}{o:Out β}{f:β->Sto->Out γ}{g:γ->Sto->Fl}:Zar (o.bind f) g=Zar o fun x M=>Zar (f x M) g:=by cases o<;>rfl
section
variable {X:Cx}{ξ:XK}{tg iter elt:Expr}{ifs:List Expr}{scope:Scope}{cl:List (Str × Addr)}{N:List Str}{k:Nat}{fr:List Nat}{fi:Ro->Sto->Out Src}{gt:Tg}{c:Tv}{f:Ev}{pos:Pos}
theorem ZhS (iv:Nat){x:Str}{pos' spos:Pos}(hN:X.N.Nodup)(B:Blk X scope cl N k fr)(hi:DI X ξ tg iter fi)(hg: ∀ C fp s H,DG (blk X scope cl N C fp s H) tg gt)(ht: ∀ C fp s H,DC (blk X scope cl N C fp s H) ifs c)(he: ∀ C fp s H,DE (blk X scope cl N C fp s H) E0 elt f)
  (hiv:X.N[iv]?=some x:=by rfl) (hxl:Loc X.env.scope x:=by first | exact Or.inl rfl | exact Or.inr rfl) (hm:X.may iv=true:=by rfl) (hsw:swapsWith (.ListComp elt [⟨tg,iter,ifs,0⟩] scope pos) (some (.Name x pos')) spos.line X.env=pure true:=by rfl) (hf:X.fn x=true\/X.env.scope.names.lookup x=some .local:=by first | exact .inl rfl | exact .inr rfl | assumption)
  (hs: ∀ x,foldedSetIterable iter X.env x=pure x:=by intro _;rfl):DS X ξ (.Assign [.Name x pos'] (.ListComp elt [⟨tg,iter,ifs,0⟩] scope pos) spos) (ZN (gNm iv) (ZaQ fi k fr gt c f)):=by
 obtain ⟨wi,pi,qi⟩:=hi
 refine ⟨fun Dn σ H=> ∃ ρ α M,SR X.K H α σ ρ/\HR X.K H α M/\FP X.K H α ξ Dn (ZN (gNm iv) (ZaQ fi k fr gt c f) ρ M),?_,fun σ ρ H α M Dn s h q=>⟨ρ,α,M,s,h,q⟩⟩
 rintro pins s σ H Dn I ⟨ρ,α,M,sr,hr,op⟩
 rw[exec_Assign_Name_used _ _ _ _ hsw];refine wpAny_bind (wpAny_standAt (wpAny_bind ?_))
 show wpAny _ X.A (do let _ <- comprehension (.ListComp elt [⟨tg,iter,ifs,0⟩] scope pos) scope X.env _ (newList []) false (eval iter X.env) (some (assign (.Name x pos') X.env))) _ _ s
 have op:FP X.K H α ξ Dn (Zar (fi ρ M) fun src M1=>Zar (match Zcp src gt c f M1.length (cnt src M1) 0 (roB k fr ρ) (M1 ++ [.lst []]) with | .ok _ M2'=> .ok (.ref M1.length) M2' | _=> .bad) fun d M1=>Fl.nx (ρ.set iv (some d)) M1):=by
  have e:ZN (gNm iv) (ZaQ fi k fr gt c f) ρ M=(Zar (fi ρ M) fun src M1=>Zar (match Zcp src gt c f M1.length (cnt src M1) 0 (roB k fr ρ) (M1 ++ [.lst []]) with | .ok _ M2'=> .ok (.ref M1.length) M2' | _=> .bad) fun d M1=>Fl.nx (ρ.set iv (some d)) M1):=by
   unfold ZN ZaQ;rw[Zgs];rfl
  rw[<- e];exact op
 refine wpAny_bind (wpAny_mono (wpAny_comprehension_free (Q:=fun _ s'=>SP X pins Dn .next s') (use:=some (assign (.Name x pos') X.env)) rfl hs B.clos B.kind B.names ?_) (fun _ s' hq=>wpAny_pure (wpAny_pure hq)) fun _ _ e=>e)
 refine thn (pi pins s σ H (fun J H2=> ∃ α2 M2 src,Ext X.K H H2 α α2/\HR X.K H2 α2 M2/\Zml X.K H2 α2 J src/\FP X.K H2 α2 ξ Dn (Zar (match Zcp src gt c f M2.length (cnt src M2) 0 (roB k fr ρ) (M2 ++ [.lst []]) with | .ok _ M2'=> .ok (.ref M2.length) M2' | _=> .bad) fun d M1=>Fl.nx (ρ.set iv (some d)) M1)) I
  (qi σ ρ H α M _ sr hr (FP.seq op fun src M1 J H1 α1 e1 h1 r1 q1=>⟨α1,M1,src,e1,h1,r1,q1⟩))) fun v s1 w1=>thn w1 fun itv s2 w2=> ?_
 obtain ⟨it,fp,tn,J,H2,rfl,I2,T,st2,f2,α2,M2,src,e2,h2,sc,op2⟩:=w2
 have srI:=sr.mono e2
 refine wpAny_newObj_type ?_
 have I3:Inv X pins σ (upd H2 s2.heap.objs.size (.lst [])) { s2 with heap:=s2.heap.push { cls:= .type "list",data:= .seq ([]:List Value).toArray } }:=I2.lnew (its:=[]) (t':=s2.toks) .nil (Nat.zero_le _)
 have fD:H2 s2.heap.objs.size=none:=I2.fresh
 generalize hD:s2.heap.objs.size=D at I3 fD;generalize hs3:({ s2 with heap:=s2.heap.push { cls:= .type "list",data:= .seq ([]:List Value).toArray } }:Shared)=s3 at I3
 generalize hH3:upd H2 D (.lst [])=H3 at I3;have h3:HR X.K H3 (α2 ++ [D]) (M2 ++ [.lst []]):=by rw[<- hH3];exact h2.new fD .nil
 have e3:Ext X.K H2 H3 α2 (α2 ++ [D]):=by rw[<- hH3];exact Ext.new fD
 have aD:RefK H3 (α2 ++ [D]) 0 M2.length D:=⟨h2.last D,by first | exact Kn.lst Zv | (rw[<- hH3];exact Kn.lst Zv)⟩
 have lt2: ∀ b∈fp,b < s2.heap.objs.size:=fun b hb=>let ⟨o,e,_⟩:=T.obj _ _ st2 b hb;Heap.lt_size e
 have keep3: ∀ b o,s2.heap.get? b=some o->s3.heap.get? b=some o:=fun b o e=>by rw[<- hs3];exact Heap.get?_push_of_some _ e
 have f3: ∀ b∈fp,Zd6 X pins H3 b:=fun b hb=>⟨by rw[<- hH3,Zu (by rw[<- hD];exact Nat.ne_of_lt (lt2 b hb))];exact (f2 b hb).1,(f2 b hb).2⟩
 have lt3: ∀ b∈fp,b < s3.heap.objs.size:=fun b hb=>let ⟨o,e,_⟩:=T.obj _ _ st2 b hb;Heap.lt_size (keep3 b o e)
 have st3:tn 0 s3.heap:=T.keep _ _ _ st2 fun b _ o e=>keep3 b o e
 refine wpAny_newFunctionEnv B.cell (by intro y hy;simp at hy) (fun h₁ hns₁ hsb₁=> ?_) B.kind
 have keep4: ∀ b o,s3.heap.get? b=some o->h₁.get? b=some o:=fun b o e=>hsb₁.extBut b o (Nat.ne_of_lt (Heap.lt_size e)) (Heap.get?_push_of_some _ e)
 have I4:=ZhD (tk:=s3.toks + ([]:List (Str × Value)).length) B I3 f3 lt3 hns₁ keep4
 have st4:tn 0 h₁:=T.keep _ _ _ st3 fun b _ o e=>keep4 b o e
 have fp5: ∀ {H':Hp},(∀ b∈fp,H' b=none)-> ∀ b∈fp,Zd6 (blk X scope cl N s3.heap.objs.size fp s3 H3) [] H' b:=fun hn b hb=>⟨hn b hb,Nat.ne_of_lt (lt3 b hb),(ZhC B I3 f3 lt3).exfs b hb,.inl hb,fun x c h=>(f3 b hb).2.2.2.2.1 x c (B.sub x c h),fun p hp=>(by simp[blk] at hp)⟩
 cases er:Zcp src gt c f M2.length (cnt src M2) 0 (roB k fr ρ) (M2 ++ [.lst []]) with
 |exc x M9=>rw[er] at op2;exact op2.elim
 |bad=>rw[er] at op2;exact op2.elim
 |ok u9 M9=>
  rw[er] at op2;have loop:codeAny (model X.prog X.w) X.A (.compLoop (.ListComp elt [⟨tg,iter,ifs,0⟩] scope pos) 0 (.ref it) (.ref D) (compEnvC scope cl s3.heap.objs.size X.env)) (compPost (model X.prog X.w) X.A X.xe (some (assign (.Name x pos') X.env)) (fun _ s'=>SP X pins Dn .next s') (.ref D) s3.heap.objs.size) { s3 with heap:=h₁,toks:=s3.toks + ([]:List (Str × Value)).length }:=by
   refine ZfJ (Y:=blk X scope cl N s3.heap.objs.size fp s3 H3) T (fun _ _ z=>z) fp5 (hg _ fp s3 H3) (ht _ fp s3 H3) (he _ fp s3 H3) (fun i H' α' M' ex hr=>sc i H' α' M' (e3.trans ex) hr) aD I4 st4 (fun b hb=>(f3 b hb).1) ((srI.blk).mono e3) h3 er ?_
   intro σ5 H5 α5 s6 I6 ex5 hr5;obtain ⟨I7,tu⟩:=ZfI B I3 f3 I6
   obtain ⟨m6,hm6,_⟩:=id I6.loc
   refine wpAny_assign_Name (Zd5 (v:= .ref D) I7 hN hiv hxl hm rfl (fun s8 I8 ⟨a,sb8,ha⟩=> ?_) hf)
   have nca:s3.heap.objs.size≠a:=by
    rcases ha with e | e
    ·rw[e];exact Nat.ne_of_gt I3.lt
    ·intro z
     obtain ⟨v,o,e',_⟩:=I3.cell x a e
     exact absurd (Heap.lt_size e') (by rw[<- z];exact Nat.lt_irrefl _)
   exact ⟨m6,hm6.sameBut sb8 nca,fun h' sb=>⟨_,H5,tu _ s8 h' I8 (fun b o hb e=>(sb.2 b hb).trans e),op2 _ H5 α5 (e3.trans ex5) hr5 ((srI.mono (e3.trans ex5)).set iv (.ref (ex5.get aD)))⟩⟩
  exact codeAny_compStart_list loop (T.self X.A 0 _ _ _ st4 loop)
end
end DL
end
section
namespace DL
open PySem PySem.Spec PyProof.Rows L2
noncomputable def Zto:Bo:=fun x y M=>match x,y with
 | .ref n,.int k=>match M[n]? with
  |some (.lst xs)=>if (-9223372036854775808<=k/\k < 9223372036854775808)/\xs.length * k.toNat<=100000 then .ok (.ref M.length) (M ++ [.lst (List.replicate k.toNat xs).flatten]) else .bad
  |none=> .bad
 |_,_=> .bad
section
variable {X:Cx}{ξ:XK}{a b:Expr}{fa fb:Ev}{pos:Pos}
end
end DL
end
namespace DL
open PySem PySem.Spec L2
open PySem.W
theorem Zgt:typeLookup (.type "list_reverseiterator") "__len__"=pure none:=by rw[typeLookup_type,builtinLookup_eq_fast];kernel_rfl
theorem Zju:typeLookup (.type "list_reverseiterator") "__length_hint__"=pure (some (.builtin "list_reverseiterator.__length_hint__")):=by rw[typeLookup_type,builtinLookup_eq_fast];kernel_rfl
theorem Zlv:isSubtype (.type "list_reverseiterator") (.type "list_reverseiterator")=pure true:=by rw[isSubtype_type];kernel_rfl
theorem ZhT:splitId "list_reverseiterator.__length_hint__"=some ("list_reverseiterator","__length_hint__"):=by decide +kernel
section
variable {prog:Program}{w:World}{A:Around}{E:Value->Shared->Prop}{s:Shared}
theorem Zjv {I:Addr}{Q:Bool->Shared->Prop}(hT:s.TypeIs (.ref I) "list_reverseiterator")(h:Q false s):wpAny (model prog w) A (Builtin.List.listLengthHint (.ref I)) Q E s:=by
 unfold Builtin.List.listLengthHint;refine wpAny_bind (wpAny_specialOf hT Zgt ?_)
 show wpAny _ A (specialOf (Value.ref I) (Str.ofString "__length_hint__") >>= _) _ _ _
 refine wpAny_bind (wpAny_specialOf hT Zju ?_)
 simp only[ZhT];refine wpAny_bind (wpAny_isInstance hT Zlv ?_)
 exact wpAny_pure h
end
section
variable {prog:Program}{w:World}{A:Around}{s:Shared}{R:Result->Shared->Prop}
variable {I:Addr}{fp wr:List Addr}{G:Array GenState->Array GenState->Prop}{n:Nat}{P:Nat->Value->Prop}{St:Nat->Shared->Prop}
theorem Zgu (W:WalksS prog w A.in1 I fp wr G n P St)(hT: ∀ i s,St i s->s.TypeIs (.ref I) "list_reverseiterator")(S:Addr)(res:Value)(c₀:Nat)(hst:St 0 s)(hSf:S ∉ fp)(hI:I∈fp)
  (hS:s.heap.get? S=some { cls:= .type "list",data:= .seq #[] c₀ })
  (hR: ∀ s' acc' c',Moved (S :: wr) G s s'->s'.heap.get? S=some { cls:= .type "list",dict:=none,data:= .seq acc' c',slots:= #[] }->ItemsOf P acc' n->R (.ok (.ret res)) s') (hn:n<=sizeLine):
  wpAny (model prog w) A.in1 (Builtin.List.listExtendWith (.ref S) (.ref I) res)
   (fun fin s'=>match fin with | .done f=>R (.ok f) s' | .again c'=>c'.quiet=true/\codeAny (model prog w) A c' R s') (fun e s'=>R (.error e) s') s:=by
 have hSI:S≠I:=fun e=>hSf (e ▸ hI)
 unfold Builtin.List.listExtendWith;refine wpAny_bind (wpAny_typeOf (hT 0 _ hst) ?_)
 have h1:Builtin.List.listSameRef (.ref S) (.ref I)=false:=by simp[Builtin.List.listSameRef,hSI]
 have h2:(Value.type "list_reverseiterator" == Value.type "list")=false:=by decide
 have h3:(Value.type "list_reverseiterator" == Value.type "tuple")=false:=by decide
 simp only[h1,h2,h3,Bool.or_false,Bool.false_eq_true,if_false];refine wpAny_bind (W.self 0 _ _ _ hst ?_)
 refine wpAny_bind (wpAny_holding ?_)
 refine Zjv (hT 0 _ hst) ?_
 refine wpAny_pure ⟨plainId_quiet F.plain_extend_loop _,codeAny_extend_loopS W hn _ hSf _ n 0 _ _ _ rfl (Nat.zero_le _) hst hS (ItemsOf.nil P) fun s' acc' c' hm hS' hacc=> ?_⟩
 exact hR s' acc' c' hm hS' hacc
theorem ZdI (W:WalksS prog w A.in1 I fp wr G n P St)(hT: ∀ i s,St i s->s.TypeIs (.ref I) "list_reverseiterator")(S:Addr)(hst:St 0 s)(hSf:S ∉ fp)(hI:I∈fp)
  (hS:s.heap.get? S=some { cls:= .type "list",data:= .seq #[] })
  (hR: ∀ s' acc' c',Moved (S :: wr) G s s'->s'.heap.get? S=some { cls:= .type "list",dict:=none,data:= .seq acc' c',slots:= #[] }->ItemsOf P acc' n->R (.ok (.ret .none)) s') (hn:n<=sizeLine):
  wpAny (model prog w) A.in1 (Builtin.«list.__init__» ⟨[.ref S,.ref I],[]⟩)
   (fun fin s'=>match fin with | .done f=>R (.ok f) s' | .again c'=>c'.quiet=true/\codeAny (model prog w) A c' R s') (fun e s'=>R (.error e) s') s:=by
 show wpAny _ A.in1 (do let old <- Builtin.List.listItems (.ref S);Builtin.List.listUpdate (.ref S) (fun _=> #[]);letGo old.toList.reverse;Builtin.List.listExtendWith (.ref S) (.ref I) .none) _ _ s
 refine wpAny_bind ?_
 unfold Builtin.List.listItems;refine wpAny_bind (wpAny_seqItems hS rfl (wpAny_pure ?_))
 show wpAny _ A.in1 (updateSeq S (fun _=> #[]) >>= fun _=>letGo (#[]:Array Value).toList.reverse >>= fun _=>Builtin.List.listExtendWith (.ref S) (.ref I) .none) _ _ s
 refine wpAny_bind (wpAny_updateSeq hS rfl ?_)
 have hS₂:=Heap.get?_update_self (Obj.mapSeq (fun _=>(#[]:Array Value))) hS rfl
 have oth: ∀ b o,b≠S->s.heap.get? b=some o->(s.heap.update S (Obj.mapSeq (fun _=>(#[]:Array Value)))).get? b=some o:=
  fun b o hb e=>(Heap.get?_update_other _ _ (Ne.symm hb)).trans e
 refine wpAny_bind (wpAny_letGo ?_)
 refine Zgu W hT S .none _ (W.frame 0 s _ s.toks hst (Nat.le_refl _) fun b hb o e=>oth b o (fun h=>hSf (h ▸ hb)) e) hSf hI hS₂ (fun s' acc' c' hm hS' hacc=> ?_) hn
 exact hR s' acc' c' (Moved.trans W.gtrans ((Moved.refl W.grefl).then_heap (Nat.le_refl _) fun b o hb e=>oth b o (fun h=>hb (h ▸ List.mem_cons_self)) e) hm) hS' hacc
end
section
variable {prog:Program}{w:World}{A:Around}{E:Value->Shared->Prop}{s:Shared}
variable {I:Addr}{fp wr:List Addr}{G:Array GenState->Array GenState->Prop}{n:Nat}{P:Nat->Value->Prop}{St:Nat->Shared->Prop}
theorem ZdJ {Q:Value->Shared->Prop}(W:WalksS prog w A.in1.in1 I fp wr G n P St)(hT: ∀ i s,St i s->s.TypeIs (.ref I) "list_reverseiterator")(hst:St 0 s)(hfp: ∀ b∈fp,b < s.heap.objs.size)(hI:I∈fp)
  (hQ: ∀ s' acc' c',Moved (s.heap.objs.size :: wr) G { s with heap:=s.heap.push { cls:= .type "list",data:= .seq #[] } } s'->
   s'.heap.get? s.heap.objs.size=some { cls:= .type "list",dict:=none,data:= .seq acc' c',slots:= #[] }->ItemsOf P acc' n->Q (.ref s.heap.objs.size) s') (hn:n<=sizeLine):
  wpAny (model prog w) A (call (.type "list") [.ref I]) Q E s:=by
 have hSf:s.heap.objs.size ∉ fp:=fun hm=>Nat.lt_irrefl _ (hfp _ hm)
 refine callType_codes (Q₁:=fun obj s₁=>obj= .ref s.heap.objs.size/\s₁={ s with heap:=s.heap.push { cls:= .type "list",data:= .seq #[] } }) F.called_list (F.typeCall_list_1 _) F.entry_list_init
  (code_list_new _ ⟨rfl,rfl⟩) fun obj s₁ h₁=> ?_
 obtain ⟨rfl,rfl⟩:=h₁
 have hS:(s.heap.push { cls:= .type "list",data:= .seq #[] }).get? s.heap.objs.size=some { cls:= .type "list",data:= .seq #[] }:=Heap.get?_push_size _ rfl
 refine ⟨⟨_,hS,rfl⟩,F.args_list_init_2 _ _,ZdI W hT _ (W.frame 0 s _ s.toks hst (Nat.le_refl _) fun b _ o e=>Heap.get?_push_of_some _ e) hSf hI hS (fun s' acc' c' hm hS' hacc=> ?_) hn⟩
 exact ⟨rfl,hQ s' acc' c' hm hS' hacc⟩
end
section
variable {X:Cx}{ξ:XK}{a:Expr}{fs:Av}{p1 p2 p3 pos:Pos}{ta:TA}
noncomputable def tLR (K:PySem.W.Frag)(t:TA):TE:=fun σ H Q=>t σ H fun vs H1=> ∃ l xs,vs=[.ref l]/\SqL K H1 l xs/\ ∀ p,H1 p=none->Q (.ref p) (upd H1 p (.lst xs.reverse))
theorem ZhU {its:List Value}{acc:Array Value}(h:ItemsOf (fun i v=>its.toArray[its.toArray.size - 1 - i]?=some v) acc its.toArray.size):acc=its.reverse.toArray:=by
 obtain ⟨hz,hv⟩:=h
 apply Array.ext'
 apply List.ext_getElem?
 intro i;rw[List.toList_toArray]
 by_cases hi:i < acc.size
 ·have e:acc.toList[i]?=some acc[i]:=by rw[Array.getElem?_toList];exact Array.getElem?_eq_getElem hi
  have:=hv i _ (Array.getElem?_eq_getElem hi)
  rw[e,<- this,List.getElem?_toArray,List.size_toArray,List.getElem?_reverse (by rw[hz,List.size_toArray] at hi;exact hi)]
 ·rw[List.getElem?_eq_none (by rw[Array.length_toList];omega),List.getElem?_eq_none (by rw[hz,List.size_toArray] at hi;rw[List.length_reverse];omega)]
theorem Zqd (hc:X.A.handled=none)(hgl:Gl X "list")(hml:X.mg "list"=none)(hg:Gl X "reversed")(hm:X.mg "reversed"=none)(ha:PA X [a] ta)(hs:starEach [a] X.env=(false,eval a X.env) :: starEach [] X.env:=by rfl)(hpl:(backTo p3 (starEach [] X.env)).any (·.1)=false:=by rfl)(hs1:starEach [.Call (.Name "reversed" p2) [a] [] p3] X.env=(false,eval (.Call (.Name "reversed" p2) [a] [] p3) X.env) :: starEach [] X.env:=by rfl)(hpl1:(backTo pos (starEach [] X.env)).any (·.1)=false:=by rfl):
  PE X (.Call (.Name "list" p1) [.Call (.Name "reversed" p2) [a] [] p3] [] pos) (tLR X.K ta):=by
 intro pins s σ H Q I h;refine wpAny_Call_Name_kw (Zcn I hgl hml Zas (PyProof.Rows.callWith_type1 ?_ hs1 hpl1) (by decide) (by decide))
 rw[hs1];show wpAny _ _ (spliced ((false,eval (.Call (.Name "reversed" p2) [a] [] p3) X.env) :: backTo pos (starEach [] X.env))) _ _ s
 refine Calls.spliced_cons ?_
 refine wpAny_Call_Name_kw (Zcn I hg hm Ze2 (PyProof.Rows.callWith_type1 (thn (ha p3 pins s σ H _ I h) fun us s1 ⟨vs,H1,I1,r1,q1⟩=> ?_) hs hpl) (by decide) (by decide))
 obtain ⟨l,xs,rfl,hq,q⟩:=q1
 obtain ⟨u,rfl,ru⟩:=ZcO r1
 cases ru
 obtain ⟨its,rv,pl,hz⟩:=I1.list hq
 have hll:l < s1.heap.objs.size:=by
  obtain ⟨o,ho,_⟩:=pl.isList
  exact Heap.lt_size ho
 refine call_reversed_list pl.isList (Calls.spliced_nil ?_)
 have W:=(PySem.Walks.listRev (prog:=X.prog) (w:=X.w) (A:=X.A.in1.in1) hc s1.heap.objs.size l (Nat.ne_of_lt hll) its.toArray).toS
 have hsz:its.toArray.size<=sizeLine:=by rw[List.size_toArray,<- rv.length];exact hz
 refine ZdJ W (fun i s x=>x.2.1.typeIs) ⟨Nat.zero_le _,⟨_,Heap.get?_push_size _ rfl,rfl,?_⟩,?_⟩ ?_ (by simp) (fun s' acc c hmv hS hit=> ?_) hsz
 ·show Data.fields #[.ref l,rawInt ((its.toArray.size:Int) - 1)]=_
  rw[show (its.toArray.size:Int) - 1 - ((0:Nat):Int)=(its.toArray.size:Int) - 1 by omega]
 ·exact pl.isList.at fun o e=>Heap.get?_push_of_some _ e
 ·intro b hb
  have:b=s1.heap.objs.size\/b=l:=by simpa using hb
  have hz2:(s1.heap.push (revObj l ((its.toArray.size:Int) - 1))).objs.size=s1.heap.objs.size + 1:=by simp[Heap.push]
  show b < (s1.heap.push (revObj l ((its.toArray.size:Int) - 1))).objs.size
  rw[hz2]
  rcases this with rfl | rfl
  ·exact Nat.lt_succ_self _
  ·exact Nat.lt_succ_of_lt hll
 ·have ea:=ZhU hit
  subst ea;have hz2:(s1.heap.push (revObj l ((its.toArray.size:Int) - 1))).objs.size=s1.heap.objs.size + 1:=by simp[Heap.push]
  have K: ∀ b u,s1.heap.get? b=some u->s'.heap.get? b=some u:=by
   intro b u hb;have hlt:=Heap.lt_size hb
   refine hmv.heap b u ?_ (Heap.get?_push_of_some _ (Heap.get?_push_of_some _ hb))
   intro hmem
   have:b=s1.heap.objs.size + 1\/b=s1.heap.objs.size:=by
    simp only[List.mem_cons,List.not_mem_nil,or_false] at hmem
    rcases hmem with e | e
    ·exact .inl (e.trans hz2)
    ·exact .inr e
   rcases this with e | e
   ·exact absurd (e ▸ hlt) (Nat.not_lt.mpr (Nat.le_succ _))
   ·exact absurd (e ▸ hlt) (Nat.lt_irrefl _)
  have es:s'={ s1 with heap:=s'.heap,toks:=s'.toks }:=by
   obtain ⟨h1,g1,d1,t1,o1⟩:=s1
   obtain ⟨h2,g2,d2,t2,o2⟩:=s'
   have e1:g2=g1:=hmv.gens
   have e2:d2=d1:=hmv.drawn
   have e3:o2=o1:=hmv.os
   subst e1 e2 e3;rfl
  have hS':s'.heap.get? (s1.heap.objs.size + 1)=some { cls:= .type "list",dict:=none,data:= .seq its.reverse.toArray c,slots:= #[] }:=by
   rw[<- hz2];exact hS
  show EP X pins σ Q (.ref (s1.heap.push (revObj l ((its.toArray.size:Int) - 1))).objs.size) s'
  rw[hz2,es];refine ⟨.ref _,_,I1.laid (t':=s'.toks) (o:= .lst xs.reverse) K (Nat.le_succ _) ?_,rfl,q _ (I1.hok.fresh (Nat.le_succ _))⟩
  exact ⟨by rw[List.length_reverse];exact hz,its.reverse,c,rv.reverse,hS'⟩
noncomputable def bLR:List D->Sto->Out D:=fun ds M1=>match ds with
 | [.ref n]=>(match M1[n]? with | some (.lst xs)=> .ok (.ref M1.length) (M1 ++ [.lst xs.reverse]) | none=> .bad)
 | [.rol xs]=> .ok (.ref M1.length) (M1 ++ [.lst xs.reverse])
 |_=> .bad
theorem Zlw (hc:X.A.handled=none)(hml:X.mg "list"=none)(hm:X.mg "reversed"=none)(ha:DA X ξ [a] fs)(hgl:Gl X "list":=by rfl)(hg:Gl X "reversed":=by rfl)(hs:starEach [a] X.env=(false,eval a X.env) :: starEach [] X.env:=by rfl)(hpl:(backTo p3 (starEach [] X.env)).any (·.1)=false:=by rfl)(hs1:starEach [.Call (.Name "reversed" p2) [a] [] p3] X.env=(false,eval (.Call (.Name "reversed" p2) [a] [] p3) X.env) :: starEach [] X.env:=by rfl)(hpl1:(backTo pos (starEach [] X.env)).any (·.1)=false:=by rfl):
  DE X ξ (.Call (.Name "list" p1) [.Call (.Name "reversed" p2) [a] [] p3] [] pos) (Zl bLR fs):=by
 obtain ⟨ta,pa,qa⟩:=ha
 refine ⟨_,Zqd hc hgl hml hg hm pa hs hpl hs1 hpl1,fun σ ρ H α M Q s hh w=>qa σ ρ H α M _ s hh (OG.seq w fun ds M1 vs H1 α1 e1 h1 r1 w1=> ?_)⟩
 match r1 with
 | .nil=>exact w1.elim
 | .cons r (.cons _ _)=>cases r<;>exact w1.elim
 | .cons r .nil=>
  cases r with
  | @rol a xs ds hp rp=>
   have w2:OP X.K H1 α1 ξ Q (.ok (.ref M1.length) (M1 ++ [.lst ds.reverse])):=w1
   exact ⟨a,xs,rfl,hp.sq,fun l hl=>w2 _ _ (α1 ++ [l]) (Ext.new hl) (h1.new hl rp.rev) (.ref ⟨h1.last l,Kn.lst Zv⟩)⟩
  | @ref a n hp=>
   cases em:M1[n]? with
   |none=>simp only[bLR,em] at w1;exact w1.elim
   |some so=>
    cases so with
    |lst es=>
     simp only[bLR,em] at w1;obtain ⟨xs,g1,g2⟩:=h1.at hp em
     exact ⟨a,xs,rfl,SqL.of g1,fun l hl=>w1 _ _ (α1 ++ [l]) (Ext.new hl) (h1.new hl g2.rev) (.ref ⟨h1.last l,Kn.lst Zv⟩)⟩
  |_=>exact w1.elim
end
end DL
section
namespace DL3
open PySem PySem.Spec PyProof.Rows L2 DL
open Sem (wp)
section
variable {prog:Program}{w:World}{A:Around}{E:Value->Shared->Prop}{s:Shared}
end
section
variable {prog:Program}{w:World}{A:Around}{E:Value->Shared->Prop}{s:Shared}
end
section
variable {X:Cx}{ξ:XK}{y1 y2 y3:Expr}{elts:List Expr}{k0:Nat}{tp:Pos}{fs:Av}{p pos:Pos}{ta:TA}
end
end DL3
end
section
namespace DL4
open PySem PySem.Spec PyProof.Rows L2 DL
open Sem (wp)
section
variable {prog:Program}{w:World}{A:Around}{E:Value->Shared->Prop}{s:Shared}
end
section
variable {prog:Program}{w:World}{A:Around}{E:Value->Shared->Prop}{s:Shared}
end
section
variable {X:Cx}{ξ:XK}{y1 y2 y3 y4:Expr}{elts:List Expr}{k0:Nat}{tp:Pos}{fs:Av}{p pos:Pos}{ta:TA}
end
end DL4
end
section
namespace PySem.SeqAt
open AutoSeq1 (wpAny_loadPart')
open MeetsSeq MeetsSeq2 MeetsSeq3 SeqRoads2
end PySem.SeqAt
namespace DL
open PySem PySem.Spec PyProof.Rows L2
open PySem.SeqAt
noncomputable def Zet:List D->Option (List Int)
 | []=>some []
 | .int i :: r=>match Zet r with | some is=>some (i :: is) | none=>none
 |_ :: _=>none
theorem Zeu {K:PySem.W.Frag}{H:Hp}{α:List Addr}: ∀ {vs:List V} {ds:List D} {a:List Int},Reps K H α vs ds->Zet ds=some a->vs=a.map V.int
 |_,_,a,.nil,e=>by cases e;rfl
 |_,_,a,.cons (d:=d) (ds:=ds) r t,e=>by
  cases r with
  |int i=>
   unfold Zet at e
   split at e
   ·rename_i is e1
    cases e
    rw[Zeu t e1];rfl
   ·cases e
  |_=>cases e
section
variable {X:Cx}{pins:List (Addr × Obj)}{σ:L2.St}{H:Hp}{s:Shared}{α:List Addr}{M:Sto}
theorem ZhV: ∀ {xs:List V} {us:List Value} {j:Nat} {u:Value},ZX xs us->us[j]?=some u-> ∃ x,xs[j]?=some x/\Zaa x u
 | [],us,j,u,h,e=>by cases h;simp at e
 |x :: xs,us,j,u,h,e=>by
  cases h with
  |cons h1 h2=>
   cases j with
   |zero=>simp at e;subst e;exact ⟨x,rfl,h1⟩
   |succ j=>simp at e;obtain ⟨y,g1,g2⟩:=ZhV h2 e;exact ⟨y,by simpa using g1,g2⟩
theorem Ze3 {K:PySem.W.Frag}: ∀ {xs:List V} {ds:List D} {j:Nat} {x:V},Reps K H α xs ds->xs[j]?=some x-> ∃ d,ds[j]?=some d/\Rep K H α x d
 |_,_,j,x,.nil,e=>by simp at e
 |_,_,0,x,.cons r _,e=>by simp at e;subst e;exact ⟨_,rfl,r⟩
 |_,_,j + 1,x,.cons _ t,e=>by
  obtain ⟨d,g1,g2⟩:=Ze3 (j:=j) t (by simpa using e)
  exact ⟨d,by simpa using g1,g2⟩
end
end DL
end
section
namespace PySem
open Sem (wp)
section
variable {prog:Program}{w:World}{A:Around}{R:Result->Shared->Prop}{I:Addr}{fp wr:List Addr}{P:Nat->Value->Prop}{St:Nat->Heap->Prop}
end
section
variable {prog:Program}{w:World}{A:Around}{E:Value->Shared->Prop}{s:Shared}
end
end PySem
namespace DL
open PySem PySem.Spec PyProof.Rows L2
open PySem.SeqAt
section
variable {X:Cx}{pins:List (Addr × Obj)}{σ:L2.St}{H:Hp}{s:Shared}{α:List Addr}{M:Sto}
end
end DL
end
section
namespace HT
open PySem PyProof.Rows
section
open PySem.SeqAt
open PySem.AutoSeq1 (wpAny_loadPart')
open PySem.MeetsSeq PySem.MeetsSeq2 PySem.MeetsSeq3
end
section
variable {prog:Program}{w:World}{A:Around}{E:Value->Shared->Prop}{s:Shared}
end
end HT
namespace DL
open PySem PySem.Spec PyProof.Rows L2
section
variable {X:Cx}{ξ:XK}
end
end DL
end
section
namespace DL
open PySem PySem.Spec PyProof.Rows L2
end DL
end
section
namespace DL
open PySem PySem.Spec PyProof.Rows L2
section
variable {X:Cx}{pins:List (Addr × Obj)}{σ:L2.St}{H:Hp}{s:Shared}{a b:Addr}{v:V}{r:Value}{A:Around}{E:Value->Shared->Prop}
end
section
variable {X:Cx}{ξ:XK}{tg iter kx vx:Expr}{ifs:List Expr}{scope:Scope}{cl:List (Str × Addr)}{N:List Str}{k:Nat}{fr:List Nat}{fi:Ro->Sto->Out Src}{gt:Tg}{c:Tv}{fk fv:Ev}{pos:Pos}
end
end DL
end
section
namespace DL
open PySem PySem.Spec PyProof.Rows L2
section
variable {prog:Program}{w:World}{A:Around}{E:Value->Shared->Prop}{s:Shared}{d it:Addr}{od:Obj}{es:Array DictEntry}{ep i n:Nat}
end
section
variable {X:Cx}{pins:List (Addr × Obj)}{σ:L2.St}{H:Hp}{s:Shared}{d:Addr}{o:Obj}{kvs:List (List Key × V)}
end
section
variable {X:Cx}{ξ:XK}{tg a:Expr}{f:Ev}{te:TE}
end
end DL
end
section
namespace DL
open PySem PySem.Spec PyProof.Rows L2
section
variable {X:Cx}{ξ:XK}{e:Expr}{es:List Expr}{fs:Av}{p pos:Pos}{x:Str}
end
section
variable {X:Cx}{ξ:XK}{pos p:Pos}{v:Expr}{keys:List (Option Expr)}{values:List Expr}{k:Str}{f:Ev}{kfs:List (Str × Ev)}{j:Nat}
end
section
variable {X:Cx}{ξ:XK}{tg a:Expr}{f:Ev}{te:TE}
end
end DL
end
section
namespace DL
open PySem PySem.Spec PyProof.Rows L2
noncomputable def ZaH (f:D->Option PyData):List D->Option (List PyData)
 | []=>some []
 |d :: r=>match f d,ZaH f r with | some a,some b=>some (a :: b) | _,_=>none
section
variable {X:Cx}{ξ:XK}{pins:List (Addr × Obj)}{σ:L2.St}{H:Hp}{s:Shared}{α:List Addr}{M:Sto}
end
end DL
end
section
namespace DL
open PySem PySem.Spec PyProof.Rows L2
noncomputable def Its (lo c:Int)(n:Nat):It:=⟨fun i _=>i < n,fun i H x H'=>H'=H/\x= .int (lo + (i:Nat) * c),fun i _=>n<=i⟩
theorem ZhW {P:Program}{w:World}{K:PySem.W.Frag}{B:Around}{tg:Expr}(it:Addr)(lo c:Int)(n:Nat):Turn P w K B tg (Its lo c n) [it] it (fun i h=>IsRangeIter h it (lo + (i:Nat) * c) ((n:Int) - (i:Nat)) c) where
 mem:=by simp
 obj:=fun i h st b hb=>by
  have e:b=it:=by simpa using hb
  subst e;exact ⟨_,st,fun v z=>by
   have z':Data.fields _=Data.cell v:=z
   cases z'⟩
 keep:=fun i h h' st k=>k it (by simp) _ st
 item:=by
  intro X hP hw hK hB i pins s σ H E I hf st hg;subst hP hw hK;obtain ⟨f0,f1,f2,f3,f4,f5⟩:=hf it (by simp)
  have hlt:i < n:=hg
  refine wpAny_pyNext_range_item st (by omega) fun h' st' sb=> ?_
  have I1:Inv X pins σ H { s with heap:=h',toks:=s.toks + 1 }:=I.turned (fun b o hb e=>(sb.2 b hb).trans e) f0 f1 f3 f4 f5
  have st2:IsRangeIter h' it (lo + ((i + 1:Nat):Int) * c) ((n:Int) - ((i + 1:Nat):Int)) c:=by
   have e1:lo + ((i + 1:Nat):Int) * c=lo + (i:Nat) * c + c:=by rw[Int.natCast_add,Int.add_mul];simp;omega
   have e2:(n:Int) - ((i + 1:Nat):Int)=(n:Int) - (i:Nat) - 1:=by omega
   rw[e1,e2];exact st'
  exact ⟨_,rfl,Zi1 (s:={ s with heap:=h',toks:=s.toks + 1 }) (n:="range_iterator") st2 rfl rfl (by decide) ⟨.int (lo + (i:Nat) * c),H,I1,⟨s.toks,rfl⟩,⟨rfl,rfl⟩,st2,fun b hb=>(hf b hb).1⟩⟩
 done:=by
  intro X hP hw hK hB i pins s σ H E I hf st hg;subst hP hw hK;obtain ⟨f0,f1,f2,f3,f4,f5⟩:=hf it (by simp)
  exact DQ.Zd4 I.qh st (by have:n<=i:=hg;omega) fun h' eb=>⟨rfl,I.turned (t':=s.toks) (fun b o hb e=>eb b o hb e) f0 f1 f3 f4 f5⟩
 self:=fun _ _ _ _ _ st h=>wpAny_pyIter_rangeiter st h
noncomputable def stN (lo hi c:Int):Nat:=if lo < hi then ((hi - lo - 1) / c + 1).toNat else 0
section
variable {X:Cx}{ξ:XK}{tg:Expr}{fs:Av}{pos:Pos}
theorem Zlx {pins:List (Addr × Obj)}{σ:L2.St}{H:Hp}{s:Shared}{R:It->Hp->Prop}{E:Value->Shared->Prop}{lo hi c:Int}{t u v:Tok}{tk:Nat}(I:Inv X pins σ H s)(h1: -(2 ^ 62)<=lo)(h2:lo < 2 ^ 62)(h3: -(2 ^ 62)<=hi)(h4:hi < 2 ^ 62)(c1:1<=c)(c2:c<=1000)
  (q:R (Its lo c (stN lo hi c)) H):wpAny (model X.prog X.w) X.A (pyIter (.ref s.heap.objs.size)) (PIE X pins σ tg R) E { s with heap:=s.heap.push { cls:= .type "range",data:= .fields #[.int lo t,.int hi u,.int c v] },toks:=tk }:=by
 have hdiv: ∀ z:Int,0<=z->0<=z / c/\z / c<=z:=fun z hz=>⟨Int.ediv_nonneg hz (by omega),Int.ediv_le_self _ hz⟩
 refine wpAny_pyIter_range (IsRange.new ..) ?_ ?_
 ·have cp:0 < c:=by omega
  have e:(2:Int) ^ 62=4611686018427387904:=by decide
  unfold Builtin.Range.small Builtin.Range.rangeSize Builtin.Range.rangeFitsLong;rw[if_pos (show c > 0 from cp)]
  by_cases z:lo < hi
  ·obtain ⟨g1,g2⟩:=hdiv (hi - lo - 1) (by omega)
   rw[if_pos z];have g3:(hi - lo - 1) / c * c<=hi - lo - 1:=Int.ediv_mul_le _ (by omega)
   generalize (hi - lo - 1) / c=m at *
   simp
   refine ⟨by omega,.inr ?_⟩
   rw[if_pos cp];omega
  ·rw[if_neg z]
   simp
   omega
 have I1:Inv X pins σ H { s with heap:=s.heap.push { cls:= .type "range",data:= .fields #[.int lo t,.int hi u,.int c v] },toks:=tk }:=I.kept fun b o e=>Heap.get?_push_of_some _ e
 refine ⟨(s.heap.push { cls:= .type "range",data:= .fields #[.int lo t,.int hi u,.int c v] }).objs.size,[(s.heap.push { cls:= .type "range",data:= .fields #[.int lo t,.int hi u,.int c v] }).objs.size],_,_,H,rfl,
  I1.kept (t':=tk) fun b o e=>Heap.get?_push_of_some _ e,ZhW _ lo c (stN lo hi c),?_,fun b hb=> ?_,q⟩
 ·have e1:lo + ((0:Nat):Int) * c=lo:=by simp
  have e2:((stN lo hi c:Nat):Int) - ((0:Nat):Int)=Builtin.Range.rangeSize lo hi c:=by
   unfold stN Builtin.Range.rangeSize
   by_cases z:lo < hi
   ·have:=hdiv (hi - lo - 1) (by omega)
    rw[if_pos z,if_pos (show c > 0 by omega),if_pos z]
    omega
   ·rw[if_neg z,if_pos (show c > 0 by omega),if_neg z]
    rfl
  show IsRangeIter _ _ (lo + ((0:Nat):Int) * c) (((stN lo hi c:Nat):Int) - ((0:Nat):Int)) c
  rw[e1,e2];exact Heap.get?_push_size _ rfl
 ·have e:b=(s.heap.push { cls:= .type "range",data:= .fields #[.int lo t,.int hi u,.int c v] }).objs.size:=by simpa using hb
  subst e;exact I1.fpOk (Nat.le_refl _) (I1.hok.fresh (Nat.le_refl _))
noncomputable def Zqe (ta:TA):TI:=fun σ H R=>ta σ H fun vs H1=> ∃ i j c:Int,vs=[.int i,.int j,.int c]/\(-(2 ^ 62)<=i/\i < 2 ^ 62/\ -(2 ^ 62)<=j/\j < 2 ^ 62/\1<=c/\c<=1000)/\R (Its i c (stN i j c)) H1
theorem ZhX {a b c:Expr}{ta:TA}{p:Pos}(hg:Gl X "range")(hm:X.mg "range"=none)(ha:PA X [a,b,c] ta)(hs:starEach [a,b,c] X.env=[(false,eval a X.env),(false,eval b X.env),(false,eval c X.env)]:=by rfl)(hs2:starEach [b,c] X.env=[(false,eval b X.env),(false,eval c X.env)]:=by rfl):
  PI X tg (.Call (.Name "range" p) [a,b,c] [] pos) (Zqe ta):=by
 intro pins s σ H R I h;refine Call_ (Zcn I hg hm boot_range (PyProof.Rows.callWith_type1 (thn (ha pos pins s σ H _ I h) fun us s1 ⟨vs,H1,I1,r1,q1⟩=> ?_) (by rw[hs,hs2]) (by rw[hs2];rfl)))
 obtain ⟨i,j,c,e,⟨q1,q2,q3,q4,q5,q6⟩,q⟩:=q1
 subst e;cases r1 with
 |cons r rr=>
  cases rr with
  |cons r' rr=>
   cases rr with
   |cons r'' rr=>
    cases rr
    obtain ⟨t,rfl⟩:=r
    obtain ⟨t',rfl⟩:=r'
    obtain ⟨t'',rfl⟩:=r''
    exact call_range_3 (by omega) (Zlx I1 q1 q2 q3 q4 q5 q6 q) (.inl (PyProof.noPylong_small (by omega)))
noncomputable def ZhY (lo c:Int)(n:Nat):List D:=(List.range n).map fun (i:Nat)=>D.int (lo + (i:Int) * c)
theorem ZfN {lo c:Int}{n:Nat}:(ZhY lo c n).length=n:=by simp[ZhY]
noncomputable def iR3 (fs:Av):Ro->Sto->Out Src:=fun ρ M=>(fs ρ M).bind fun ds M1=>match ds with
 | [.int i,.int j,.int c]=>if -(2 ^ 62)<=i/\i < 2 ^ 62/\ -(2 ^ 62)<=j/\j < 2 ^ 62/\1<=c/\c<=1000 then .ok (.pur (ZhY i c (stN i j c))) M1 else .bad
 |_=> .bad
theorem ZhZ {K:PySem.W.Frag}{H:Hp}{α:List Addr}{lo c:Int}{n:Nat}:Zml K H α (Its lo c n) (.pur (ZhY lo c n)):=by
 intro i H' α' M' ex hr;show match some (ZhY lo c n)[i]? with | some none=>_ | some (some d)=>_ | none=>True
 by_cases h:i < n
 ·have e:(ZhY lo c n)[i]?=some (.int (lo + (i:Int) * c)):=by simp[ZhY,h]
  rw[e];refine ⟨h,fun x H'' y=> ?_⟩
  obtain ⟨e1,e2⟩:=y
  subst e1 e2;exact ⟨Ext.refl,hr,.int _⟩
 ·rw[List.getElem?_eq_none (by rw[ZfN];omega)]
  exact Nat.le_of_not_lt h
theorem Zh0 {a b c:Expr}{p:Pos}(hm:X.mg "range"=none)(ha:DA X ξ [a,b,c] fs)(hgl:Gl X "range":=by rfl)(hs:starEach [a,b,c] X.env=[(false,eval a X.env),(false,eval b X.env),(false,eval c X.env)]:=by rfl)(hs2:starEach [b,c] X.env=[(false,eval b X.env),(false,eval c X.env)]:=by rfl):DI X ξ tg (.Call (.Name "range" p) [a,b,c] [] pos) (iR3 fs):=by
 obtain ⟨ta,pa,qa⟩:=ha
 refine ⟨_,ZhX hgl hm pa hs hs2,fun σ ρ H α M R s hh q=>qa σ ρ H α M _ s hh (OG.seq q fun ds M1 vs H1 α1 e1 h1 r1 w1=> ?_)⟩
 split at w1
 ·rename_i i j c
  cases r1 with
  |cons r t=>
   cases t with
   |cons r' t=>
    cases t with
    |cons r'' t=>
     cases t
     cases r
     cases r'
     cases r''
     by_cases z: -(2 ^ 62)<=i/\i < 2 ^ 62/\ -(2 ^ 62)<=j/\j < 2 ^ 62/\1<=c/\c<=1000
     ·simp only[if_pos z] at w1
      exact ⟨i,j,c,rfl,z,w1 _ H1 α1 Ext.refl h1 ZhZ⟩
     ·simp only[if_neg z] at w1
      exact w1.elim
 ·exact w1.elim
end
end DL
end
namespace DL
open PySem PySem.Spec L2
section
variable {X:Cx}{ξ:XK}{a b c:Expr}{fa fb fc:Ev}{pos:Pos}
noncomputable def Zh1 (f:Ev):Prop:= ∀ ρ,(∃ d,∀ M,f ρ M= .ok d M)\/ ∀ M,f ρ M= .bad
theorem ZnG {d:D}:Zh1 (eC d):=fun _=> .inl ⟨d,fun _=>rfl⟩
theorem ZnH {i:Nat}:Zh1 (Zg i):=fun ρ=>by
 cases e:ρ[i]? with
 |none=>exact .inr fun M=>by simp only[Zg,e]
 |some o=>
  cases o with
  |none=>exact .inr fun M=>by simp only[Zg,e]
  |some d=>exact .inl ⟨d,fun M=>by simp only[Zg,e]⟩
theorem ZnI {r r':R2}{f g:Bo}(hp:Zh1 fb)(hf:BO X ξ r f)(hg:BO X ξ r' g){ta tb tc:TE}
  (qa: ∀ σ ρ H α M Q,SR X.K H α σ ρ->HR X.K H α M->OP X.K H α ξ Q (fa ρ M)->ta σ H Q)
  (qb: ∀ σ ρ H α M Q,SR X.K H α σ ρ->HR X.K H α M->OP X.K H α ξ Q (fb ρ M)->tb σ H Q)
  (qc: ∀ σ ρ H α M Q,SR X.K H α σ ρ->HR X.K H α M->OP X.K H α ξ Q (fc ρ M)->tc σ H Q):
  ∀ σ ρ H α M Q,SR X.K H α σ ρ->HR X.K H α M->OP X.K H α ξ Q (Zaz (e2 f fa fb) (e2 g fb fc) ρ M)->Zg3 r r' ta tb tc σ H Q:=by
 intro σ ρ H α M Q s h q;unfold Zaz e2 at q
 rcases hp ρ with ⟨d,hd⟩ | hd
 ·have q:OP X.K H α ξ Q ((fa ρ M).bind fun x M1=>(fb ρ M1).bind fun y M2=>(f x y M2).bind fun z M3=>match z with | .bl k=>if k=true then (fc ρ M3).bind fun w M4=>g d w M4 else .ok (.bl false) M3 | _=> .bad):=by
   simp only[hd,Out.bind] at q ⊢;cases e:fa ρ M with
   |ok x M1=>simp only[e] at q ⊢;exact q
   |exc c M1=>simp only[e] at q ⊢;exact q
   |bad=>simp only[e] at q ⊢;exact q
  refine qa σ ρ H α M _ s h (OG.seq q fun x M1 v H1 α1 e1 h1 r1 q1=> ?_)
  rw[hd] at q1;refine qb σ ρ H1 α1 M1 _ (s.mono e1) h1 ?_
  rw[hd];intro w H2 α2 e2 h2 r2;have q2:=OG.ext (o:=(f x d M1).bind fun z M3=>match z with | .bl k=>if k=true then (fc ρ M3).bind fun w M4=>g d w M4 else .ok (.bl false) M3 | _=> .bad) q1 e2
  refine hf H2 α2 M1 v w x d _ h2 (Rep.mono e2 r1) r2 (OG.seq q2 fun z M3 u H3 α3 e3 h3 r3 q3=> ?_)
  cases r3 with
  |bl k=>
   refine ⟨k,rfl,?_⟩
   cases k with
   |true=>
    refine Zj9 (qc σ ρ H3 α3 M3 _ ((s.mono e1).mono (e2.trans e3)) h3 (OG.seq q3 fun w' M4 u' H4 α4 e4 h4 r4 q4=> ?_))
    exact hg H4 α4 M4 w u' d w' Q h4 (Rep.mono (e3.trans e4) r2) r4 q4
   |false=>exact Zj8 (q3 _ H3 α3 Ext.refl h3 (.bl false))
  |_=>exact q3.elim
 ·simp only[hd] at q
  refine qa σ ρ H α M _ s h ?_
  cases e:fa ρ M with
  |ok x M1=>rw[e] at q;exact q.elim
  |exc c M1=>rw[e] at q;exact q
  |bad=>rw[e] at q;exact q
theorem ZnJ {op op':CmpOp}{r r':R2}{f g:Bo}(ho:OpR X (compareOp op) r)(hf:BO X ξ r f)(ho':OpR X (compareOp op') r')(hg:BO X ξ r' g)(hp:Zh1 fb)(ha:DE X ξ a fa)(hb:DE X ξ b fb)(hc:DE X ξ c fc)
  (hm:lastMarks [op,op'] [b,c]=false:=by with_unfolding_all rfl):DE X ξ (.Compare a [op,op'] [b,c] pos) (Zaz (e2 f fa fb) (e2 g fb fc)):=by
 obtain ⟨ta,ha,qa⟩:=ha
 obtain ⟨tb,hb,qb⟩:=hb
 obtain ⟨tc,hc,qc⟩:=hc
 exact ⟨_,Zi4 ho ho' ha hb hc hm,ZnI hp hf hg qa qb qc⟩
theorem ZnK {op op':CmpOp}{r r':R2}{f g:Bo}(ho:OpR X (compareOp op) r)(hf:BO X ξ r f)(ho':OpR X (compareOp op') r')(hg:BO X ξ r' g)(hp:Zh1 fb)(ha:DE X ξ a fa)(hb:DE X ξ b fb)(hc:DE X ξ c fc)
  (hm:lastMarks [op,op'] [b,c]=false:=by with_unfolding_all rfl):DT X ξ (.Compare a [op,op'] [b,c] pos) (tv (Zaz (e2 f fa fb) (e2 g fb fc))):=by
 obtain ⟨ta,ha,qa⟩:=ha
 obtain ⟨tb,hb,qb⟩:=hb
 obtain ⟨tc,hc,qc⟩:=hc
 exact ⟨_,Zi5 ho ho' ha hb hc hm,Zld (ZnI hp hf hg qa qb qc)⟩
end
end DL
section
namespace DL
open PySem PySem.Spec PyProof.Rows L2 PySem.W
section
variable {K:PySem.W.Frag}{H:Hp}{α:List Addr}
end
section
variable {X:Cx}{ξ:XK}{pos:Pos}
variable {o e:Expr}{fo fa:Ev}{apos cpos:Pos}
end
end DL
end
section
namespace PySem.SeqAt
open MeetsSeq MeetsSeq2 MeetsSeq3 SeqRoads2
end PySem.SeqAt
namespace DL
open PySem PySem.Spec PyProof.Rows L2 PySem.W
section
variable {X:Cx}{ξ:XK}{o e:Expr}{fo fa:Ev}{apos cpos:Pos}
end
end DL
end
section
namespace ST
open PySem PyProof.Rows
noncomputable abbrev lt (a b:List Int):Bool:=HT.Zbf a b
noncomputable def le (a b:List Int):Prop:=lt b a=false
theorem Zh2: ∀ a:List Int,lt a a=false
 | []=>rfl
 |x :: r=>by
  show HT.Zbf (x :: r) (x :: r)=false
  rw[HT.ZaR,if_pos rfl];exact Zh2 r
theorem Zly: ∀ {a b c:List Int},lt a b=true->lt b c=true->lt a c=true
 | [],[],_,h,_=>by cases h
 | [],_ :: _,[],_,h=>by cases h
 | [],_ :: _,_ :: _,_,_=>rfl
 |_ :: _,[],_,h,_=>by cases h
 |_ :: _,_ :: _,[],_,h=>by cases h
 |x :: a,y :: b,z :: c,h,g=>by
  show HT.Zbf (x :: a) (z :: c)=true
  have h:HT.Zbf (x :: a) (y :: b)=true:=h
  have g:HT.Zbf (y :: b) (z :: c)=true:=g
  rw[HT.ZaR] at h g ⊢
  by_cases e1:x=y
  ·subst e1
   rw[if_pos rfl] at h
   by_cases e2:x=z
   ·rw[if_pos e2] at g ⊢;exact Zly h g
   ·rw[if_neg e2] at g ⊢;exact g
  ·rw[if_neg e1] at h
   have h:=of_decide_eq_true h
   by_cases e2:y=z
   ·subst e2;rw[if_neg e1];exact decide_eq_true h
   ·rw[if_neg e2] at g
    have g:=of_decide_eq_true g
    rw[if_neg (by omega)]
    exact decide_eq_true (by omega)
theorem Zev: ∀ {a b:List Int},lt a b=false->lt b a=false->a=b
 | [],[],_,_=>rfl
 | [],_ :: _,h,_=>by cases h
 |_ :: _,[],_,h=>by cases h
 |x :: a,y :: b,h,g=>by
  have h:HT.Zbf (x :: a) (y :: b)=false:=h
  have g:HT.Zbf (y :: b) (x :: a)=false:=g
  rw[HT.ZaR] at h g
  by_cases e:x=y
  ·subst e
   rw[if_pos rfl] at h g;rw[Zev h g]
  ·rw[if_neg e] at h
   rw[if_neg (Ne.symm e)] at g
   have:=of_decide_eq_false h
   have:=of_decide_eq_false g
   omega
theorem ZdK (a:List Int):le a a:=Zh2 a
theorem Zh3 {a b:List Int}(h:lt a b=true):le a b:=by
 unfold le;cases e:lt b a with
 |false=>rfl
 |true=>have:=Zly h e;rw[Zh2] at this;cases this
theorem Zgv {a b c:List Int}(h:le a b)(g:le b c):le a c:=by
 unfold le at *;cases e:lt c a with
 |false=>rfl
 |true=>
  cases e2:lt b a with
  |true=>rw[e2] at h;cases h
  |false=>
   cases e3:lt a b with
   |true=>rw[Zly e e3] at g;cases g
   |false=>
    have:=Zev e3 e2
    subst this;rw[e] at g;cases g
theorem Ze4 {a b c:List Int}(h:lt a b=true)(g:le b c):lt a c=true:=by
 cases e:lt a c with
 |true=>rfl
 |false=>have:=Zgv g e;unfold le at this;rw[h] at this;cases this
variable (kf:Keyed->List Int)
noncomputable def ky (xs:Array Keyed)(i:Nat):List Int:=match xs[i]? with | some p=>kf p | none=>[]
noncomputable def Up (xs:Array Keyed)(n:Nat):Prop:= ∀ i j,i<=j->j < n->le (ky kf xs i) (ky kf xs j)
noncomputable def Dn (xs:Array Keyed)(n:Nat):Prop:= ∀ i j,i<=j->j < n->le (ky kf xs j) (ky kf xs i)
variable {kf}
theorem Zh4 {xs ys:Array Keyed}{i j:Nat}(h:xs[i]?=ys[j]?):ky kf xs i=ky kf ys j:=by unfold ky;rw[h]
theorem Zh5 {xs:Array Keyed}{i j:Nat}(hj:j<=xs.size)(k:Nat):ky kf (mirror xs i j ((j - i) / 2)) k=if i<=k/\k < j then ky kf xs (i + j - 1 - k) else ky kf xs k:=by
 have g:=getElem?_mirror_all (i:=i) hj k
 split
 ·rename_i c;rw[if_pos c] at g;exact Zh4 g
 ·rename_i c;rw[if_neg c] at g;exact Zh4 g
theorem Zat {xs:Array Keyed}{i j:Nat}(hj:j<=xs.size)(hs: ∀ k,i<=k->k < j->ky kf xs k=ky kf xs (j - 1))(k:Nat):ky kf (mirror xs i j ((j - i) / 2)) k=ky kf xs k:=by
 rw[Zh5 hj]
 split
 ·rename_i c;rw[hs k c.1 c.2,hs (i + j - 1 - k) (by omega) (by omega)]
 ·rfl
theorem Zkp {xs:Array Keyed}{p d:Nat}(hp:p < xs.size)(hd:d<=p)(k:Nat):ky kf (bubble xs p d) k=if k=p - d then ky kf xs p else if p - d < k/\k<=p then ky kf xs (k - 1) else ky kf xs k:=by
 have g:=getElem?_bubble hp d hd k
 by_cases c1:k=p - d
 ·rw[if_pos c1] at g ⊢;exact Zh4 g
 ·rw[if_neg c1] at g ⊢
  by_cases c2:p - d < k/\k<=p
  ·rw[if_pos c2] at g ⊢;exact Zh4 g
  ·rw[if_neg c2] at g ⊢;exact Zh4 g
structure Cm (M:Model) (A:Around) (E:Value->Shared->Prop) (s:Shared) (kf:Keyed->List Int) (B:SortSt->Prop) (N:Nat):Prop where
 sz: ∀ st,B st->(arrOf st).size=N
 put: ∀ st xs,B st->xs.Perm (arrOf st)->B (setArr st xs)
 cmp: ∀ st i j (Q:Option Bool->SortSt->Prop),B st->i < N->j < N->Q (some (lt (ky kf (arrOf st) i) (ky kf (arrOf st) j))) st->wpS M A E s (ltAt' i j) Q st
section
variable {prog:Program}{w:World}{A:Around}{E:Value->Shared->Prop}{s:Shared}{B:SortSt->Prop}{N:Nat}
theorem Up.more {xs:Array Keyed}{n:Nat}(h:Up kf xs n)(h1:1<=n)(hl:le (ky kf xs (n - 1)) (ky kf xs n)):Up kf xs (n + 1):=by
 intro i j ij jn
 by_cases c:j < n
 ·exact h i j ij c
 ·have:j=n:=by omega
  subst this
  by_cases c2:i=j
  ·subst c2;exact ZdK _
  ·exact Zgv (h i (j - 1) (by omega) (by omega)) hl
theorem Dn.more {xs:Array Keyed}{n:Nat}(h:Dn kf xs n)(h1:1<=n)(hl:le (ky kf xs n) (ky kf xs (n - 1))):Dn kf xs (n + 1):=by
 intro i j ij jn
 by_cases c:j < n
 ·exact h i j ij c
 ·have:j=n:=by omega
  subst this
  by_cases c2:i=j
  ·subst c2;exact ZdK _
  ·exact Zgv hl (h i (j - 1) (by omega) (by omega))
theorem ZnL (C:Cm (model prog w) A E s kf B N){st:SortSt}{a n:Nat}{Q:AscSt->SortSt->Prop}(hn:n<=N)(ha:1<=a)(an:a<=n)(hB:B st)(hu:Up kf (arrOf st) a)
  (q: ∀ m,a<=m->m<=n->Up kf (arrOf st) m->(m=n\/lt (ky kf (arrOf st) m) (ky kf (arrOf st) (m - 1))=true)->Q (none,m) st):wpS (model prog w) A E s (ascLoop a n) Q st:=by
 unfold ascLoop;refine wpS_forRange (fun x c t=>t=st/\c=(none,x)/\Up kf (arrOf st) x) (fun x c t ax xn hI=> ?_) (fun c t hI=> ?_) ⟨rfl,rfl,hu⟩
 ·obtain ⟨rfl,rfl,h⟩:=hI
  refine wpS_bind (C.cmp t x (x - 1) _ hB (by omega) (by omega) ?_)
  cases z:lt (ky kf (arrOf t) x) (ky kf (arrOf t) (x - 1)) with
  |true=>exact wpS_pure (q x ax (by omega) h (.inr z))
  |false=>exact wpS_pure ⟨rfl,rfl,h.more (by omega) z⟩
 ·obtain ⟨rfl,rfl,h⟩:=hI
  rw[Nat.max_eq_right an] at h ⊢;exact q n an (Nat.le_refl _) h (.inl rfl)
theorem Zkq (C:Cm (model prog w) A E s kf B N){st:SortSt}{m n:Nat}{Q:Option Nat->SortSt->Prop}(hn:n<=N)(h1:1<=m)(mn:m<=n)(hB:B st)(hd:Dn kf (arrOf st) m)
  (q: ∀ m t,B t->1<=m->m<=n->Up kf (arrOf t) m->Q (some m) t):wpS (model prog w) A E s (tail3 m n) Q st:=by
 have sz:=C.sz st hB
 have hB':=C.put st (mirror (arrOf st) 0 m ((m - 0) / 2)) hB (mirror_perm ..)
 refine wpS_bind (wpS_reverse (wpS_bind (ZnL C hn h1 mn hB' (fun i j ij jm=> ?_) fun k k1 k2 hu _=>wpS_pure (q k _ hB' (by omega) k2 hu))))
 show le (ky kf (mirror (arrOf st) 0 m ((m - 0) / 2)) i) (ky kf (mirror (arrOf st) 0 m ((m - 0) / 2)) j)
 rw[Zh5 (by omega),Zh5 (by omega),if_pos ⟨by omega,by omega⟩,if_pos ⟨by omega,jm⟩]
 exact hd _ _ (by omega) (by omega)
noncomputable def Eqs (kf:Keyed->List Int)(xs:Array Keyed)(x e:Nat):Prop:=e + 1<=x/\ ∀ i,x - (e + 1)<=i->i < x->ky kf xs i=ky kf xs (x - 1)
theorem Zqf {xs:Array Keyed}{x:Nat}(h:1<=x):Eqs kf xs x 0:=⟨by omega,fun i a b=>by rw[show i=x - 1 by omega]⟩
theorem ZnM (C:Cm (model prog w) A E s kf B N){st:SortSt}{m n:Nat}{Q:DescSt->SortSt->Prop}(hn:n<=N)(h1:1<=m)(mn:m<=n)(hB:B st)(hd:Dn kf (arrOf st) m)
  (q: ∀ x e t,B t->m<=x->x<=n->Dn kf (arrOf t) x->Eqs kf (arrOf t) x e->Q (none,x,e) t):wpS (model prog w) A E s (descLoop m n) Q st:=by
 unfold descLoop;refine wpS_forRange (fun x c t=> ∃ e,c=(none,x,e)/\B t/\Dn kf (arrOf t) x/\Eqs kf (arrOf t) x e) (fun x c t ax xn hI=> ?_) (fun c t hI=> ?_) ⟨0,rfl,hB,hd,Zqf h1⟩
 ·obtain ⟨e,rfl,hB,hd,he⟩:=hI
  have sz:=C.sz t hB
  refine wpS_bind (C.cmp t x (x - 1) _ hB (by omega) (by omega) ?_)
  cases z:lt (ky kf (arrOf t) x) (ky kf (arrOf t) (x - 1)) with
  |true=>
   have up1:=hd.more (by omega) (Zh3 z)
   show wpS _ _ _ _ (if e > 0 then _ else _) _ _
   by_cases c:e > 0
   ·rw[if_pos c]
    refine wpS_bind (wpS_reverse (wpS_pure ⟨0,rfl,C.put t _ hB (mirror_perm ..),fun i j ij jx=> ?_,Zqf (by omega)⟩))
    show le (ky kf (mirror (arrOf t) (x - (e + 1)) x ((x - (x - (e + 1))) / 2)) j) (ky kf (mirror (arrOf t) (x - (e + 1)) x ((x - (x - (e + 1))) / 2)) i)
    rw[Zat (by omega) he.2,Zat (by omega) he.2]
    exact up1 i j ij jx
   ·rw[if_neg c]
    exact wpS_pure ⟨0,rfl,hB,up1,Zqf (by omega)⟩
  |false=>
   refine wpS_bind (C.cmp t (x - 1) x _ hB (by omega) (by omega) ?_)
   cases z2:lt (ky kf (arrOf t) (x - 1)) (ky kf (arrOf t) x) with
   |true=>exact wpS_pure (q x e t hB ax (by omega) hd he)
   |false=>
    have ee:ky kf (arrOf t) x=ky kf (arrOf t) (x - 1):=Zev z z2
    refine wpS_pure ⟨e + 1,rfl,hB,hd.more (by omega) z2,by have:=he.1;omega,fun i a b=> ?_⟩
    rw[show x + 1 - 1=x by omega]
    by_cases c:i=x
    ·rw[c]
    ·rw[ee];exact he.2 i (by omega) (by omega)
 ·obtain ⟨e,rfl,hB,hd,he⟩:=hI
  rw[Nat.max_eq_right mn] at hd he ⊢;exact q n e t hB mn (Nat.le_refl _) hd he
theorem Zkr (C:Cm (model prog w) A E s kf B N){st:SortSt}{m n:Nat}{Q:Option Nat->SortSt->Prop}(hn:n<=N)(mn:m + 1<=n)(hB:B st)(hd:Dn kf (arrOf st) (m + 1))
  (q: ∀ m t,B t->1<=m->m<=n->Up kf (arrOf t) m->Q (some m) t):wpS (model prog w) A E s (descPart m n) Q st:=by
 refine wpS_bind (wpS_lift (wpAny_rule ⟨rfl,wpS_bind (ZnM C hn (by omega) mn hB hd fun x e t hB hx xn hd he=> ?_)⟩))
 have sz:=C.sz t hB
 show wpS _ _ _ _ (if e > 0 then _ else _) _ _
 by_cases c:e > 0
 ·rw[if_pos c]
  refine wpS_bind (wpS_reverse (Zkq (m:=x) C hn (by omega) xn (C.put t _ hB (mirror_perm ..)) (fun i j ij jx=> ?_) q))
  show le (ky kf (mirror (arrOf t) (x - (e + 1)) x ((x - (x - (e + 1))) / 2)) j) (ky kf (mirror (arrOf t) (x - (e + 1)) x ((x - (x - (e + 1))) / 2)) i)
  rw[Zat (by omega) he.2,Zat (by omega) he.2]
  exact hd i j ij jx
 ·rw[if_neg c]
  exact Zkq (m:=x) C hn (by omega) xn hB hd q
theorem Zqg (C:Cm (model prog w) A E s kf B N){st:SortSt}{n:Nat}{Q:Option Nat->SortSt->Prop}(hn:n<=N)(h1:1<=n)(hB:B st)
  (q: ∀ m t,B t->1<=m->m<=n->Up kf (arrOf t) m->Q (some m) t):wpS (model prog w) A E s (countRun' 0 n) Q st:=by
 have sz:=C.sz st hB
 rw[countRun0_eq];refine wpS_bind (ZnL C hn (Nat.le_refl 1) h1 hB (fun i j ij j1=>by rw[show i=j by omega];exact ZdK _) fun m m1 m2 hu ho=> ?_)
 show wpS _ _ _ _ (if (m == n)=true then _ else _) _ _
 by_cases c:m=n
 ·rw[if_pos (by simpa using c)]
  exact wpS_pure (q m st hB m1 m2 hu)
 ·rw[if_neg (by simpa using c)]
  have hl:=ho.resolve_left c
  by_cases c1:m > 1
  ·rw[if_pos c1]
   refine wpS_bind (C.cmp st 0 (m - 1) _ hB (by omega) (by omega) ?_)
   cases z:lt (ky kf (arrOf st) 0) (ky kf (arrOf st) (m - 1)) with
   |true=>exact wpS_pure (q m st hB m1 m2 hu)
   |false=>
    have al: ∀ k,0<=k->k < m->ky kf (arrOf st) k=ky kf (arrOf st) (m - 1):=fun k _ km=>
     Zev (Zgv z (hu 0 k (by omega) km)) (hu k (m - 1) (by omega) (by omega))
    refine wpS_bind (wpS_reverse (Zkr C hn (by omega) (C.put st _ hB (mirror_perm ..)) (fun i j ij jx=> ?_) q))
    show le (ky kf (mirror (arrOf st) 0 m ((m - 0) / 2)) j) (ky kf (mirror (arrOf st) 0 m ((m - 0) / 2)) i)
    rw[Zat (by omega) al,Zat (by omega) al]
    by_cases d:j < m
    ·rw[al i (by omega) (by omega),al j (by omega) d];exact ZdK _
    ·have:j=m:=by omega
     subst this
     by_cases d2:i=j
     ·rw[d2];exact ZdK _
     ·rw[al i (by omega) (by omega)];exact Zh3 hl
  ·rw[if_neg c1]
   have:m=1:=by omega
   subst this;refine Zkr C hn (by omega) hB (fun i j ij jx=> ?_) q
   by_cases d2:i=j
   ·rw[d2];exact ZdK _
   ·rw[show i=0 by omega,show j=1 by omega];exact Zh3 hl
theorem Zqh (C:Cm (model prog w) A E s kf B N){st:SortSt}{n ok:Nat}{Q:Bool->SortSt->Prop}(hn:n<=N)(hk:ok<=n)(hB:B st)(hu:Up kf (arrOf st) ok)
  (q: ∀ t,B t->Up kf (arrOf t) n->Q true t):wpS (model prog w) A E s (binarySort' 0 n ok) Q st:=by
 rw[binarySort'_eq];simp only[Nat.zero_add];refine wpS_bind (wpS_mono (wpS_forRange (fun k c t=>c=(none,())/\B t/\Up kf (arrOf t) (min k n)) (Q:=fun c t=>c=(none,())/\B t/\Up kf (arrOf t) n) (fun k c t ak kn hI=> ?_) (fun c t hI=> ?_) ⟨rfl,hB,fun i j ij jn=> ?_⟩) fun c t hI=> ?_)
 ·obtain ⟨rfl,hB,hu⟩:=hI
  rw[Nat.min_eq_left (by omega)] at hu
  have sz:=C.sz t hB
  have kN:k < N:=by omega
  refine wpS_bind (wpS_mono (wpS_forRange (fun x c t'=>t'=t/\ ∃ l r,c=(none,l,r)/\(l<=r/\r<=k/\r - l<=k - x)/\(∀ i,i < l->le (ky kf (arrOf t) i) (ky kf (arrOf t) k))/\ ∀ i,r<=i->i < k->lt (ky kf (arrOf t) k) (ky kf (arrOf t) i)=true)
   (Q:=fun c t'=>t'=t/\ ∃ l r,c=(none,l,r)/\l<=k/\(∀ i,i < l->le (ky kf (arrOf t) i) (ky kf (arrOf t) k))/\ ∀ i,l<=i->i < k->lt (ky kf (arrOf t) k) (ky kf (arrOf t) i)=true) (fun x c t' _ xk hI=> ?_) (fun c t' hI=> ?_) ⟨rfl,0,k,rfl,by omega,fun i hi=>by omega,fun i a b=>by omega⟩) fun c t' hI=> ?_)
  ·obtain ⟨rfl,l,r,rfl,⟨lr,rk,hm⟩,lo,hi⟩:=hI
   show wpS _ _ _ _ (if l ≥ r then _ else _) _ _
   by_cases c:l ≥ r
   ·rw[if_pos c]
    have:l=r:=by omega
    subst this;exact wpS_pure ⟨rfl,l,l,rfl,rk,lo,hi⟩
   ·rw[if_neg c]
    refine wpS_bind (C.cmp t' k ((l + r) / 2) _ hB kN (by omega) ?_)
    cases z:lt (ky kf (arrOf t') k) (ky kf (arrOf t') ((l + r) / 2)) with
    |true=>exact wpS_pure ⟨rfl,l,(l + r) / 2,rfl,by omega,lo,fun i a b=>Ze4 z (hu _ _ a b)⟩
    |false=>exact wpS_pure ⟨rfl,(l + r) / 2 + 1,r,rfl,by omega,fun i a=>Zgv (hu i ((l + r) / 2) (by omega) (by omega)) z,hi⟩
  ·obtain ⟨rfl,l,r,rfl,⟨lr,rk,hm⟩,lo,hi⟩:=hI
   have:l=r:=by omega
   subst this;exact ⟨rfl,l,l,rfl,rk,lo,hi⟩
  ·obtain ⟨rfl,l,r,rfl,lk,lo,hi⟩:=hI
   show wpS _ _ _ _ (moveDown' k l >>= fun _=>pure (ForInStep.yield (none,()))) _ _
   rw[moveDown'_eq];refine wpS_bind (wpS_modify (wpS_pure ⟨rfl,C.put t' _ hB (bubble_perm ..),?_⟩))
   rw[Nat.min_eq_left (by omega)]
   intro i j ij jk;show le (ky kf (bubble (arrOf t') k (k - l)) i) (ky kf (bubble (arrOf t') k (k - l)) j)
   rw[Zkp (by omega) (by omega),Zkp (by omega) (by omega),show k - (k - l)=l by omega]
   by_cases i1:i=l
   ·rw[if_pos i1]
    by_cases j1:j=l
    ·rw[if_pos j1];exact ZdK _
    ·rw[if_neg j1,if_pos (by omega)];exact Zh3 (hi _ (by omega) (by omega))
   ·rw[if_neg i1]
    by_cases i2:l < i/\i<=k
    ·rw[if_pos i2,if_neg (by omega),if_pos (by omega)];exact hu _ _ (by omega) (by omega)
    ·rw[if_neg i2]
     by_cases j1:j=l
     ·rw[if_pos j1];exact lo _ (by omega)
     ·rw[if_neg j1]
      by_cases j2:l < j/\j<=k
      ·rw[if_pos j2];exact hu _ _ (by omega) (by omega)
      ·rw[if_neg j2];exact hu _ _ (by omega) (by omega)
 ·obtain ⟨rfl,hB,hu⟩:=hI
  rw[show min (max (max ok 1) n) n=n by omega] at hu
  exact ⟨rfl,hB,hu⟩
 ·by_cases c:ok=0
  ·rw[show i=j by omega];exact ZdK _
  ·exact hu i j ij (by omega)
 ·obtain ⟨rfl,hB,hu⟩:=hI
  exact wpS_pure (q t hB hu)
structure Cn (B:SortSt->Prop):Prop where
 fail: ∀ st,B st->failedOf st=none
 pend: ∀ st,B st->pendingOf st= #[]
theorem ZnN (C:Cm (model prog w) A E s kf B N)(D:Cn B){st:SortSt}{Q:Unit->SortSt->Prop}(h2:2<=N)(h64:N < 64)(hB:B st)
  (q: ∀ t t',B t->arrOf t'=arrOf t->failedOf t'=none->Up kf (arrOf t) N->Q () t'):wpS (model prog w) A E s sortRuns' Q st:=by
 rw[sortRuns'_eq];refine wpS_bind (wpS_get ?_)
 have mr:minRun' N N 0=N:=by
  have:minRun' ((N - 1) + 1) N 0=N:=by rw[minRun'_succ,if_pos h64];rfl
  rwa [show N - 1 + 1=N by omega] at this
 simp only[C.sz st hB,mr];refine wpS_bind (wpS_mono (wpS_forRange (fun x c t=>(x=0/\c=(none,0)/\B t)\/(1<=x/\c=(none,N)/\ ∃ t0,B t0/\t=setPending t0 #[(0,N,0)]/\Up kf (arrOf t0) N)) (Q:=fun c t=>c=(none,N)/\ ∃ t0,B t0/\t=setPending t0 #[(0,N,0)]/\Up kf (arrOf t0) N) (fun x c t _ xN hI=> ?_) (fun c t hI=> ?_) (.inl ⟨rfl,rfl,hB⟩)) fun c t hI=> ?_)
 ·rcases hI with ⟨rfl,rfl,hB⟩ | ⟨x1,rfl,hD⟩
  ·show wpS _ _ _ _ (if 0 ≥ N then _ else _) _ _
   rw[if_neg (by omega)]
   simp only[Nat.sub_zero,Nat.min_self,Nat.zero_add];refine wpS_bind (Zqg C (Nat.le_refl _) (by omega) hB fun m t1 hB1 m1 m2 hu=> ?_)
   have fin: ∀ t1,B t1->Up kf (arrOf t1) N->(pendingOf t1).back?=none/\((0=0/\((none,N):Option Unit × Nat)=(none,0)/\B (setPending t1 ((pendingOf t1).push (0,N,0))))\/(1<=0 + 1/\((none,N):Option Unit × Nat)=(none,N)/\ ∃ t0,B t0/\setPending t1 ((pendingOf t1).push (0,N,0))=setPending t0 #[(0,N,0)]/\Up kf (arrOf t0) N)):=fun t1 hB1 hu=>by
    rw[D.pend t1 hB1];exact ⟨rfl,.inr ⟨by omega,rfl,t1,hB1,rfl,hu⟩⟩
   show wpS _ _ _ _ (if m < N then _ else _) _ _
   by_cases c:m < N
   ·rw[if_pos c]
    refine wpS_bind (wpS_lift (wpAny_rule ⟨rfl,wpS_bind (Zqh C (Nat.le_refl _) m2 hB1 hu fun t2 hB2 hu2=> ?_)⟩))
    simp only[Bool.not_true,Bool.false_eq_true,if_false];refine wpS_bind (wpS_get ?_)
    rw[(fin t2 hB2 hu2).1];refine wpS_bind (wpS_modify (wpS_pure (.inr ⟨by omega,rfl,t2,hB2,?_,hu2⟩)))
    rw[D.pend t2 hB2];rfl
   ·rw[if_neg c]
    have:m=N:=by omega
    subst this;refine wpS_bind (wpS_get ?_)
    rw[(fin t1 hB1 hu).1];refine wpS_bind (wpS_modify (wpS_pure (.inr ⟨by omega,rfl,t1,hB1,?_,hu⟩)))
    rw[D.pend t1 hB1];rfl
  ·show wpS _ _ _ _ (if N ≥ N then _ else _) _ _
   rw[if_pos (Nat.le_refl _)];exact wpS_pure ⟨rfl,hD⟩
 ·rcases hI with ⟨x0,_,_⟩ | ⟨_,hc,hD⟩
  ·omega
  ·exact ⟨hc,hD⟩
 ·obtain ⟨rfl,t0,hB0,rfl,hu⟩:=hI
  refine wpS_bind (wpS_mono (wpS_forRange (fun _ c t=>t=setPending t0 #[(0,N,0)]/\c=(none,())) (Q:=fun c t=>t=setPending t0 #[(0,N,0)]/\c=(none,())) (fun x c t _ _ hI=> ?_) (fun _ _ h=>h) ⟨rfl,rfl⟩) fun c t hI=> ?_)
  ·obtain ⟨rfl,rfl⟩:=hI
   refine wpS_bind (wpS_get ?_)
   rw[if_pos (show (pendingOf (setPending t0 #[(0,N,0)])).size<=1 from Nat.le_refl 1)];exact wpS_pure ⟨rfl,rfl⟩
  ·obtain ⟨rfl,rfl⟩:=hI
   exact wpS_pure (q t0 _ hB0 rfl (D.fail t0 hB0) hu)
theorem Zh6 (x y:Value):keyLt' (tuples' true) x y=(do
  let xs <- Builtin.List.listItems x
  let ys <- Builtin.List.listItems y
  for ((p,q),i) in (xs.toList.zip ys.toList).zipIdx do
   if !(<- eqBool p q) then return <- oneLt' (true && i == 0) p q
  return decide (xs.size < ys.size)):=rfl
noncomputable def ZnO (x:(Value × Value) × Nat)(_:Option Bool × Unit):Sem (ForInStep (Option Bool × Unit)):=match x with
 | ((p,q),i)=>do
  let b <- eqBool p q
  if (!b)=true then do
   let r <- oneLt' (true && i == 0) p q
   pure (ForInStep.done (some r,()))
  else pure (ForInStep.yield (none,()))
theorem Zh7 {f:Bool}{a b:Int}{t u:Tok}{Q:Bool->Shared->Prop}(h:Q (decide (a < b)) s):wpAny (model prog w) A (oneLt' f (.int a t) (.int b u)) Q E s:=by
 cases f with
 |true=>exact oneLt_int h
 |false=>
  rw[oneLt'_eq];simp only[Bool.false_eq_true,if_false];exact wpAny_bind (HT.Zi8 _ _ _ _ _ _ _ _ _ _ (wpAny_truthy_bool h))
theorem ZfO: ∀ {us vs:List Value} {ns ms:List Int},IntsAre us ns->IntsAre vs ms-> ∀ (k:Nat) (Q:Option Bool × Unit->Shared->Prop),
  (∀ b,b=HT.Zbf ns ms->Q (some b,()) s)->(HT.Zbf ns ms=decide (us.length < vs.length)->Q (none,()) s)->wpAny (model prog w) A (forIn ((us.zip vs).zipIdx k) (none,()) ZnO) Q E s
 |_,_,_,_,.nil,.nil,k,Q,_,h2=>by
  simp only[List.zip_nil_left,List.zipIdx_nil,List.forIn_nil];exact wpAny_pure (h2 rfl)
 |_,_,_,_,.nil,.cons m t hv,k,Q,_,h2=>by
  simp only[List.zip_nil_left,List.zipIdx_nil,List.forIn_nil];exact wpAny_pure (h2 (by simp[HT.Zbf]))
 |_,_,_,_,.cons n t hu,.nil,k,Q,_,h2=>by
  simp only[List.zip_nil_right,List.zipIdx_nil,List.forIn_nil];exact wpAny_pure (h2 (by simp[HT.Zbf]))
 |_,_,_,_,.cons (ns:=ns) (vs:=us) n t hu,.cons (ns:=ms) (vs:=vs) m u hv,k,Q,h1,h2=>by
  rw[List.zip_cons_cons,List.zipIdx_cons,List.forIn_cons];obtain ⟨e,he,hi⟩:=HT.Zi7 A s n t m u
  refine wpAny_bind (wpAny_bind (he prog w _ _ ?_))
  cases e with
  |true=>
   have:n=m:=hi.mp rfl
   subst this;refine wpAny_pure (ZfO hu hv (k + 1) Q (fun b hb=>h1 b ?_) fun z=>h2 ?_)
   ·rw[HT.ZaR,if_pos rfl];exact hb
   ·rw[HT.ZaR,if_pos rfl,z];simp
  |false=>
   have:n≠m:=fun z=>by have:=hi.mpr z;cases this
   refine wpAny_bind (Zh7 (wpAny_pure (wpAny_pure (h1 _ ?_))))
   rw[HT.ZaR,if_neg this]
noncomputable def Zcr (h:Heap)(v:Value)(ns:List Int):Prop:= ∃ a o its n,v= .ref a/\h.get? a=some o/\o.cls= .type "tuple"/\o.data= .seq its n/\IntsAre its.toList ns
theorem Zew: ∀ {us:List Value} {ns ms:List Int},IntsAre us ns->IntsAre us ms->ns=ms
 |_,_,_,.nil,.nil=>rfl
 |_,_,_,.cons n t h,.cons _ _ g=>by rw[Zew h g]
theorem Zcr.uniq {h:Heap}{v:Value}{ns ms:List Int}(a:Zcr h v ns)(b:Zcr h v ms):ns=ms:=by
 obtain ⟨p,o,its,n,rfl,e1,e2,e3,e4⟩:=a
 obtain ⟨p',o',its',n',e5,f1,f2,f3,f4⟩:=b
 cases e5
 rw[e1] at f1;cases f1
 rw[e3] at f3;cases f3
 exact Zew e4 f4
theorem Zcr.kept {h h':Heap}{v:Value}{ns:List Int}(a:Zcr h v ns)(k: ∀ p o,h.get? p=some o->o.cls= .type "tuple"->h'.get? p=some o):Zcr h' v ns:=by
 obtain ⟨p,o,its,n,e0,e1,e2,e3,e4⟩:=a
 exact ⟨p,o,its,n,e0,k p o e1 e2,e2,e3,e4⟩
theorem Zqi {x y:Value}{ns ms:List Int}{Q:Bool->Shared->Prop}(hx:Zcr s.heap x ns)(hy:Zcr s.heap y ms)(q:Q (HT.Zbf ns ms) s):wpAny (model prog w) A (keyLt' (tuples' true) x y) Q E s:=by
 obtain ⟨a,o,its,n,rfl,e1,e2,e3,e4⟩:=hx
 obtain ⟨b,o',its',n',rfl,f1,f2,f3,f4⟩:=hy
 rw[Zh6];refine wpAny_bind (listItems_at e1 e3 (wpAny_bind (listItems_at f1 f3 ?_)))
 show wpAny _ _ (forIn ((its.toList.zip its'.toList).zipIdx 0) (none,()) ZnO >>= _) _ _ _
 refine wpAny_bind (ZfO e4 f4 0 _ (fun b hb=> ?_) fun z=> ?_)
 ·rw[hb];exact wpAny_pure q
 ·show wpAny _ _ (pure (decide (its.size < its'.size))) _ _ _
  rw[show decide (its.size < its'.size)=HT.Zbf ns ms by rw[z];simp]
  exact wpAny_pure q
open Classical in
noncomputable def kfH (h:Heap)(p:Keyed):List Int:=if e: ∃ ns,Zcr h p.1 ns then e.choose else []
theorem Zks {h:Heap}{p:Keyed}{ns:List Int}(e:Zcr h p.1 ns):kfH h p=ns:=by
 unfold kfH;rw[dif_pos ⟨ns,e⟩];exact (Exists.choose_spec (⟨ns,e⟩: ∃ ns,Zcr h p.1 ns)).uniq e
structure TB (a₀:Array Keyed) (st:SortSt):Prop where
 perm:(arrOf st).Perm a₀
 kind:kindOf st=tuples' true
 fail:failedOf st=none
 pend:pendingOf st= #[]
theorem Zqj {a₀:Array Keyed}(hk: ∀ p∈a₀.toList,∃ ns,Zcr s.heap p.1 ns):Cm (model prog w) A E s (kfH s.heap) (TB a₀) a₀.size where
 sz st h:=h.perm.size_eq
 put st xs h hp:=⟨hp.trans h.perm,h.kind,h.fail,h.pend⟩
 cmp st i j Q h hi hj q:=by
  have sz:=h.perm.size_eq
  have gt: ∀ k,k < a₀.size-> ∃ x p ns,(arrOf st)[k]?=some (x,p)/\Zcr s.heap x ns/\ky (kfH s.heap) (arrOf st) k=ns:=fun k kk=>by
   have kl:k < (arrOf st).size:=by omega
   have e:(arrOf st)[k]?=some (arrOf st)[k]:=getElem?_pos _ k kl
   obtain ⟨ns,ht⟩:=hk _ ((Array.perm_iff_toList_perm.mp h.perm).mem_iff.mp (show (arrOf st)[k]∈(arrOf st).toList by simp))
   refine ⟨(arrOf st)[k].1,(arrOf st)[k].2,ns,e,ht,?_⟩
   unfold ky;rw[e];exact Zks ht
  obtain ⟨x,p,ns,e1,t1,k1⟩:=gt i hi
  obtain ⟨y,p',ms,e2,t2,k2⟩:=gt j hj
  rw[k1,k2] at q;rw[ltAt'_eq];refine wpS_bind (wpS_get ?_)
  show wpS _ _ _ _ (elem' (arrOf st) i >>= fun x=>elem' (arrOf st) j >>= fun y=>lt' x y) Q st
  rw[elem'_eq,elem'_eq,e1,e2];refine wpS_bind (wpS_pure (wpS_bind (wpS_pure ?_)))
  rw[lt'_eq];refine wpS_bind (wpS_get ?_)
  rw[h.kind];exact wpS_bind (wpS_lift (wpAny_attempt (Zqi t1 t2 ⟨rfl,wpS_pure q⟩)))
theorem Zqk {a₀:Array Keyed}:Cn (TB a₀):=⟨fun _ h=>h.fail,fun _ h=>h.pend⟩
theorem Zlz {v:Value}{n:Int}{ns:List Int}{Q:Option Value->Shared->Prop}(h:Zcr s.heap v (n :: ns))(q: ∀ t,Q (some (.int n t)) s):wpAny (model prog w) A (firstOfTuple' v) Q E s:=by
 obtain ⟨a,o,its,m,rfl,e1,e2,e3,e4⟩:=h
 have e:firstOfTuple' (.ref a)=(do
  if (<- typeOf (.ref a)) != .type "tuple" then return none
  return (<- Builtin.List.listItems (.ref a))[0]?):=rfl
 rw[e];refine wpAny_bind (wpAny_typeOf ⟨o,e1,e2⟩ ?_)
 rw[if_neg (by decide)]
 refine wpAny_bind (listItems_at e1 e3 (wpAny_pure ?_))
 cases its with
 |mk l=>
  cases e4 with
  |cons n t h=>exact q t
theorem ZfP: ∀ {vs:List Value},(∀ v∈vs,∃ n ns,Zcr s.heap v (n :: ns))-> ∀ (Q:List (Option Value)->Shared->Prop),(∀ us ns,IntsAre us ns->us.length=vs.length->Q (us.map some) s)->wpAny (model prog w) A (vs.mapM firstOfTuple') Q E s
 | [],_,Q,q=>by
  rw[List.mapM_nil];exact wpAny_pure (q [] [] .nil rfl)
 |v :: vs,h,Q,q=>by
  obtain ⟨n,ns,hv⟩:=h v (by simp)
  rw[List.mapM_cons];refine wpAny_bind (Zlz hv fun t=>wpAny_bind (ZfP (fun x hx=>h x (List.mem_cons_of_mem _ hx)) _ fun us ms hi hl=>wpAny_pure ?_))
  exact q (.int n t :: us) (n :: ms) (.cons n t hi) (by simp[hl])
theorem ZnP {vs:List Value}{Q:SortKind->Shared->Prop}(h: ∀ v∈vs,∃ n ns,Zcr s.heap v (n :: ns))(ne:vs≠[])(q:Q (tuples' true) s):wpAny (model prog w) A (keyKind' vs.toArray) Q E s:=by
 rw[keyKind'_eq,List.mapM_toArray];simp only[map_eq_pure_bind,bind_assoc,pure_bind];refine wpAny_bind (ZfP h _ fun us ns hi hl=> ?_)
 have a1:((us.map some).toArray.all fun x=>x.isSome)=true:=by simp
 rw[if_pos a1];refine wpAny_bind (wpAny_rule ?_)
 have a2:(us.map some).toArray.filterMap id=us.toArray:=by simp
 rw[a2,oneTypeOnly'_eq,List.mapM_toArray,mapM_typeOf_ints hi];cases us with
 |nil=>exact absurd (List.eq_nil_of_length_eq_zero hl.symm) ne
 |cons u us=>
  simp only[map_pure,pure_bind];have b0:(List.map (fun _=>Value.type "int") (u :: us)).toArray[0]?=some (Value.type "int"):=by simp
  have b1:((List.map (fun _=>Value.type "int") (u :: us)).toArray.all fun x=>x == Value.type "int")=true:=by
   rw[List.all_toArray,List.all_map,List.all_eq_true];exact fun _ _=>rfl
  rw[b0];show wpAny _ _ (pure (if ((List.map (fun _=>Value.type "int") (u :: us)).toArray.all fun x=>x == Value.type "int")=true then some (Value.type "int") else none) >>= _) _ _ _
  rw[if_pos b1];exact wpAny_bind (wpAny_pure (wpAny_pure q))
theorem ZnQ {a:Addr}{vs:List Value}{n:Nat}{P:Fin->Shared->Prop}(ho:s.heap.get? a=some (seqObj "list" vs.toArray n))(hk: ∀ v∈vs,∃ k ns,Zcr s.heap v (k :: ns))(h64:vs.length < 64)
  (q: ∀ out:List Value,out.Perm vs->(∀ i j (hi:i < out.length) (hj:j < out.length),i<=j-> ∀ ns ms,Zcr s.heap out[i] ns->Zcr s.heap out[j] ms->HT.Zbf ms ns=false)->P (.done (.ret .none)) { s with heap:=sortedHeap s.heap a vs out.toArray }):
  wpAny (model prog w) A (Builtin.«list.sort» ⟨[.ref a],[]⟩) P E s:=by
 have al:a < s.heap.objs.size:=Heap.lt_size ho
 obtain ⟨e1,o1⟩: ∃ e1,(s.heap.update a (Obj.mapSeq fun _=> #[])).get? a=some (seqObj "list" #[] e1):=⟨_,get?_update_seq ho (fun _=> #[])⟩
 have o2:(((s.heap.update a (Obj.mapSeq fun _=> #[])).push (seqObj "tuple" vs.toArray 0)).push (seqObj "list" #[] 0)).get? a=some (seqObj "list" #[] e1):=
  Heap.get?_push_of_some _ (Heap.get?_push_of_some _ o1)
 have kp: ∀ v ns,Zcr s.heap v ns->Zcr (((s.heap.update a (Obj.mapSeq fun _=> #[])).push (seqObj "tuple" vs.toArray 0)).push (seqObj "list" #[] 0)) v ns:=fun v ns ht=>ht.kept fun p o ep ec=>by
  have:p≠a:=fun z=>by
   subst z;rw[ho] at ep;cases ep
   revert ec
   show ¬ (Value.type "list"=Value.type "tuple")
   decide
  exact Heap.get?_push_of_some _ (Heap.get?_push_of_some _ ((Heap.get?_update_other _ _ (Ne.symm this)).trans ep))
 rw[list_sort_plain];refine wpAny_bind (listItems_at ho rfl (wpAny_bind (listUpdate_at ho rfl (wpAny_bind (seqEpoch_at o1 rfl (wpAny_bind (wpAny_newTuple (wpAny_bind (wpAny_newList (wpAny_holding ?_))))))))))
 show wpAny _ _ _ P E { s with heap:=((s.heap.update a (Obj.mapSeq fun _=> #[])).push (seqObj "tuple" vs.toArray 0)).push (seqObj "list" #[] 0) }
 have vz:vs.toArray.size=vs.length:=by simp
 have fin: ∀ xs:Array Keyed,xs.Perm (pairsOf vs)->(∀ i j,i<=j->j < vs.length->le (ky (kfH (((s.heap.update a (Obj.mapSeq fun _=> #[])).push (seqObj "tuple" vs.toArray 0)).push (seqObj "list" #[] 0))) xs i) (ky (kfH (((s.heap.update a (Obj.mapSeq fun _=> #[])).push (seqObj "tuple" vs.toArray 0)).push (seqObj "list" #[] 0))) xs j))->
   P (.done (.ret .none)) { s with heap:=sortedHeap s.heap a vs (xs.map (·.2)) }:=by
  intro xs hp hu;have hl:xs.toList.Perm (vs.zip vs):=by rw[<- pairsOf_toList];exact Array.perm_iff_toList_perm.mp hp
  have hm: ∀ p∈xs.toList,p.1=p.2/\p.1∈vs:=fun p hp=>mem_zip_self (hl.mem_iff.mp hp)
  have e2:(xs.toList.map (·.2)).Perm vs:=by
   have:=hl.map (fun p:Keyed=>p.2)
   rwa [List.map_snd_zip (Nat.le_refl _)] at this
  have ea:xs.map (·.2)=(xs.toList.map (·.2)).toArray:=by
   apply Array.toList_inj.mp
   simp
  rw[ea];refine q _ e2 fun i j hi hj ij ns ms t1 t2=> ?_
  have li:i < xs.size:=by simpa using hi
  have lj:j < xs.size:=by simpa using hj
  have lv:xs.size=vs.length:=by rw[hp.size_eq,pairsOf_size]
  have kk: ∀ k (hk:k < xs.size) (ns:List Int),Zcr s.heap (xs[k]).2 ns->ky (kfH (((s.heap.update a (Obj.mapSeq fun _=> #[])).push (seqObj "tuple" vs.toArray 0)).push (seqObj "list" #[] 0))) xs k=ns:=fun k hk ns ht=>by
   unfold ky;rw[getElem?_pos xs k hk]
   exact Zks (kp _ _ (by rw[(hm xs[k] (by simp)).1];exact ht))
  have:=hu i j ij (by omega)
  rw[kk i li ns (by simpa using t1),kk j lj ms (by simpa using t2)] at this
  exact this
 have Za7: ∀ st':SortSt,(arrOf st').Perm (pairsOf vs)->failedOf st'=none->(∀ i j,i<=j->j < vs.length->le (ky (kfH (((s.heap.update a (Obj.mapSeq fun _=> #[])).push (seqObj "tuple" vs.toArray 0)).push (seqObj "list" #[] 0))) (arrOf st') i) (ky (kfH (((s.heap.update a (Obj.mapSeq fun _=> #[])).push (seqObj "tuple" vs.toArray 0)).push (seqObj "list" #[] 0))) (arrOf st') j))->
   wpAny (model prog w) A (do
    let b <- seqEpoch a
    Builtin.List.listUpdate (.ref a) fun _=>(arrOf st').map (·.2)
    if let some e:=failedOf st' then rule "list.sort.comparison-raised";throw e
    if (b != e1)=true then rule "list.sort.modified";raiseError "ValueError" "list modified during sort"
    ret .none) P E { s with heap:=((s.heap.update a (Obj.mapSeq fun _=> #[])).push (seqObj "tuple" vs.toArray 0)).push (seqObj "list" #[] 0) }:=by
  intro st' hp hf hu;refine wpAny_bind (seqEpoch_at o2 rfl (wpAny_bind (listUpdate_at o2 rfl ?_ (hsz2:= ?_))))
  ·rw[hf]
   simp only[bne_self_eq_false,Bool.false_eq_true,if_false];exact wpAny_pure (fin _ hp hu)
  ·rw[Array.size_map,hp.size_eq,pairsOf_size,sizeLine_eq];omega
 by_cases c:vs.toArray.size < 2
 ·rw[if_pos c,if_pos c]
  refine wpAny_bind (wpAny_pure ?_)
  show wpAny _ _ ((pure ():StateT SortSt Sem Unit).run (SortSt.mk' general' (vs.toArray.zip vs.toArray) #[] 7 none) >>= _) _ _ _
  rw[StateT.run_pure];exact wpAny_bind (wpAny_pure (Za7 (SortSt.mk' general' (vs.toArray.zip vs.toArray) #[] 7 none) (Array.Perm.refl _) rfl fun i j ij jn=>by rw[show i=j by omega];exact ZdK _))
 ·rw[if_neg c,if_neg c]
  refine wpAny_bind (ZnP (fun v hv=> ?_) (fun z=> ?_) (wpAny_bind (wpAny_mono (ZnN (N:=(pairsOf vs).size) (Q:=fun _ t'=> ∃ t,TB (pairsOf vs) t/\arrOf t'=arrOf t/\failedOf t'=none/\Up (kfH (((s.heap.update a (Obj.mapSeq fun _=> #[])).push (seqObj "tuple" vs.toArray 0)).push (seqObj "list" #[] 0))) (arrOf t) (pairsOf vs).size) (Zqj fun p hp=> ?_) Zqk (by rw[pairsOf_size];omega) (by rw[pairsOf_size];exact h64) ⟨Array.Perm.refl _,rfl,rfl,rfl⟩ fun t t' a1 a2 a3 a4=>⟨t,a1,a2,a3,a4⟩) ?_ fun _ _ z=>z)))
  ·obtain ⟨k,ns,ht⟩:=hk v hv
   exact ⟨k,ns,kp _ _ ht⟩
  ·rw[z] at c;simp at c
  ·rw[pairsOf_toList] at hp
   obtain ⟨k,ns,ht⟩:=hk p.1 (mem_zip_self hp).2
   exact ⟨_,kp _ _ ht⟩
  ·rintro ⟨⟨⟩,t'⟩ s' ⟨rfl,t,tb,ea,ef,hu⟩
   rw[pairsOf_size] at hu;exact Za7 t' (by rw[ea];exact tb.perm) ef (by rw[ea];exact hu)
theorem Zjw {l:Addr}{vs:List Value}{Q:Value->Shared->Prop}(hl:s.heap.IsList l vs.toArray)(hk: ∀ v∈vs,∃ k ns,Zcr s.heap v (k :: ns))(h64:vs.length < 64)
  (q: ∀ out:List Value,out.Perm vs->(∀ i j (hi:i < out.length) (hj:j < out.length),i<=j-> ∀ ns ms,Zcr s.heap out[i] ns->Zcr s.heap out[j] ms->HT.Zbf ms ns=false)->Q (.ref (s.heap.objs.size + 1)) { s with heap:=sortedAll s.heap vs out.toArray }):
  wpAny (model prog w) A (call (.builtin "sorted") [.ref l]) Q E s:=by
 have z1:((s.heap.push (seqObj "list" #[] 0)).update s.heap.objs.size (Obj.mapSeq (· ++ vs.toArray))).objs.size=s.heap.objs.size + 1:=by rw[Heap.size_update,size_push']
 have o1:(((s.heap.push (seqObj "list" #[] 0)).update s.heap.objs.size (Obj.mapSeq (· ++ vs.toArray))).push (seqObj "list" vs.toArray 0)).get? (s.heap.objs.size + 1)=some (seqObj "list" vs.toArray 0):=by
  rw[<- z1];exact Heap.get?_push_size _ rfl
 have kp: ∀ p o,s.heap.get? p=some o->(((s.heap.push (seqObj "list" #[] 0)).update s.heap.objs.size (Obj.mapSeq (· ++ vs.toArray))).push (seqObj "list" vs.toArray 0)).get? p=some o:=fun p o ep=>
  Heap.get?_push_of_some _ ((Heap.get?_update_other _ _ (Nat.ne_of_gt (Heap.lt_size ep))).trans (Heap.get?_push_of_some _ ep))
 refine Calls.call_function_entry kind_sorted plain_sorted entry_sorted (args_sorted1 _) ?_
 unfold Builtin.«sorted»;refine wpAny_bind (m:=checkCount "sorted" 1 1 _) (wpAny_pure (wpAny_bind (collect_list hl (wpAny_bind (wpAny_newList ?_)))))
 show wpAny _ _ _ _ _ { s with heap:=((s.heap.push (seqObj "list" #[] 0)).update s.heap.objs.size (Obj.mapSeq (· ++ vs.toArray))).push (seqObj "list" vs.toArray 0) }
 rw[z1];refine wpAny_bind (wpAny_holding (wpAny_call_entry slot_list_sort ⟨_,o1,rfl⟩ entry_list_sort (ZnQ o1 (fun v hv=> ?_) h64 fun out hp hs=>⟨_,rfl,wpAny_pure ⟨_,rfl,q out hp fun i j hi hj ij ns ms t1 t2=>hs i j hi hj ij ns ms (t1.kept fun p o e _=>kp p o e) (t2.kept fun p o e _=>kp p o e)⟩⟩) (args_list_sort _)))
 obtain ⟨k,ns,ht⟩:=hk v hv
 exact ⟨k,ns,ht.kept fun p o e _=>kp p o e⟩
end
end ST
end
section
namespace ST
noncomputable def ins (x:List Int):List (List Int)->List (List Int)
 | []=>[x]
 |y :: r=>if lt y x=true then y :: ins x r else x :: y :: r
noncomputable def srt:List (List Int)->List (List Int)
 | []=>[]
 |x :: r=>ins x (srt r)
theorem ZdL (x:List Int): ∀ l,(ins x l).Perm (x :: l)
 | []=> .refl _
 |y :: r=>by
  unfold ins
  split
  ·exact ((ZdL x r).cons y).trans (.swap x y r)
  ·exact .refl _
theorem ZdM: ∀ l,(srt l).Perm l
 | []=> .refl _
 |x :: r=>(ZdL x (srt r)).trans ((ZdM r).cons x)
theorem Zkt (x:List Int): ∀ l,l.Pairwise le->(ins x l).Pairwise le
 | [],_=>List.pairwise_singleton _ _
 |y :: r,h=>by
  obtain ⟨h1,h2⟩:=List.pairwise_cons.mp h
  unfold ins
  split
  ·rename_i c
   refine List.pairwise_cons.mpr ⟨fun z hz=> ?_,Zkt x r h2⟩
   rcases List.mem_cons.mp ((ZdL x r).mem_iff.mp hz) with rfl | hz
   ·exact Zh3 c
   ·exact h1 z hz
  ·rename_i c
   have c:le x y:=by unfold le;simpa using c
   refine List.pairwise_cons.mpr ⟨fun z hz=> ?_,h⟩
   rcases List.mem_cons.mp hz with rfl | hz
   ·exact c
   ·exact Zgv c (h1 z hz)
theorem Zku: ∀ l,(srt l).Pairwise le
 | []=> .nil
 |x :: r=>Zkt x _ (Zku r)
theorem Zjx {a b:List (List Int)}(hp:a.Perm b)(h:a.Pairwise le):a=srt b:=
 List.Perm.eq_of_pairwise (fun x y _ _ h1 h2=>Zev h2 h1) h (Zku b) (hp.trans (ZdM b).symm)
end ST
namespace DL
open PySem PySem.Spec PyProof.Rows L2 PySem.W
theorem ZcX {α β:Type}{F:α->β->Prop}{us us':List β}(hp:us'.Perm us): ∀ {xs:List α},Paired F xs us-> ∃ xs',xs'.Perm xs/\Paired F xs' us':=by
 induction hp with
 |nil=>intro xs h;exact ⟨xs,.refl _,h⟩
 | @cons a l1 l2 h ih=>
  intro xs r;cases r with
  |cons r1 r2=>
   obtain ⟨xs',p1,p2⟩:=ih r2
   exact ⟨_ :: xs',p1.cons _,.cons r1 p2⟩
 |swap a b l=>
  intro xs r;cases r with
  |cons r1 r2=>
   cases r2 with
   |cons r2 r3=>exact ⟨_ :: _ :: _,.swap _ _ _,.cons r2 (.cons r1 r3)⟩
 |trans h1 h2 i1 i2=>
  intro xs r;obtain ⟨x1,p1,q1⟩:=i2 r
  obtain ⟨x2,p2,q2⟩:=i1 q1
  exact ⟨x2,p2.trans p1,q2⟩
theorem Zh8 {K:PySem.W.Frag}{H:Hp}{α:List Addr}{vs vs':List V}(hp:vs'.Perm vs): ∀ {ds:List D},Reps K H α vs ds-> ∃ ds',ds'.Perm ds/\Reps K H α vs' ds':=by
 induction hp with
 |nil=>intro xs h;exact ⟨xs,.refl _,h⟩
 | @cons a l1 l2 h ih=>
  intro xs r;cases r with
  |cons r1 r2=>
   obtain ⟨xs',p1,p2⟩:=ih r2
   exact ⟨_ :: xs',p1.cons _,.cons r1 p2⟩
 |swap a b l=>
  intro xs r;cases r with
  |cons r1 r2=>
   cases r2 with
   |cons r2 r3=>exact ⟨_ :: _ :: _,.swap _ _ _,.cons r2 (.cons r1 r3)⟩
 |trans h1 h2 i1 i2=>
  intro xs r;obtain ⟨x1,p1,q1⟩:=i2 r
  obtain ⟨x2,p2,q2⟩:=i1 q1
  exact ⟨x2,p2.trans p1,q2⟩
noncomputable def Zmo (K:PySem.W.Frag)(H:Hp)(x:V)(ns:List Int):Prop:= ∃ q,x= .ref q/\SqT K H q (ns.map V.int)
section
variable {X:Cx}{ξ:XK}
noncomputable def Zql (X:Cx):List V->Hp->VK->Prop:=fun vs H Q=> ∃ p xs,vs=[.ref p]/\SqL X.K H p xs/\xs.length < 64/\(∀ x∈xs,∃ k ns,Zmo X.K H x (k :: ns))/\
 ∀ l ys,H l=none->ys.Perm xs->(∀ i j (hi:i < ys.length) (hj:j < ys.length),i<=j-> ∀ ns ms,Zmo X.K H ys[i] ns->Zmo X.K H ys[j] ms->ST.le ns ms)->Q (.ref l) (upd H l (.lst ys))
theorem ZdN {pins:List (Addr × Obj)}{σ:L2.St}{H:Hp}{s:Shared}(I:Inv X pins σ H s){x:V}{u:Value}{ns:List Int}(h:Zmo X.K H x ns)(r:Zaa x u):ST.Zcr s.heap u ns:=by
 obtain ⟨q,rfl,hq⟩:=h
 cases r
 obtain ⟨its,r2,⟨o,k1,k2,n,k3⟩,_⟩:=I.tuple hq
 exact ⟨q,o,its.toArray,n,rfl,k1,k2,k3,by simpa using Zgj r2⟩
theorem Zbi:ZbS X (.builtin "sorted") (Zql X):=by
 intro pins s σ H vs us Q I rs hh;obtain ⟨p,xs,e,hl,h64,hk,q⟩:=hh
 subst e;obtain ⟨u,rfl,ru⟩:=ZcO rs
 cases ru
 obtain ⟨its,rv,pl,hz⟩:=I.list hl
 refine ST.Zjw (vs:=its) pl.isList (fun v hv=> ?_) (by rw[<- rv.length];exact h64) fun out hp hs=> ?_
 ·obtain ⟨i,hi,rfl⟩:=List.getElem_of_mem hv
  obtain ⟨x,e1,e2⟩:=ZhV rv (List.getElem?_eq_getElem hi)
  obtain ⟨k,ns,hx⟩:=hk x (List.mem_of_getElem? e1)
  exact ⟨k,ns,ZdN I hx e2⟩
 ·obtain ⟨ys,p1,p2⟩:=ZcX hp rv
  obtain ⟨n,hn⟩:=sortedAll_at s.heap its out.toArray
  refine ⟨.ref _,_,I.laid (t':=s.toks) (o:= .lst ys) (fun _ _ h=>sortedAll_old h) (Nat.le_succ _) ⟨by rw[p1.length_eq];exact hz,out,n,p2,hn⟩,rfl,q _ ys (I.hok.fresh (Nat.le_succ _)) p1 fun i j hi hj ij ns ms k1 k2=> ?_⟩
  have hl:ys.length=out.length:=ZX.length p2
  have a1: ∀ i (hi:i < ys.length),Zaa ys[i] (out[i]'(by omega)):=fun i hi=>by
   obtain ⟨u,e1,e2⟩:=ZX.get p2 (List.getElem?_eq_getElem hi)
   rw[List.getElem?_eq_getElem (by omega)] at e1
   cases e1
   exact e2
  exact hs i j (by omega) (by omega) ij ns ms (ZdN I k1 (a1 i hi)) (ZdN I k2 (a1 j hj))
theorem ZbZ:bootBuiltins "sorted"=some (.builtin "sorted"):=by decide +kernel
noncomputable def kyD:D->Option (List Int)
 | .tup xs=>(match Zet xs with | some (k :: ns)=>some (k :: ns) | _=>none)
 |_=>none
noncomputable def ksD:List D->Option (List (List Int))
 | []=>some []
 |d :: r=>match kyD d,ksD r with | some k,some ks=>some (k :: ks) | _,_=>none
noncomputable def tupD (ns:List Int):D:= .tup (ns.map D.int)
noncomputable def Zh9 (ds:List D)(M:Sto):Out D:=if ds.length < 64 then (match ksD ds with | some ks=> .ok (.ref M.length) (M ++ [.lst ((ST.srt ks).map tupD)]) | none=> .bad) else .bad
noncomputable def bSrt:List D->Sto->Out D:=fun ds M=>match ds with
 | [.ref n]=>(match M[n]? with | some (.lst xs)=>Zh9 xs M | none=> .bad)
 | [.rol xs]=>Zh9 xs M
 |_=> .bad
theorem Zex: ∀ {xs:List D} {a:List Int},Zet xs=some a->xs=a.map D.int
 | [],a,e=>by cases e;rfl
 |x :: r,a,e=>by
  cases x with
  |int i=>
   unfold Zet at e
   split at e
   ·rename_i is e1
    cases e
    rw[Zex e1];rfl
   ·cases e
  |_=>cases e
theorem Zey: ∀ a:List Int,Zet (a.map D.int)=some a
 | []=>rfl
 |i :: r=>by rw[List.map_cons,Zet,Zey r]
theorem ZnR {d:D}{ns:List Int}(h:kyD d=some ns):d=tupD ns/\ ∃ k r,ns=k :: r:=by
 unfold kyD at h
 split at h
 ·rename_i xs
  split at h
  ·rename_i k r e
   cases h
   exact ⟨by unfold tupD;rw[<- Zex e],k,r,rfl⟩
  ·cases h
 ·cases h
theorem Zkv: ∀ {ds:List D} {ks:List (List Int)},ksD ds=some ks->ds=ks.map tupD/\ ∀ k∈ks,k≠[]
 | [],ks,e=>by cases e;exact ⟨rfl,fun k hk=>by cases hk⟩
 |d :: r,ks,e=>by
  unfold ksD at e
  split at e
  ·rename_i k ks' e1 e2
   cases e
   obtain ⟨h1,h2⟩:=Zkv e2
   obtain ⟨h3,k0,r0,h4⟩:=ZnR e1
   refine ⟨by rw[List.map_cons,<- h1,<- h3],fun x hx=> ?_⟩
   rcases List.mem_cons.mp hx with rfl | hx
   ·rw[h4];exact List.cons_ne_nil _ _
   ·exact h2 x hx
  ·cases e
theorem Zia {H:Hp}{α:List Addr}{v:V}{ns:List Int}(r:Rep X.K H α v (tupD ns)):Zmo X.K H v ns:=by
 cases r with
 |tup hp rp=>
  have:=Zeu rp (Zey ns)
  subst this;exact ⟨_,rfl,SqT.of hp⟩
theorem Zb0:CO X ξ (Zql X) bSrt:=by
 intro H α M vs ds Q h rs q;have fin: ∀ (p:Addr) (xs:List V) (ys:List D),SqL X.K H p xs->Reps X.K H α xs ys->OP X.K H α ξ Q (Zh9 ys M)->Zql X [.ref p] H Q:=fun p xs ys k1 k2 q=>by
  unfold Zh9 at q
  split at q
  ·rename_i c
   cases e:ksD ys with
   |none=>simp only[e] at q;exact q.elim
   |some ks=>
    simp only[e] at q;obtain ⟨e1,e2⟩:=Zkv e
    subst e1;refine ⟨p,xs,rfl,k1,by rw[k2.length];exact c,fun x hx=> ?_,fun l zs hl hp hs=> ?_⟩
    ·obtain ⟨i,hi,rfl⟩:=List.getElem_of_mem hx
     obtain ⟨d,d1,d2⟩:=Ze3 k2 (List.getElem?_eq_getElem hi)
     obtain ⟨k,hk,rfl⟩:=List.mem_map.mp (List.mem_of_getElem? d1)
     match k,e2 k hk,d2 with
     |a :: b,_,d2=>exact ⟨a,b,Zia d2⟩
     | [],z,_=>exact absurd rfl z
    ·obtain ⟨ds',p1,p2⟩:=Zh8 hp k2
     obtain ⟨ks',p3,p4⟩: ∃ ks':List (List Int),ks'.Perm ks/\ds'=ks'.map tupD:=by
      have:Paired (fun (a:List Int) d=>d=tupD a) ks (ks.map tupD):=by
       clear k2 c e p1 hp e2 q
       induction ks with
       |nil=>exact .nil
       |cons a b ih=>exact .cons rfl ih
      obtain ⟨ks',q1,q2⟩:=ZcX p1 this
      refine ⟨ks',q1,?_⟩
      clear q1 p1 p2
      induction q2 with
      |nil=>rfl
      |cons h _ ih=>rw[List.map_cons,h,ih]
     subst p4;have hup:ks'.Pairwise ST.le:=by
      refine List.pairwise_iff_getElem.mpr fun i j hi hj ij=> ?_
      have lz:zs.length=ks'.length:=by rw[p2.length,List.length_map]
      have kk: ∀ i (hi:i < ks'.length),Zmo X.K H (zs[i]'(by omega)) ks'[i]:=fun i hi=>by
       obtain ⟨d,d1,d2⟩:=Ze3 p2 (List.getElem?_eq_getElem (show i < zs.length by omega))
       rw[List.getElem?_map,List.getElem?_eq_getElem hi] at d1
       cases d1
       exact Zia d2
      exact hs i j (by omega) (by omega) (Nat.le_of_lt ij) _ _ (kk i hi) (kk j hj)
     rw[ST.Zjx p3 hup] at p2;exact q _ _ (α ++ [l]) (Ext.new hl) (h.new hl p2) (.ref ⟨h.last l,Kn.lst Zv⟩)
  ·exact q.elim
 match rs with
 | .nil=>exact q.elim
 | .cons r (.cons _ _)=>cases r<;>exact q.elim
 | .cons (d:=x) r .nil=>
  cases r with
  | @rol p xs ds hp rp=>exact fin p xs ds hp.sq rp q
  | @ref p n hp=>
   cases em:M[n]? with
   |none=>simp only[bSrt,em] at q;exact q.elim
   |some so=>
    cases so with
    |lst es=>
     simp only[bSrt,em] at q;obtain ⟨xs,g1,g2⟩:=h.at hp em
     exact fin p xs es (SqL.of g1) g2 q
  |_=>exact q.elim
end
end DL
end
section
namespace DL
open PySem PySem.Spec PyProof.Rows L2
section
variable {X:Cx}{ξ:XK}{o e e2:Expr}{fo fa fb:Ev}{apos cpos:Pos}
theorem Reps.tk {K:PySem.W.Frag}{H:Hp}{α:List Addr}: ∀ {vs:List V} {ds:List D} (i:Nat),Reps K H α vs ds->Reps K H α (vs.take i) (ds.take i)
 |_,_,0,_=> .nil
 |_,_,_ + 1,.nil=> .nil
 |_,_,i + 1,.cons r t=> .cons r (Reps.tk i t)
end
end DL
end
section
namespace DL
open PySem PySem.Spec PyProof.Rows L2
section
variable {X:Cx}{ξ:XK}
end
end DL
end
section
namespace DL
open PySem PySem.Spec L2
noncomputable def eDt (d:D):Ev:=fun _ M=> .ok d M
noncomputable def ZpI (fo fi fo' fi' f:Ev):Sv:=fun ρ M=>Zar (f ρ M) fun d M1=>match d with
 | .tup [x,y]=>Zz (ZeT fo fi (eDt x)) (ZeT fo' fi' (eDt y)) ρ M1
 |_=> .bad
section
variable {X:Cx}{ξ:XK}{e:Expr}{f:Ev}{pos:Pos}
theorem Zkw {fo fi:Ev}{to ti:TE}{σ:L2.St}{ρ:Ro}{H:Hp}{α:List Addr}{M:Sto}{Dn:Ends}{v:V}{d:D}
  (qo: ∀ σ ρ H α M Q,SR X.K H α σ ρ->HR X.K H α M->OP X.K H α ξ Q (fo ρ M)->to σ H Q) (qi: ∀ σ ρ H α M Q,SR X.K H α σ ρ->HR X.K H α M->OP X.K H α ξ Q (fi ρ M)->ti σ H Q)
  (s:SR X.K H α σ ρ) (h1:HR X.K H α M) (r1:Rep X.K H α v d) (w1:FP X.K H α ξ Dn (ZeT fo fi (eDt d) ρ M)):ZpT to ti rSetL v σ H Dn.nx:=by
 refine qo σ ρ H α M _ s h1 (FP.seq (Dn:=Dn) w1 fun od M2 ov H2 α2 e2 h2 r2 w2=> ?_)
 refine qi σ ρ H2 α2 M2 _ (s.mono e2) h2 (FP.seq w2 fun kd M3 kv H3 α3 e3 h3 r3 w3=> ?_)
 cases Rep.mono e3 r2 with
 | @ref p n hp=>
  cases r3 with
  |int k=>
   cases em:M3[n]? with
   |none=>simp only[em] at w3;exact w3.elim
   |some so=>
    cases so with
    |lst ds=>
     cases ej:ixN ds.length k with
     |none=>simp only[em,ej] at w3;exact w3.elim
     |some j=>
      simp only[em,ej] at w3;obtain ⟨xs,g1,g2⟩:=h3.at hp em
      refine ⟨p,xs,k,j,rfl,rfl,g1,by rw[g2.length];exact ej,?_⟩
      exact w3 σ _ α3 (Ext.wr g1) (h3.wr hp g1 (Reps.set (Rep.mono e3 (Rep.mono e2 r1)) j g2)) (((s.mono e2).mono e3).mono (Ext.wr g1))
  |_=>exact w3.elim
 |_=>exact w3.elim
theorem ZnS {o i o' i':Expr}{fo fi fo' fi':Ev}{p1 p2 pt:Pos}{kt:Nat}(hc:X.calm=true)(ho:DE X ξ o fo)(hi:DE X ξ i fi)(ho':DE X ξ o' fo')(hi':DE X ξ i' fi')(he:DE X ξ e f)
  (ha: ∀ v,assign (.Subscript o i p1) X.env v=(do
   let ov <- holding [v] (eval o X.env)
   let iv <- holding [v,ov] (eval i X.env)
   standAt p1
   holding [v,ov,iv] (setItem ov iv v)
   release [v,ov,iv] []):=by intro _;rfl)
  (ha': ∀ v,assign (.Subscript o' i' p2) X.env v=(do
   let ov <- holding [v] (eval o' X.env)
   let iv <- holding [v,ov] (eval i' X.env)
   standAt p2
   holding [v,ov,iv] (setItem ov iv v)
   release [v,ov,iv] []):=by intro _;rfl)
  (hs:swapsWithSole [.Tuple [.Subscript o i p1,.Subscript o' i' p2] kt pt] e pos.line X.env=pure false:=by rfl) (hw:swappedStores [.Tuple [.Subscript o i p1,.Subscript o' i' p2] kt pt] e X.env=pure none:=by rfl)
  (h1:(assignEach [.Tuple [.Subscript o i p1,.Subscript o' i' p2] kt pt] X.env).map (·.2)=[assign (.Tuple [.Subscript o i p1,.Subscript o' i' p2] kt pt) X.env]:=by rfl):
  DS X ξ (.Assign [.Tuple [.Subscript o i p1,.Subscript o' i' p2] kt pt] e pos) (ZpI fo fi fo' fi' f):=by
 obtain ⟨t,p,q⟩:=he
 obtain ⟨to,po,qo⟩:=ho
 obtain ⟨ti,pi,qi⟩:=hi
 obtain ⟨to',po',qo'⟩:=ho'
 obtain ⟨ti',pi',qi'⟩:=hi'
 refine ⟨_,Zj3 p (Zj1 (n:=2) hc (Zdy (Zj2 po pi Zfx ha) (Zdy (Zj2 po' pi' Zfx ha') ZgY))) hs hw h1,fun σ ρ H α M Dn s hh w=>q σ ρ H α M _ s hh (FP.seq w fun d M1 v H1 α1 e1 h1 r1 w1=> ?_)⟩
 match d,r1,w1 with
 | .tup [x,y],.tup (p:=a) (xs:=vs) hp rp,w1=>
  match vs,rp with
  | [u,v],.cons ru (.cons rv .nil)=>
   refine ⟨a,[u,v],rfl,SqT.of hp,rfl,u,[v],rfl,?_⟩
   refine Zkw (Dn:={ Dn with nx:=fun σ' H'=>ZmM (ZpT to' ti' rSetL) gNil [v] σ' H' Dn.nx }) qo qi (s.mono e1) h1 ru ?_
   have w2:FP X.K H1 α1 ξ Dn (Zz (ZeT fo fi (eDt x)) (ZeT fo' fi' (eDt y)) ρ M1):=w1
   unfold Zz at w2;cases eg:ZeT fo fi (eDt x) ρ M1 with
   |nx ρ1 M2=>
    rw[eg] at w2;exact fun σ' H' α' ex hr sr=>⟨v,[],rfl,Zkw (Dn:={ Dn with nx:=fun σ' H'=>gNil [] σ' H' Dn.nx }) qo' qi' sr hr (Rep.mono ex rv) (by
     have w3:FP X.K H' α' ξ Dn (ZeT fo' fi' (eDt y) ρ1 M2):=FP.ext w2 ex
     cases eg2:ZeT fo' fi' (eDt y) ρ1 M2 with
     |nx ρ2 M3=>rw[eg2] at w3;exact fun σ2 H2 α2 a b c=>⟨rfl,w3 σ2 H2 α2 a b c⟩
     |brk ρ1 M1=>rw[eg2] at w3;exact w3
     |cnt ρ1 M1=>rw[eg2] at w3;exact w3
     |ret d M1=>rw[eg2] at w3;exact w3
     |exc c M1=>rw[eg2] at w3;exact w3
     |bad=>rw[eg2] at w3;exact w3)⟩
   |brk ρ1 M1=>rw[eg] at w2;exact w2
   |cnt ρ1 M1=>rw[eg] at w2;exact w2
   |ret d M1=>rw[eg] at w2;exact w2
   |exc c M1=>rw[eg] at w2;exact w2
   |bad=>rw[eg] at w2;exact w2
end
end DL
end
section
namespace DQ
open PySem PySem.Spec PyProof.Rows
section
variable {prog:Program}{w:World}{A:Around}{E:Value->Shared->Prop}{s:Shared}
end
end DQ
namespace DL
open PySem PySem.Spec PyProof.Rows L2
section
variable {X:Cx}{ξ:XK}{tg o a b e:Expr}{es:List Expr}{f fo fa fb:Ev}{fs:Av}{name:Str}{p pos apos cpos:Pos}{id:String}{r:V->List V->Hp->VK->Prop}{g:Me}
end
end DL
end
section
namespace SX
open PySem PySem.Builtin.Str DL
noncomputable def stp (s:Str)(c L:Nat)(b:Array Nat × Nat)(a:Nat):Array Nat × Nat:=if (decide (b.1.size < L) && decide (b.2<=a) && decide (a + 1<=s.length) && subAt s ⟨#[c]⟩ a)=true then (b.1.push a,a + 1) else (b.1,b.2)
noncomputable def pb (f:Nat->Nat->Str)(n:Nat):Nat->List Nat->List Str
 |a,[]=>[f a n]
 |a,i :: r=>f a i :: pb f n (i + 1) r
end SX
end
section
namespace DL
open PySem PySem.Spec PyProof.Rows L2 SX
section
variable {X:Cx}{ξ:XK}{tg o a b e:Expr}{es:List Expr}{f fo fa fb:Ev}{fs:Av}{name:Str}{p pos apos cpos:Pos}
noncomputable def okT (z:Str)(lo hi:Option Int):Prop:=0<=lo.getD 0/\lo.getD 0<=hi.getD z.cps.toList.length/\hi.getD z.cps.toList.length<=z.cps.toList.length
noncomputable instance (z:Str) (lo hi:Option Int):Decidable (okT z lo hi):=by unfold okT;infer_instance
end
end DL
end
section
end
section
namespace DQ
open PySem PySem.Spec PyProof.Rows
open Builtin Builtin.ObjectAttr
open PySem.W (Looks findIn mroIn specialIn takesIn clsIn looks_findIn looks_mroIn looks_find findObj handedIn hasDictIn lookIn)
section
variable {prog:Program}{w:World}{A:Around}{E:Value->Shared->Prop}{s:Shared}{K:PySem.W.Frag}{e C:Addr}{oe:Obj}{od:Option Obj}{name:Str}{v:Value}
noncomputable def ZnT:Value->Bool
 | .ref _=>true
 |_=>false
noncomputable def Zjy:List Value->Bool
 | []=>false
 |v :: r=>if ZnT v then Zjy r else (v :: r) == [.type "ValueError",.type "Exception",.type "BaseException",.type "object"]
theorem Zjz {v:Value}(h:ZnT v=true): ∃ a,v= .ref a:=by
 cases v<;>first | exact ⟨_,rfl⟩ | cases h
theorem ZfQ (self:Value): ∀ {l:List Value},Zjy l=true->refuseLoop self "__setattr__" l=pure ()/\l.contains (.type "object")=true/\l.isEmpty=false
 | [],h=>by cases h
 |v :: r,h=>by
  unfold Zjy at h
  split at h
  ·rename_i q
   obtain ⟨a,rfl⟩:=Zjz q
   obtain ⟨h1,h2,_⟩:=ZfQ self h
   exact ⟨by rw[refuseLoop_ref];exact h1,by rw[List.contains_cons,h2,Bool.or_true],rfl⟩
  ·have e:=eq_of_beq h
   rw[e];exact ⟨PySem.F.store_ValueError.passes self,by decide +kernel,rfl⟩
noncomputable def Zcf (K:PySem.W.Frag)(C:Addr):Bool:=(clsIn K C).any fun cd=>Zjy cd.mro
theorem Zib {tk:Tok}{R:Result->Shared->Prop}(X:K.In s.heap)(I:PySem.W.InstAt s.heap e oe C od)(hp:Zcf K C=true)(ht:PySem.W.takerIn K C name=some none)
  (h: ∀ b,wpAny (model prog w) A.in1 (storeInOwnDict (.ref e) (.ref C) (.str name tk) name v b)
   (fun fin s'=>match fin with | .done f=>R (.ok f) s' | .again c'=>c'.quiet=true/\codeAny (model prog w) A c' R s') (fun e s'=>R (.error e) s') s):
  codeAny (model prog w) A (.call (.builtin "object.__setattr__") ⟨[.ref e,.str name tk,v],[]⟩) R s:=by
 have SF:=PySem.F.store_object
 obtain ⟨cd,hc,ho⟩:=PySem.W.any_some hp
 obtain ⟨r1,r2,r3⟩:=ZfQ (.ref e) ho
 have sub:Looks (model prog w) s.heap (isInstance (.ref e) (.type "object")) true:=I.type.andThen (looks_mroIn X (by unfold mroIn;rw[hc,Option.bind_some,if_neg (by rw[r3];decide),r2]))
 refine codeAny_call_builtin SF.slot.plain SF.entry (@PySem.W.check_slot (model prog w) _ _ s "object.__setattr__" "object" "__setattr__" (.ref e) [.str name tk,v] [] _ SF.kind SF.split sub (SF.args (.ref e) (.str name tk) v) ?_)
 obtain ⟨attr,ha,hr⟩:=Option.bind_eq_some_iff.mp ht
 have hm:Looks (model prog w) s.heap (mroOf (.ref C)) cd.mro:=(PySem.W.looks_clsIn X hc).andThen .now
 have L3:Looks (model prog w) s.heap (Builtin.ObjectAttr.storeTaker? attr) none:=by
  cases attr with
  |none=>exact .now
  |some a=>
   obtain ⟨b,hb,e⟩:=Option.map_eq_some_iff.mp hr
   refine (PySem.W.looks_takesIn X hb).andThen ?_
   cases b
   ·exact .now
   ·cases e
 rw[PySem.W.osa_eq,refuse_eq];refine wpAny_bind (wpAny_bind (I.type.here (wpAny_bind (hm.here ?_))))
 rw[r1];refine wpAny_pure (wpAny_bind (I.type.here (wpAny_bind ((looks_findIn X ha).here (wpAny_bind (L3.here ?_))))))
 exact h _
theorem ZnU {Q:Unit->Shared->Prop}(X:K.In s.heap)(I:PySem.W.InstAt s.heap e oe C od)(hs:findIn K (.ref C) "__setattr__"=some (some (.builtin "object.__setattr__")))(hp:Zcf K C=true)(ht:PySem.W.takerIn K C name=some none)
  (h: ∀ b,wpAny (model prog w) A.in1 (storeInOwnDict (.ref e) (.ref C) (.str name s.toks) name v b) (fun fin s'=>match fin with | .done (.ret _)=>Q () s' | _=>False) E { s with toks:=s.toks + 1 }):wpAny (model prog w) A (setAttr (.ref e) name v) Q E s:=by
 refine PySem.W.set_plain X I hs (Zib (s:={ s with toks:=s.toks + 1 }) X I hp ht fun b=>wpAny_mono (h b) (fun fin s' z=> ?_) fun _ _ z=>z)
 rcases fin with (_ | _ | _ | _) | _<;>first | exact z | exact z.elim
theorem ZlA {vs:Array Value}{Q:Unit->Shared->Prop}(X:K.In s.heap)(hx:s.heap.get? e=some oe)(hc:oe.cls= .ref C)(hd:oe.data= .fields vs)(hn:oe.dict=none)(hs:findIn K (.ref C) "__setattr__"=some (some (.builtin "object.__setattr__")))(hp:Zcf K C=true)(ht:PySem.W.takerIn K C name=some none)(hh:hasDictIn K C=true)
  (h: ∀ h',h'.get? e=some { oe with dict:=some s.heap.objs.size }->h'.Ns1 s.heap.objs.size (fun y=>if y=name then some v else none)->(∀ b o,b≠e->s.heap.get? b=some o->h'.get? b=some o)->Q () { s with heap:=h',toks:=s.toks + 2 }):
  wpAny (model prog w) A (setAttr (.ref e) name v) Q E s:=by
 have I:PySem.W.InstAt s.heap e oe C none:=⟨hx,hc,by unfold PySem.W.notCls;rw[hd],by rw[hn];trivial⟩
 refine ZnU X I hs hp ht fun b=> ?_
 obtain ⟨cd,hcd,hd'⟩:=PySem.W.any_some hh
 refine wpAny_bind (wpAny_pure (wpAny_bind (wpAny_bind (wpAny_loadPart hx ?_))))
 rw[hc];refine wpAny_bind (PySem.W.Looks.here (s:={ s with toks:=s.toks + 1 }) (PySem.W.looks_clsIn X hcd) ?_)
 rw[hd',hn];dsimp only;rw[if_neg (by decide),if_neg (by simp[typeHasDict]),hd]
 dsimp only;obtain ⟨hp0,g,d,t,os⟩:=s
 dsimp only at hx h ⊢;have hx₁:(hp0.push { cls:= .type "dict",data:= .dict #[] }).get? e=some oe:=Heap.get?_push_of_some _ hx
 have hxs:e≠hp0.objs.size:=Nat.ne_of_lt (Heap.lt_size hx)
 refine wpAny_bind (wpAny_alloc' ?_)
 refine wpAny_bind (wpAny_update' hx₁ ?_)
 refine wpAny_pure ?_
 have hgd:((hp0.push { cls:= .type "dict",data:= .dict #[] }).update e fun o=>{ cls:=o.cls,dict:=some hp0.objs.size,data:=o.data,slots:=o.slots }).get? hp0.objs.size=some { cls:= .type "dict",data:= .dict #[] }:=
  (Heap.get?_update_ne _ _ _ _ hxs.symm).trans (Heap.get?_push_at rfl rfl)
 have hnd:((hp0.push { cls:= .type "dict",data:= .dict #[] }).update e fun o=>{ cls:=o.cls,dict:=some hp0.objs.size,data:=o.data,slots:=o.slots }).Ns hp0.objs.size (fun _=>none):=
  ⟨_,#[],_,hgd,rfl,fun e he=>absurd he (by simp),fun _=>rfl⟩
 show wpAny _ _ (storeInDict hp0.objs.size (.str name t) name v) _ _ _
 unfold storeInDict newKeyGuard;refine wpAny_bind (wpAny_pure (wpAny_bind (wpAny_nsSet1 (Heap.Ns1.of_empty hnd) fun h' hn' hs=> ?_)))
 obtain ⟨oD,esD,epD,hoD,hdD,hcD⟩:=hn'.count (PySem.Within.cons name v PySem.Within.nil)
 refine wpAny_bind (wpAny_lookBehind hoD (by rw[hdD];exact pastItsLine_dict (Nat.le_trans hcD (by rw[List.length_cons,List.length_nil,sizeLine_eq];omega))) ?_)
 refine wpAny_pure (h h' ?_ hn' fun b ob hbx hb=> ?_)
 ·refine (hs.2 e hxs).trans (Heap.get?_update_self _ hx₁ ?_)
  obtain ⟨oc,odi,odt,osl⟩:=oe
  dsimp only at hd;subst hd;rfl
 ·exact (hs.2 b (Nat.ne_of_lt (Heap.lt_size hb))).trans ((Heap.get?_update_ne _ _ _ _ hbx).trans (Heap.get?_push_of_some _ hb))
theorem ZlB {mA:Str->Option Value}{dx:Addr}{ns:List Str}{Q:Unit->Shared->Prop}(X:K.In s.heap)(I:PySem.W.InstAt s.heap e oe C od)(hd:oe.dict=some dx)(hns:s.heap.Ns1 dx mA)(hs:findIn K (.ref C) "__setattr__"=some (some (.builtin "object.__setattr__")))(hp:Zcf K C=true)(ht:PySem.W.takerIn K C name=some none)(hh:hasDictIn K C=true)
  (hw:PySem.Within mA ns) (hsz:ns.length<=1000) (h: ∀ h',h'.Ns1 dx (fun y=>if y=name then some v else mA y)->Heap.SameBut dx s.heap h'->Q () { s with heap:=h',toks:=s.toks + 2 }):
  wpAny (model prog w) A (setAttr (.ref e) name v) Q E s:=by
 refine ZnU X I hs hp ht fun b=> ?_
 obtain ⟨cd,hcd,hd'⟩:=PySem.W.any_some hh
 refine wpAny_bind (wpAny_pure (wpAny_bind (wpAny_bind (wpAny_loadPart I.at_ ?_))))
 rw[I.cls];refine wpAny_bind (PySem.W.Looks.here (s:={ s with toks:=s.toks + 1 }) (PySem.W.looks_clsIn X hcd) ?_)
 rw[hd',hd];refine wpAny_pure (a:=some dx) (wpAny_bind (wpAny_pure (wpAny_bind ?_)))
 refine wpAny_nsSet1 (s:={ s with toks:=s.toks + 1 }) hns fun h' hn2 hs2=> ?_
 obtain ⟨oD,esD,epD,hoD,hdD,hcD⟩:=hn2.count (PySem.Within.cons name v hw)
 refine wpAny_bind (wpAny_lookBehind hoD (by rw[hdD];exact pastItsLine_dict (Nat.le_trans hcD (by rw[List.length_cons,sizeLine_eq];omega))) ?_)
 exact wpAny_pure (h _ hn2 hs2)
theorem Zic {bm:List Value}{N:Addr}{nm q:Str}{bs:List Value}{hdct:Bool}{sn:List Str}{sub:List Value}{ab:Bool}{col:Option Bool}{dd:Option Addr}{k0 k1 k2 k3 k5:Option Value}{vs:Array Value}{Q:Value->Shared->Prop}{h:Heap}{g:Array GenState}{d:Drawn}{t:Nat}{os:OsState}
  (T:OwnTail h [.type "ValueError",.type "Exception",.type "BaseException",.type "object"] bm) (hC:h.get? C=some (excClassObj nm q C N bs bm hdct sn sub ab col dd k0 k1 k2 k3 k5 "ValueError.__new__")) (he:h.get? e=some oe) (hc:oe.cls= .ref C) (hd:oe.data= .fields vs) {t0:Addr} (h0:vs[0]?=some (.ref t0))
  (hq: ∀ h',(∀ b o,b≠e->h.get? b=some o->h'.get? b=some o)->h'.get? e=some { oe with data:= .fields (vs.setIfInBounds 0 (.ref h.objs.size)) }->Q .none ⟨h',g,d,t,os⟩):
  wpAny (model prog w) A (call (.builtin "ValueError.__init__") [.ref e,v]) Q E ⟨h,g,d,t,os⟩:=by
 refine wpAny_call (codeAny_call_builtin F.excBase_ValueError.init.plain F.excBase_ValueError.initEntry (wpAny_check_init_subT F.excBase_ValueError T hC he hc ?_))
 have hz:0 < vs.size:=(Array.getElem?_eq_some_iff.mp h0).1
 have he1:(h.push { cls:=Value.type "tuple",data:=Data.seq #[v] }).get? e=some oe:=Heap.get?_push_of_some _ he
 wp_walk
 rw[hd];refine wpAny_pure ?_
 rw[h0];refine wpAny_pure (wpAny_bind (wpAny_setField he1 hd hz ?_))
 wp_walk
 refine hq _ (fun b o hb x=> ?_) ?_
 ·rw[Heap.get?_update_other _ _ (Ne.symm hb)]
  exact Heap.get?_push_of_some _ x
 ·rw[Heap.get?_update_self _ he1 (Obj.isFreed_of_fields (Obj.data_mapFields hd _))]
  obtain ⟨oc,odi,odt,osl⟩:=oe
  dsimp only at hd;subst hd;rfl
end
section
variable {prog:Program}{w:World}{A:Around}{E:Value->Shared->Prop}{h:Heap}{g:Array GenState}{d:Drawn}{t:Nat}{os:OsState}
variable {nm q:Str}{C N:Addr}{bs bm bmB:List Value}{hdct:Bool}{sn:List Str}{sub:List Value}{ab:Bool}{col:Option Bool}{dd:Option Addr}{k0 k1 k2 k3 k5:Option Value}{B newId initId:String}
theorem Zdh (F:ExcBaseFacts B newId initId bmB)(T:OwnTail h bmB bm){mN:Str->Option Value}{Za7:List Value}{fI:Addr}{oI:Obj}{Q:Fin->Shared->Prop}
  (hC:h.get? C=some (excClassObj nm q C N bs bm hdct sn sub ab col dd k0 k1 k2 k3 k5 newId)) (hn:h.Ns N mN) (hi:mN "__init__"=some (.ref fI)) (hfI:h.get? fI=some oI) (hfc:oI.cls= .type "function")
  (hq: ∀ h' e,Heap.MadeExcOf h h' e (.ref C) Za7->wpAny (model prog w) A (call (.ref fI) (.ref e :: Za7)) (fun r s'=>r= .none/\Q (.done (.ret (.ref e))) s') E ⟨h',g,d,t,os⟩) (hrest:Za7.length<=sizeLine):
  wpAny (model prog w) A (Builtin.«type.__call__» ⟨.ref C :: Za7,[]⟩) Q E ⟨h,g,d,t,os⟩:=by
 repeat (first | with_reducible refine wpAny_loadPart_at hC ?_ | with_reducible refine wpAny_madeBy_exc hC ?_ | wp_step)
 refine codeAny_call_builtin_code (Code.quiet_builtin _ F.quiet) (wpAny_check_new_subT F T hC ?_)
 refine codeAny_exc_new_subT F T hC ?_ hrest
 show wpAny _ _ _ _ _ _
 have hC₁:=Heap.get?_push_of_some { cls:= .ref C,data:= .fields #[.ref h.objs.size,.none,.none,.none,.bool false,.none] }
  (Heap.get?_push_of_some { cls:= .type "tuple",data:= .seq Za7.toArray } hC)
 have hfI₁:=Heap.get?_push_of_some { cls:= .ref C,data:= .fields #[.ref h.objs.size,.none,.none,.none,.bool false,.none] }
  (Heap.get?_push_of_some { cls:= .type "tuple",data:= .seq Za7.toArray } hfI)
 have hn₁:((h.push { cls:= .type "tuple",data:= .seq Za7.toArray }).push { cls:= .ref C,data:= .fields #[.ref h.objs.size,.none,.none,.none,.bool false,.none] }).Ns N mN:=
  let ⟨o,es,ep,e,r⟩:=hn;⟨o,es,ep,Heap.get?_push_of_some _ (Heap.get?_push_of_some _ e),r⟩
 have hget:((h.push { cls:= .type "tuple",data:= .seq Za7.toArray }).push
   { cls:= .ref C,data:= .fields #[.ref h.objs.size,.none,.none,.none,.bool false,.none] }).get? (h.objs.size + 1)=some
   { cls:= .ref C,data:= .fields #[.ref h.objs.size,.none,.none,.none,.bool false,.none] }:=by heap_get
 have hcC:(Value.ref C :: bm).contains (.ref C)=true:=by simp
 have T₁:=T.keeps (h':=(h.push { cls:= .type "tuple",data:= .seq Za7.toArray }).push { cls:= .ref C,data:= .fields #[.ref h.objs.size,.none,.none,.none,.bool false,.none] })
  fun b o e=>Heap.get?_push_of_some _ (Heap.get?_push_of_some _ e)
 unfold isInstance
 repeat (first | with_reducible refine wpAny_loadPart_at hget ?_ | (with_reducible refine wpAny_isSubtype_exc hC₁ ?_;rw[hcC]) | wp_step)
 show wpAny _ _ (typeLookup (.ref C) _) _ _ _
 refine wpAny_typeLookup_tail hC₁ hn₁ T₁ F.mroIs F.init.lookup ?_
 rw[hi];refine wpAny_holding (wpAny_bind ?_)
 unfold bindSpecial;refine wpAny_bind (wpAny_typeOf (T:="function") ⟨_,hfI₁,hfc⟩ ?_)
 rw[if_pos (by decide)]
 refine wpAny_pure (wpAny_bind (wpAny_mono (hq _ (h.objs.size + 1) ⟨fun b o hb=>Heap.get?_push_of_some _ (Heap.get?_push_of_some _ hb),Heap.get?_none_of_le (Nat.le_succ _),h.objs.size,hget,Heap.get?_none_of_le (Nat.le_refl _),?_⟩) (fun r s' hr=> ?_) fun _ _ x=>x))
 ·exact Heap.get?_push_of_some _ (Heap.get?_push_at rfl rfl)
 ·obtain ⟨rfl,hQ⟩:=hr
  wp_walk
  exact hQ
theorem Zid (F:ExcBaseFacts B newId initId bmB)(T:OwnTail h bmB bm){mN:Str->Option Value}{Za7:List Value}{fI:Addr}{oI:Obj}{Q:Value->Shared->Prop}
  (hC:h.get? C=some (excClassObj nm q C N bs bm hdct sn sub ab col dd k0 k1 k2 k3 k5 newId)) (hn:h.Ns N mN) (hi:mN "__init__"=some (.ref fI)) (hfI:h.get? fI=some oI) (hfc:oI.cls= .type "function")
  (hq: ∀ h' e,Heap.MadeExcOf h h' e (.ref C) Za7->wpAny (model prog w) (A.under (.builtin "type.__call__" ⟨.ref C :: Za7,[]⟩)) (call (.ref fI) (.ref e :: Za7)) (fun r s'=>r= .none/\Q (.ref e) s') E ⟨h',g,d,t,os⟩) (hrest:Za7.length<=sizeLine):
  wpAny (model prog w) A (call (.ref C) Za7) Q E ⟨h,g,d,t,os⟩:=by
 have f1:=tc_lookup
 have f2:=tc_bind (.ref C)
 have hT:(⟨h,g,d,t,os⟩:Shared).TypeIs (.ref C) "type":=⟨_,hC,rfl⟩
 refine wpAny_call (codeAny_of_tree ?_)
 show wpAny _ _ (callAny (.ref C) _) _ _ _
 repeat (any_goals (first | assumption | with_reducible refine wpAny_loadPart_at hC ?_ | wp_step))
 refine ⟨rfl,?_⟩
 refine codeAny_call_builtin_at (Code.quiet_builtin _ (by decide +kernel)) entry_typeCall (wpAny_check_type_call_sub hC (Zdh (hrest:=hrest) F T hC hn hi hfI hfc fun h' e hm=> ?_))
 exact hq h' e hm
end
section
variable {prog:Program}{w:World}{A:Around}{E:Value->Shared->Prop}{s:Shared}{env:Env}
variable {nm q:Str}{C N:Addr}{bs bm bmB:List Value}{hdct:Bool}{sn:List Str}{sub:List Value}{ab:Bool}{col:Option Bool}{dd:Option Addr}{k0 k1 k2 k3 k5:Option Value}{B newId initId:String}
theorem Zcg {x:Sem Value}{Q:Flow->Shared->Prop}(hbase:bm.contains (.type "BaseException")=true)(hh:A.handled=none)
  (h:wpAny (model prog w) A x (fun v s₁=> ∃ e oe vs,v= .ref e/\s₁.heap.get? C=some (excClassObj nm q C N bs bm hdct sn sub ab col dd k0 k1 k2 k3 k5 newId)/\s₁.heap.get? e=some oe/\oe.cls= .ref C/\oe.data= .fields vs/\vs[1]?=some .none/\E (.ref e) s₁) E s):
  wpAny (model prog w) A (raiseStmt env (some x) none) Q E s:=by
 have hcB:(Value.ref C :: bm).contains (.type "BaseException")=true:=by rw[List.contains_cons,hbase,Bool.or_true]
 unfold raiseStmt;refine wpAny_bind (wpAny_mono h (fun v s₁ h₁=> ?_) fun _ _ x=>x)
 obtain ⟨e,⟨oc,odi,odt,osl⟩,vs,rfl,hC,he,hc,hd,h1,hE⟩:=h₁
 dsimp only at hc hd;subst hc hd;obtain ⟨hp,g,d,tk,os⟩:=s₁
 repeat (first | with_reducible refine wpAny_loadPart_at he ?_ | with_reducible refine wpAny_loadPart_at hC ?_ | (with_reducible refine wpAny_isSubtype_exc hC ?_;rw[hcB]) | wp_step)
 rw[h1];refine wpAny_pure ?_
 rw[if_neg (by decide)]
 exact wpAny_pure (wpAny_raiseNew_none hh hE)
theorem Zgw {x:Str}{np cpos pos:Pos}{args:List Expr}{Q:Flow->Shared->Prop}(F:ExcBaseFacts B newId initId bmB){mN:Str->Option Value}{fI:Addr}{oI:Obj}
  (hbase:bm.contains (.type "BaseException")=true) (hh:A.handled=none) (hplain:(backTo cpos (starEach args env)).any (·.1)=false) (hi:mN "__init__"=some (.ref fI)) (hfc:oI.cls= .type "function")
  (h:wpAny (model prog w) A (eval (.Name x np) env) (fun f s₁=>f= .ref C/\wpAny (model prog w) A (evalArgs (.ref C) true (backTo cpos (starEach args env)) [])
   (fun a s₂=>a.kw=[]/\a.pos.length<=sizeLine/\s₂.heap.get? C=some (excClassObj nm q C N bs bm hdct sn sub ab col dd k0 k1 k2 k3 k5 newId)/\s₂.heap.Ns N mN/\OwnTail s₂.heap bmB bm/\s₂.heap.get? fI=some oI/\
    ∀ h' e,Heap.MadeExcOf s₂.heap h' e (.ref C) a.pos->wpAny (model prog w) (A.under (.builtin "type.__call__" ⟨.ref C :: a.pos,[]⟩)) (call (.ref fI) (.ref e :: a.pos))
     (fun r s'=>r= .none/\ ∃ oe vs,s'.heap.get? C=some (excClassObj nm q C N bs bm hdct sn sub ab col dd k0 k1 k2 k3 k5 newId)/\s'.heap.get? e=some oe/\oe.cls= .ref C/\oe.data= .fields vs/\vs[1]?=some .none/\E (.ref e) s') E { s₂ with heap:=h' }) E s₁) E s):
  wpAny (model prog w) A (exec (.Raise (some (.Call (.Name x np) args [] cpos)) none pos) env) Q E s:=by
 rw[arm_exec_Raise]
 first
  |refine wpAny_bind (wpAny_standAt (Zcg (C:=C) (nm:=nm) (q:=q) (N:=N) (bs:=bs) (bm:=bm) (hdct:=hdct) (sn:=sn) (sub:=sub) (ab:=ab) (col:=col) (dd:=dd) (k0:=k0) (k1:=k1) (k2:=k2) (k3:=k3) (k5:=k5) (newId:=newId) hbase hh (wpAny_bind (wpAny_mono (wpAny_Call_ofName (wpAny_mono h (fun f s₁ h₁=> ?_) fun _ _ x=>x)) (fun v s₃ h₃=>wpAny_bind (wpAny_standAt (wpAny_pure h₃))) fun _ _ x=>x))))
  | (simp only[evalOpt,Option.map];refine wpAny_bind (wpAny_standAt (Zcg (C:=C) (nm:=nm) (q:=q) (N:=N) (bs:=bs) (bm:=bm) (hdct:=hdct) (sn:=sn) (sub:=sub) (ab:=ab) (col:=col) (dd:=dd) (k0:=k0) (k1:=k1) (k2:=k2) (k3:=k3) (k5:=k5) (newId:=newId) hbase hh (wpAny_bind (wpAny_mono (wpAny_Call_ofName (wpAny_mono h (fun f s₁ h₁=> ?_) fun _ _ x=>x)) (fun v s₃ h₃=>wpAny_bind (wpAny_standAt (wpAny_pure h₃))) fun _ _ x=>x)))))
  | (refine wpAny_bind (wpAny_standAt (Zcg (C:=C) (nm:=nm) (q:=q) (N:=N) (bs:=bs) (bm:=bm) (hdct:=hdct) (sn:=sn) (sub:=sub) (ab:=ab) (col:=col) (dd:=dd) (k0:=k0) (k1:=k1) (k2:=k2) (k3:=k3) (k5:=k5) (newId:=newId) hbase hh ?_));refine wpAny_bind (wpAny_mono (wpAny_Call_ofName (wpAny_mono h (fun f s₁ h₁=> ?_) fun _ _ x=>x)) (fun v s₃ h₃=>wpAny_bind (wpAny_standAt (wpAny_pure h₃))) fun _ _ x=>x))
 obtain ⟨rfl,h₁⟩:=h₁
 unfold callWith;refine wpAny_bind (wpAny_holding (wpAny_mono h₁ (fun a s₂ h₂=>wpAny_bind (wpAny_standAt ?_)) fun _ _ x=>x))
 obtain ⟨apos,akw⟩:=a
 obtain ⟨hkw,hlen,hC,hn,T,hfI,h₂⟩:=h₂
 obtain rfl:akw=[]:=hkw
 obtain ⟨hp,g,d,tk,os⟩:=s₂
 simp only[hplain];refine wpAny_bind (wpAny_keeperOf_exc hC ?_)
 refine wpAny_bind (Zid (hrest:=hlen) F T hC hn hi hfI hfc fun h' e hm=>wpAny_mono (h₂ h' e hm) (fun r s' z=>⟨z.1,wpAny_bind (wpAny_holding (wpAny_point (wpAny_pure ?_)))⟩) fun _ _ x=>x)
 obtain ⟨-,oe,vs,z1,z2,z3,z4,z5,z6⟩:=z
 exact ⟨e,oe,vs,rfl,z1,z2,z3,z4,z5,z6⟩
end
end DQ
end
section
namespace DL
open PySem PySem.Spec PyProof.Rows L2
open PySem.W (nsIn excIn tailIn nsOkIn mroIn clsIn typeIn findIn specialIn takesIn hasDictIn readsIn findCls handedIn)
noncomputable def ZfR (K:PySem.W.Frag)(C fI:Addr)(bmB:List Value)(newId:String):Bool:=match K.lookup C with
 |some ⟨.type "type",_,.cls cd,sl⟩=>(match cd.mro,sl.toList with
  | .ref C' :: bm,[_,_,_,_,some (.builtin n),_]=>C' == C && n == newId && !cd.hasDel && tailIn K bmB bm && nsOkIn K cd.ns && nsIn K cd.ns "__init__" == some (some (.ref fI))
  |_,_=>false)
 |_=>false
theorem Zgx {K:PySem.W.Frag}{h:Heap}{N:Addr}{mg:Str->Option Value}{n:Str}{v:Value}(X:K.In h)(G:h.Ns N mg)(e:nsIn K N n=some (some v)):mg n=some v:=by
 obtain ⟨o,es,ep,ho,hd,_,hf⟩:=G
 unfold PySem.W.nsIn at e
 split at e
 ·rename_i c d es' n' sl q
  have:=X _ _ q
  rw[ho] at this;cases this
  cases hd
  split at e
  ·rename_i en he
   cases e
   rw[<- hf];unfold nsFind findBy;rw[<- Array.find?_toList,he]
   rfl
  ·split at e<;>cases e
 ·cases e
theorem ZfS {K:PySem.W.Frag}{h:Heap}{C fI:Addr}{bmB:List Value}{newId:String}(X:K.In h)(q:ZfR K C fI bmB newId=true):
  ∃ bm N nm q bs hdct sn sub ab col dd k0 k1 k2 k3 k5 mN,h.get? C=some (excClassObj nm q C N bs bm hdct sn sub ab col dd k0 k1 k2 k3 k5 newId)/\h.Ns N mN/\mN "__init__"=some (.ref fI)/\OwnTail h bmB bm:=by
 unfold ZfR at q
 split at q
 ·rename_i dd cd sl ho
  split at q
  ·rename_i C' bm k0 k1 k2 k3 n k5 hm hs
   simp only[Bool.and_eq_true,beq_iff_eq,Bool.not_eq_true'] at q;obtain ⟨⟨⟨⟨⟨rfl,rfl⟩,hdel⟩,ht⟩,hok⟩,hni⟩:=q
   obtain ⟨nm,bs,mro,ns,qn,hd,sn,sub,ab,col,del⟩:=cd
   dsimp only at hm hdel hok hni;subst hm hdel;obtain ⟨l⟩:=sl
   simp only at hs
   subst hs;have G:h.Ns ns _:= .of_isNs (PySem.W.isNs_of_in X hok)
   exact ⟨bm,ns,nm,qn,bs,hd,sn,sub,ab,col,dd,k0,k1,k2,k3,k5,_,X _ _ ho,G,Zgx X G hni,PySem.W.tail_of_in X ht⟩
  ·cases q
 ·cases q
noncomputable def Zie (K:PySem.W.Frag)(c:Str)(fI:Addr):Bool:=match Zce K c with
 |some C=>ZfR K C fI bmV "ValueError.__new__" && findIn K (.ref C) "__getattribute__" == some (some (.builtin "BaseException.__getattribute__")) && findIn K (.ref C) "__getattr__" == some none && findIn K (.ref C) "__class__" == some (some (.builtin "object.__class__")) &&
  specialIn K (.builtin "object.__class__") "__get__" == some (some (.builtin "getset_descriptor.__get__")) && takesIn K (.builtin "object.__class__") == some true && mroIn K C (.type "BaseException") == some true && mroIn K C (.type "object") == some true && (clsIn K C).isSome &&
  findIn K (.ref C) "__setattr__" == some (some (.builtin "object.__setattr__")) && DQ.Zcf K C && hasDictIn K C && findIn K (.ref C) "where" == some none && findIn K (.ref C) "at" == some none && typeIn K (.ref fI) == some (.type "function")
 |none=>false
structure ExF (K:PySem.W.Frag) (C fI:Addr):Prop where
 inn:ZfR K C fI bmV "ValueError.__new__"=true
 exc:DQ.ExcC K C
 sa:findIn K (.ref C) "__setattr__"=some (some (.builtin "object.__setattr__"))
 ov:DQ.Zcf K C=true
 hd:hasDictIn K C=true
 fw:findIn K (.ref C) "where"=some none
 fa:findIn K (.ref C) "at"=some none
 ty:typeIn K (.ref fI)=some (.type "function")
theorem ZfT {K:PySem.W.Frag}{c:Str}{fI:Addr}(h:Zie K c fI=true): ∃ C,nsIn K mainGlobals c=some (some (.ref C))/\ExF K C fI:=by
 unfold Zie at h
 split at h
 ·rename_i C e
  simp only[Bool.and_eq_true,beq_iff_eq] at h;obtain ⟨⟨⟨⟨⟨⟨⟨⟨⟨⟨⟨⟨⟨⟨h1,h2⟩,h3⟩,h4⟩,h5⟩,h6⟩,h7⟩,h8⟩,h9⟩,h10⟩,h11⟩,h12⟩,h13⟩,h14⟩,h15⟩:=h
  exact ⟨C,Zbh e,h1,⟨h2,h3,h4,h5,h6,h7,h8,h9⟩,h10,h11,h12,h13,h14,h15⟩
 ·cases h
theorem ZfU {K:PySem.W.Frag}{C:Addr}{f:Str}(h:findIn K (.ref C) f=some none):PySem.W.takerIn K C f=some none:=by unfold PySem.W.takerIn;rw[h];rfl
noncomputable def Mkg (C e:Addr)(dct:Option Addr)(h:Heap):Prop:= ∃ oe vs t0,h.get? e=some oe/\oe.cls= .ref C/\oe.dict=dct/\oe.data= .fields vs/\vs[0]?=some (.ref t0)/\vs[1]?=some .none/\vs[2]?=some .none
theorem Zif {P:Program}{w:World}{H:Hp}{C e:Addr}{dct:Option Addr}{h:Heap}(m:Mkg C e dct h):Zbr P w H h e (.ext (Mkg C e dct)):=
 ⟨m,let ⟨oe,_,_,g,_⟩:=m;⟨oe,g⟩,fun _ _ ⟨oe,vs,t0,g,r⟩ k=>⟨oe,vs,t0,k _ g,r⟩⟩
section
variable {X:Cx}{pins:List (Addr × Obj)}{σ:L2.St}{H H':Hp}{s:Shared}{h':Heap}{t:Nat}{e C dx:Addr}{f:Str}
theorem ZdO (I:Inv X pins σ H s)(ch:Addr->Prop)(c1: ∀ b,ch b->(∃ φ,H b=some (.ext φ))\/(∃ fs,H b=some (.xd fs))\/s.heap.get? b=none)(k: ∀ b o,¬ ch b->s.heap.get? b=some o->h'.get? b=some o)(th: ∀ b,ch b-> ∃ o,h'.get? b=some o)
  (hH: ∀ b,¬ ch b->H' b=H b) (ok: ∀ b u,ch b->H' b=some u->Zbr X.prog X.w H' h' b u):Inv X pins σ H' { s with heap:=h',toks:=t }:=by
 have nn: ∀ b o,s.heap.get? b=some o->H b=none-> ¬ ch b:=fun b o x n c=>by
  rcases c1 b c with ⟨φ,z⟩ | ⟨fs,z⟩ | z
  ·rw[n] at z;cases z
  ·rw[n] at z;cases z
  ·rw[x] at z;cases z
 have nt: ∀ b u,H b=some u->(∀ φ,u≠ .ext φ)->(∀ fs,u≠ .xd fs)-> ¬ ch b:=fun b u q n1 n2 c=>by
  rcases c1 b c with ⟨φ,z⟩ | ⟨fs,z⟩ | z
  ·rw[q] at z;cases z;exact n1 _ rfl
  ·rw[q] at z;cases z;exact n2 _ rfl
  ·obtain ⟨o,g⟩:=ZcK (I.hok b u q)
   rw[z] at g;cases g
 refine I.call' (s':={ s with heap:=h',toks:=t }) (ch:=[]) rfl ⟨fun b o x n _ _=>k b o (nn b o x n) x,fun b o x n _ _=>⟨o.slots,k b o (nn b o x n) x⟩,fun b o x n _=>by rw[hH b (nn b o x n)];exact n,fun b o x _=> ?_,fun b xs q=> ?_,fun b o u q=> ?_,fun b ps q=>⟨#[],?_⟩⟩ (fun b u q=> ?_) I.bare (fun b z=>absurd z (by simp))
 ·by_cases c:ch b
  ·exact th b c
  ·exact ⟨o,k b o c x⟩
 ·rw[hH b (nt b _ q (by simp) (by simp))];exact q
 ·rw[hH b (nt b _ q (by simp) (by simp))];exact q
 ·rw[hH b (nt b _ q (by simp) (by simp)),Array.append_empty];exact q
 ·by_cases c:ch b
  ·exact ok b u c q
  ·rw[hH b c] at q
   refine (I.hok b u q).stay (fun a v ha r=>k a v ?_ r) (fun a r=> ?_) fun a xs r=> ?_
   ·rcases ha with rfl | ha
    ·exact c
    ·exact nt a _ ha (by simp) (by simp)
   ·rw[hH a (nt a _ r (by simp) (by simp))];exact r
   ·rw[hH a (nt a _ r (by simp) (by simp))];exact r
noncomputable def tFm (ta:TE):TE:=fun σ H Q=>ta σ H fun x H1=>(∃ i,x= .int i/\i.natAbs.log2 < 1900/\Q (.str (Str.ofString (toString i))) H1)\/ ∃ y,x= .str y/\y.length<=100000/\Q (.str y) H1
theorem ZnV {e:Expr}{ta:TE}{pos:Pos}(pa:PE X e ta):PE X (.FormattedValue e (-1) none pos) (tFm ta):=by
 intro pins s σ H Q I h;refine wpAny_FormattedValue_plain (wpAny_mono (pa pins s σ H _ I h) (fun v s1 ⟨x,H1,I1,r1,q1⟩=> ?_) fun _ _ z=>z)
 rcases q1 with ⟨i,rfl,hi,q⟩ | ⟨y,rfl,hy,q⟩
 ·obtain ⟨t,rfl⟩:=r1
  exact wpAny_formatField_int (by omega) ⟨.str (Str.ofString (toString i)),H1,I1.tok _,⟨_,rfl⟩,q⟩
 ·obtain ⟨t,rfl⟩:=r1
  exact wpAny_formatField_str ⟨.str y,H1,I1,⟨_,rfl⟩,q⟩ ⟨.str y,H1,I1.tok _,⟨_,rfl⟩,q⟩ (Nat.le_trans hy (by rw[sizeLine_eq];decide))
noncomputable def tF4 (a b:Str)(i j:Nat):TE:=fun σ H Q=> ∃ y n,σ[i]?=some (some (.str y))/\σ[j]?=some (some (.int n))/\a.length<=1000/\b.length<=1000/\y.length<=1000/\n.natAbs.log2 < 1900/\(Str.ofString (toString n)).length<=10000/\ ∀ x,Q (.str x) H
theorem Zqm {a b n1 n2:Str}{i j k1 k2:Nat}{p1 p2 p3 p4 p5 p6 pos:Pos}(h1:X.N[i]?=some n1)(h2:X.N[j]?=some n2)(v1:Vis X.env.scope n1)(v2:Vis X.env.scope n2)
  (d1:(n1 == ("__debug__":Str))=false:=by decide) (d2:(n2 == ("__debug__":Str))=false:=by decide) (c1:(n1 == ("__classdict__":Str))=false:=by decide) (c2:(n2 == ("__classdict__":Str))=false:=by decide):
  PE X (.JoinedStr [.Constant (.str a) k1 p1,.FormattedValue (.Name n1 p2) (-1) none p3,.Constant (.str b) k2 p4,.FormattedValue (.Name n2 p5) (-1) none p6] pos) (tF4 a b i j):=by
 intro pins s σ H Q I ⟨y,n,e1,e2,la,lb,ly,ln,lt,q⟩;have sz: ∀ {x:Str},x.length<=100000->x.length<=sizeLine:=fun h=>Nat.le_trans h (by rw[sizeLine_eq];decide)
 have l0:(Str.empty:Str).length=0:=by decide
 refine wpAny_JoinedStr ?_
 show wpAny _ _ (eval (.Constant (.str a) k1 p1) X.env) _ _ s
 refine wpAny_mono (ZgV (X:=X) pins s σ H (fun x H1=>x= .str a/\H1=H) I ⟨rfl,rfl⟩) (fun v s1 ⟨x,H1,I1,r1,q1⟩=> ?_) fun _ _ z=>z
 obtain ⟨rfl,rfl⟩:=q1
 obtain ⟨t,rfl⟩:=r1
 refine ⟨a,t,rfl,sz (by rw[strLen_append];omega),?_⟩
 show wpAny _ _ (eval (.FormattedValue (.Name n1 p2) (-1) none p3) X.env) _ _ s1
 refine wpAny_mono (ZnV (Zcm h1 v1 d1 c1) pins s1 σ H1 (fun x H2=>x= .str y/\H2=H1) I1 ⟨_,e1,.inr ⟨y,rfl,by omega,rfl,rfl⟩⟩) (fun v s2 ⟨x,H2,I2,r2,q2⟩=> ?_) fun _ _ z=>z
 obtain ⟨rfl,rfl⟩:=q2
 obtain ⟨t2,rfl⟩:=r2
 refine ⟨y,t2,rfl,sz (by rw[strLen_append,strLen_append];omega),?_⟩
 show wpAny _ _ (eval (.Constant (.str b) k2 p4) X.env) _ _ s2
 refine wpAny_mono (ZgV (X:=X) pins s2 σ H2 (fun x H1=>x= .str b/\H1=H2) I2 ⟨rfl,rfl⟩) (fun v s3 ⟨x,H3,I3,r3,q3⟩=> ?_) fun _ _ z=>z
 obtain ⟨rfl,rfl⟩:=q3
 obtain ⟨t3,rfl⟩:=r3
 refine ⟨b,t3,rfl,sz (by rw[strLen_append,strLen_append,strLen_append];omega),?_⟩
 show wpAny _ _ (eval (.FormattedValue (.Name n2 p5) (-1) none p6) X.env) _ _ s3
 refine wpAny_mono (ZnV (Zcm h2 v2 d2 c2) pins s3 σ H3 (fun x H2=>x= .str (Str.ofString (toString n))/\H2=H3) I3 ⟨_,e2,.inl ⟨n,rfl,ln,rfl,rfl⟩⟩) (fun v s4 ⟨x,H4,I4,r4,q4⟩=> ?_) fun _ _ z=>z
 obtain ⟨rfl,rfl⟩:=q4
 obtain ⟨t4,rfl⟩:=r4
 refine ⟨_,t4,rfl,sz (by rw[strLen_append,strLen_append,strLen_append,strLen_append];omega),?_⟩
 exact ⟨sz (by rw[strLen_append,strLen_append,strLen_append,strLen_append];omega),.str _,H4,I4.tok _,⟨_,rfl⟩,q _⟩
noncomputable def ZfV (K:PySem.W.Frag)(r:Str):Bool:=match Zce K r with
 |some R=>specialIn K (.ref R) "__getattribute__" == some (some (.builtin "type.__getattribute__")) && readsIn K R (.type "type") && (match findCls K (.ref R) (.type "type") "__init__" with | some (.val v)=>v == .builtin "ValueError.__init__" | _=>false)
 |none=>false
theorem ZjA {r sn:Str}{fe:Expr}{tf:TE}{fI:Addr}{p1 p2 p3 p4:Pos}{pl:Sem Bool}(hb:ZfV X.K r=true)(gl: ∀ c v,nsIn X.K mainGlobals c=some (some v)->X.mg c=some v)(hg:Gl X r)(hc:ExF X.K C fI)(hn:X.N[0]?=some sn)(hv:Vis X.env.scope sn)(pf:PE X fe tf)
  (d1:(sn == ("__debug__":Str))=false:=by decide) (c1:(sn == ("__classdict__":Str))=false:=by decide) (hdb:(r == ("__debug__":Str))=false:=by decide)
  (hs:starEach [.Name sn p3,fe] X.env=(false,eval (.Name sn p3) X.env) :: starEach [fe] X.env:=by rfl) (hs2:starEach [fe] X.env=(false,eval fe X.env) :: starEach [] X.env:=by rfl) (hpl:(backTo p4 (starEach [fe] X.env)).any (·.1)=false:=by rfl)
  (ht:eval (.Call (.Attribute (.Name r p1) "__init__" p2) [.Name sn p3,fe] [] p4) X.env=(do
   let ov <- eval (.Name r p1) X.env
   standAt p2.atName
   let (f,first) <- holding [ov] (getMethod ov "__init__" pl)
   callWith p4 f first (backTo p4 (starEach [.Name sn p3,fe] X.env)) (backToKw p4 (keywordEach [] X.env))):=by rfl):
  PE X (.Call (.Attribute (.Name r p1) "__init__" p2) [.Name sn p3,fe] [] p4) (fun σ H Q=> ∃ e,σ[0]?=some (some (.ref e))/\H e=some (.ext (Mkg C e none))/\tf σ H fun x H1=> ∃ y,[V.ref e,x]=[V.ref e,y]/\H1=H/\Q .non H):=by
 unfold ZfV at hb
 split at hb
 case h_2=>cases hb
 rename_i R hR;simp only[Bool.and_eq_true,beq_iff_eq] at hb;obtain ⟨⟨b1,b2⟩,b3⟩:=hb
 split at b3
 case h_2=>cases b3
 rename_i v0 b4;have b5:=eq_of_beq b3
 subst b5;intro pins s σ H Q I ⟨e,e0,he,q⟩;refine PySem.W.methodCall_KW (pl:=pl) (Zdw I hg (gl r _ (Zbh hR)) ?_ hdb) ht
 refine PySem.W.method_cls I.kIn b1 (PySem.W.cls_value I.kIn b2 b4 rfl ?_)
 have I1:=I.tok (s.toks + 1)
 have hA:=ZcQ (Zcm hn hv d1 c1) (ZcQ pf Zg6 hs2) hs p4 pins { s with toks:=s.toks + 1 } σ H (fun vs H1=> ∃ x,vs=[V.ref e,x]/\H1=H/\Q .non H) I1 ⟨_,e0,q⟩
 rw[hs] at hA ⊢;refine Calls.callWith_builtin (by show (false || (backTo p4 (starEach [fe] X.env)).any (·.1))=false;rw[hpl]<;>rfl) (Calls.evalArgs_plain (thn hA fun us s2 ⟨vs,H2,I2,r2,x,ev,eh,q2⟩=> ?_))
 subst ev eh;obtain ⟨u1,u2,rfl,r3,r4⟩:=Zi6 r2
 cases (show u1=Value.ref e from r3)
 obtain ⟨tl,N,nm,qn,bs,hdct,sn',sub,ab,col,dd,k0,k1,k2,k3,k5,mN,gC,hN,hni,TL⟩:=ZfS I2.kIn hc.inn
 obtain ⟨⟨oe,vs,t0,g1,g2,g3,g4,g5,g6,g7⟩,_,_⟩:=I2.hok e _ he
 obtain ⟨hp,gg,dd',tk,os⟩:=s2
 refine DQ.Zic TL gC g1 g2 g4 g5 fun h' k1 k2=>⟨.non,H2,?_,rfl,q2⟩
 have hz:0 < vs.size:=(Array.getElem?_eq_some_iff.mp g5).1
 refine ZdO (s:=⟨hp,gg,dd',tk,os⟩) (t:=tk) I2 (fun b=>b=e) (fun b z=> .inl ⟨_,z ▸ he⟩) (fun b o z x=>k1 b o z x) (fun b z=>⟨_,z ▸ k2⟩) (fun b z=>rfl) fun b u z q'=> ?_
 subst z;rw[he] at q';cases q'
 refine Zif ⟨_,_,hp.objs.size,k2,g2,g3,rfl,?_,?_,?_⟩
 ·rw[Array.getElem?_setIfInBounds_self_of_lt hz]
 ·rw[Array.getElem?_setIfInBounds_ne (by decide)];exact g6
 ·rw[Array.getElem?_setIfInBounds_ne (by decide)];exact g7
theorem Zqn {f g:Str}{v:V}:[(f,v)].lookup g=if g=f then some v else none:=by
 rw[List.lookup_cons]
 by_cases c:g=f
 ·subst c;simp
 ·rw[if_neg c,show (g == f)=false by simpa using c];rfl
theorem ZlC {sn vn:Str}{fI:Addr}{i:Nat}{p1 p2 p3 pos:Pos}(hc:ExF X.K C fI)(hf:findIn X.K (.ref C) f=some none)(hn:X.N[0]?=some sn)(hv:Vis X.env.scope sn)(hn2:X.N[i]?=some vn)(hv2:Vis X.env.scope vn)
  (d1:(sn == ("__debug__":Str))=false:=by decide) (c1:(sn == ("__classdict__":Str))=false:=by decide) (d2:(vn == ("__debug__":Str))=false:=by decide) (c2:(vn == ("__classdict__":Str))=false:=by decide)
  (hs:swapsWith (.Name vn p3) (some (.Attribute (.Name sn p1) f p2)) pos.line X.env=pure false:=by rfl):
  PS X (.Assign [.Attribute (.Name sn p1) f p2] (.Name vn p3) pos) (fun Dn σ H=> ∃ e v,σ[0]?=some (some (.ref e))/\σ[i]?=some (some v)/\H e=some (.ext (Mkg C e none))/\ ∀ dx,H dx=none->dx≠e->Dn.nx σ (upd (upd H e (.ext (Mkg C e (some dx)))) dx (.xd [(f,v)]))):=by
 intro pins s σ H Dn I ⟨e,v,e0,e1,he,q⟩;refine plainObj_wpAny_Assign_Attribute (thn (Zcm hn2 hv2 d2 c2 pins s σ H (fun y H1=>y=v/\H1=H) I ⟨v,e1,rfl,rfl⟩) fun u s1 ⟨y,H1,I1,ry,ey,eh⟩=>thn (Zcm hn hv d1 c1 pins s1 σ H1 (fun y H2=>y= .ref e/\H2=H) I1 ⟨.ref e,e0,rfl,eh⟩) fun ov s2 ⟨x,H2,I2,rx,ex,eh2⟩=> ?_) hs
 subst ey ex eh2;obtain rfl:ov=Value.ref e:=rx
 obtain ⟨⟨oe,vs,t0,g1,g2,g3,g4,g5,g6,g7⟩,_,_⟩:=I2.hok e _ he
 have nd:s2.heap.objs.size≠e:=Nat.ne_of_gt (Heap.lt_size g1)
 refine DQ.ZlA I2.kIn g1 g2 g4 g3 hc.sa hc.ov (ZfU hf) hc.hd fun h' k1 k2 k3=>⟨σ,_,?_,q s2.heap.objs.size (I2.hok.fresh (Nat.le_refl _)) nd⟩
 refine ZdO I2 (fun b=>b=e\/b=s2.heap.objs.size) (fun b z=> ?_) (fun b o z x=>k3 b o (fun w=>z (.inl w)) x) (fun b z=> ?_) (fun b z=> ?_) fun b u z q'=> ?_
 ·rcases z with z | z
  ·exact .inl ⟨_,z ▸ he⟩
  ·exact .inr (.inr (z ▸ Heap.get?_none_of_le (Nat.le_refl _)))
 ·rcases z with z | z
  ·exact ⟨_,z ▸ k1⟩
  ·obtain ⟨od,_,_,g,_⟩:=k2
   exact ⟨od,z ▸ g⟩
 ·rw[Zu (fun w=>z (.inr w)),Zu (fun w=>z (.inl w))]
 ·rcases z with z | z
  ·subst z
   rw[Zu (Ne.symm nd),Zv] at q';cases q'
   exact Zif ⟨_,vs,t0,k1,g2,rfl,g4,g5,g6,g7⟩
  ·subst z
   rw[Zv] at q';cases q'
   refine ⟨_,k2,fun g=> ?_⟩
   rw[Zqn]
   by_cases c:g=f
   ·rw[if_pos c,if_pos c];exact ry
   ·rw[if_neg c,if_neg c];trivial
theorem Zez {g:Str}: ∀ {fs:List (Str × V)},g ∉ fs.map (·.1)->fs.lookup g=none
 | [],_=>rfl
 | (a,v) :: r,h=>by
  rw[List.map_cons,List.mem_cons,not_or] at h;rw[List.lookup_cons,show (g == a)=false by simpa using h.1]
  exact Zez h.2
theorem ZlD {sn vn:Str}{fI:Addr}{i:Nat}{p1 p2 p3 pos:Pos}(hc:ExF X.K C fI)(hf:findIn X.K (.ref C) f=some none)(hn:X.N[0]?=some sn)(hv:Vis X.env.scope sn)(hn2:X.N[i]?=some vn)(hv2:Vis X.env.scope vn)
  (d1:(sn == ("__debug__":Str))=false:=by decide) (c1:(sn == ("__classdict__":Str))=false:=by decide) (d2:(vn == ("__debug__":Str))=false:=by decide) (c2:(vn == ("__classdict__":Str))=false:=by decide)
  (hs:swapsWith (.Name vn p3) (some (.Attribute (.Name sn p1) f p2)) pos.line X.env=pure false:=by rfl):
  PS X (.Assign [.Attribute (.Name sn p1) f p2] (.Name vn p3) pos) (fun Dn σ H=> ∃ e v dx fs,σ[0]?=some (some (.ref e))/\σ[i]?=some (some v)/\H e=some (.ext (Mkg C e (some dx)))/\H dx=some (.xd fs)/\fs.length<=100/\Dn.nx σ (upd H dx (.xd (Zj5 f v fs)))):=by
 intro pins s σ H Dn I ⟨e,v,dx,fs,e0,e1,he,hdx,hl,q⟩;refine plainObj_wpAny_Assign_Attribute (thn (Zcm hn2 hv2 d2 c2 pins s σ H (fun y H1=>y=v/\H1=H) I ⟨v,e1,rfl,rfl⟩) fun u s1 ⟨y,H1,I1,ry,ey,eh⟩=>thn (Zcm hn hv d1 c1 pins s1 σ H1 (fun y H2=>y= .ref e/\H2=H) I1 ⟨.ref e,e0,rfl,eh⟩) fun ov s2 ⟨x,H2,I2,rx,ex,eh2⟩=> ?_) hs
 subst ey ex eh2;obtain rfl:ov=Value.ref e:=rx
 obtain ⟨⟨oe,vs,t0,g1,g2,g3,g4,g5,g6,g7⟩,_,_⟩:=I2.hok e _ he
 obtain ⟨mA,hns,hr⟩:=I2.hok dx _ hdx
 obtain ⟨od,es,ep,god,_⟩:=id hns
 have ne:e≠dx:=fun z=>by rw[z,hdx] at he;cases he
 have inst:PySem.W.InstAt s2.heap e oe C (some od):=⟨g1,g2,by unfold PySem.W.notCls;rw[g4],by rw[g3];exact god⟩
 refine DQ.ZlB (ns:=fs.map (·.1)) I2.kIn inst g3 hns hc.sa hc.ov (ZfU hf) hc.hd (fun g hg=> ?_) (by rw[List.length_map];omega) fun h' k1 k2=>⟨σ,_,?_,q⟩
 ·apply Classical.byContradiction
  intro z
  have:=hr g
  rw[Zez z] at this;exact hg (ZmB.none_of this)
 ·refine ZdO I2 (fun b=>b=dx) (fun b z=> .inr (.inl ⟨_,z ▸ hdx⟩)) (fun b o z x=>(k2.2 b z).trans x) (fun b z=> ?_) (fun b z=>Zu z) fun b u z q'=> ?_
  ·obtain ⟨o',_,_,g,_⟩:=k1
   exact ⟨o',z ▸ g⟩
  ·subst z
   rw[Zv] at q';cases q'
   refine ⟨_,k1,fun g=> ?_⟩
   rw[ZcP]
   by_cases c:g=f
   ·rw[if_pos c,if_pos c];exact ry
   ·rw[if_neg c,if_neg c];exact hr g
end
noncomputable def N3:List Str:=["self","where","at"]
noncomputable def spI (C:Addr):Sp:=fun vs H Q _=> ∃ e y n,vs=[.ref e,.str y,.int n]/\H e=some (.ext (Mkg C e none))/\y.length<=1000/\n.natAbs.log2 < 1000/\
 ∀ dx,H dx=none->dx≠e->Q .non (upd (upd (upd H e (.ext (Mkg C e (some dx)))) dx (.xd [(PySem.Str.ofString "where",.str y)])) dx (.xd [(PySem.Str.ofString "where",.str y),(PySem.Str.ofString "at",.int n)]))
noncomputable def Ztp (C:Addr)(a b:Str):TS:=ZpQ (ZmJ (fun σ H Q=> ∃ e,σ[0]?=some (some (.ref e))/\H e=some (.ext (Mkg C e none))/\tF4 a b 1 2 σ H fun x H1=> ∃ y,[V.ref e,x]=[V.ref e,y]/\H1=H/\Q .non H))
 (ZpQ (fun Dn σ H=> ∃ e v,σ[0]?=some (some (.ref e))/\σ[1]?=some (some v)/\H e=some (.ext (Mkg C e none))/\ ∀ dx,H dx=none->dx≠e->Dn.nx σ (upd (upd H e (.ext (Mkg C e (some dx)))) dx (.xd [(PySem.Str.ofString "where",v)])))
 (fun Dn σ H=> ∃ e v dx fs,σ[0]?=some (some (.ref e))/\σ[2]?=some (some v)/\H e=some (.ext (Mkg C e (some dx)))/\H dx=some (.xd fs)/\fs.length<=100/\Dn.nx σ (upd H dx (.xd (Zj5 (PySem.Str.ofString "at") v fs)))))
section
variable {P:Program}{w:World}{K:PySem.W.Frag}{mg:Str->Option Value}{base:Heap}
theorem ZlE {n:Int}(h:n.natAbs.log2 < 1000):(Str.ofString (toString n)).length<=10000:=by
 rw[PySem.ofString_length];exact Nat.le_trans (int_text_length_le (by decide) h) (by decide)
theorem ZlF {x qual:Str}{st:Stmt}{f:Addr}{fd:FuncData}{C:Addr}{k:Nat}{a b:Str}(F:Fun K x qual st f fd)(S:FnScope N3 N3 (Zy st))(la:a.length<=1000)(lb:b.length<=1000)
  (hb: ∀ (cdv:Value) (A:Around) (outer:List Env) (s:Shared) (H:Hp) (E:XK),PSs (Zg8 (CXE P w) P w K mg base N3 qual (Zy st) f cdv A outer s H E) (ZaF st) (Ztp C a b)):
  FnOk P w K mg base (CXE P w) (k + 1) f fd N3 (spI C):=by
 obtain ⟨oc,od,kV,doc,pm,an,cdv,ct,osl,rfl,lk,hcd⟩:=F.ex
 refine ZmX lk hcd S (fun vs H Q E h=> ?_) (fun A outer s H vs Q E hr h=> ?_)
 ·obtain ⟨e,y,n,rfl,_⟩:=h
  rfl
 ·obtain ⟨e,y,n,rfl,he,hy,hn,q⟩:=h
  refine ⟨_,hb cdv A outer s H E,?_⟩
  refine ⟨e,rfl,he,y,n,rfl,rfl,la,lb,hy,by omega,ZlE hn,fun x=>⟨_,rfl,rfl,?_⟩⟩
  refine ⟨e,.str y,rfl,rfl,he,fun dx h1 h2=> ?_⟩
  refine ⟨e,.int n,dx,[(PySem.Str.ofString "where",.str y)],rfl,rfl,by rw[Zu (Ne.symm h2),Zv],Zv,by simp,?_⟩
  have:=q dx h1 h2
  rw[show Zj5 (PySem.Str.ofString "at") (V.int n) [(PySem.Str.ofString "where",V.str y)]=[(PySem.Str.ofString "where",V.str y),(PySem.Str.ofString "at",V.int n)] by
   unfold Zj5;rw[if_neg (by decide +kernel)]
   rfl]
  exact this
end
noncomputable def Zbj (c:Str)(fs:Av):Sv:=fun ρ M=>Zar (fs ρ M) fun ds M1=>match ds with
 | [.str y,.int n]=>if y.length<=1000/\n.natAbs.log2 < 1000 then .exc c (M1 ++ [.lst [.str y,.int n]]) else .bad
 |_=> .bad
section
variable {X:Cx}{ξ:XK}{pos:Pos}
theorem Zig {x:Str}{np cpos:Pos}{a b:Expr}{fs:Av}{f:Addr}{fd:FuncData}{oI:Obj}{k:Nat}(T:Thr X ξ)(hx:Zie X.K x f=true)(hf:Zho x=true)(gl: ∀ c v,nsIn X.K mainGlobals c=some (some v)->X.mg c=some v)(hh:X.A.handled=none)
  (G: ∀ C,ExF X.K C f->FnOk X.prog X.w X.K X.mg X.base (CXE X.prog X.w) k f fd N3 (spI C)) (hr:Room (k + 1) X.A) (hb:Zdz X.K fd N3 []) (lk:X.K.lookup f=some oI) (lc:oI.cls= .type "function") (ha:DA X ξ [a,b] fs) (hg:Gl X x:=by rfl) (hdb:(x == ("__debug__":Str))=false:=by decide)
  (he:starEach [a,b] X.env=(false,eval a X.env) :: starEach [b] X.env:=by rfl) (hpl:(backTo cpos (starEach [b] X.env)).any (·.1)=false:=by rfl):DS X ξ (.Raise (some (.Call (.Name x np) [a,b] [] cpos)) none pos) (Zbj x fs):=by
 obtain ⟨ta,pa,qa⟩:=ha
 obtain ⟨C,hC,hE⟩:=ZfT hx
 refine ⟨fun Dn σ H=>ta σ H fun vs H1=> ∃ y n,vs=[.str y,.int n]/\y.length<=1000/\n.natAbs.log2 < 1000/\ ∀ dx,H1 dx=none->ξ (.ref C) (some dx) (upd H1 dx (.xd [(PySem.Str.ofString "where",.str y),(PySem.Str.ofString "at",.int n)])),fun pins s σ H Dn I h=> ?_,fun σ ρ H α M Dn s h q=> ?_⟩
 ·obtain ⟨tl,N,nm,q,bs,hdct,sn,sub,ab,col,dd,k0,k1,k2,k3,k5,mN,gC,hN,hni,TL⟩:=ZfS I.ok.mod.kin hE.inn
  refine DQ.Zgw (C:=C) (nm:=nm) (q:=q) (N:=N) (bs:=bs) (bm:=tl) (hdct:=hdct) (sn:=sn) (sub:=sub) (ab:=ab) (col:=col) (dd:=dd) (k0:=k0) (k1:=k1) (k2:=k2) (k3:=k3) (k5:=k5) (mN:=mN) (oI:=oI) F.excBase_ValueError
   (TL.hasType F.excBase_ValueError.hasBase) hh (by rw[he];show (false || (backTo cpos (starEach [b] X.env)).any (·.1))=false;rw[hpl];rfl) hni lc (Zdw I hg (gl x _ hC) ⟨rfl,?_⟩ hdb)
  have hs:=pa cpos pins s σ H _ I h
  rw[he] at hs ⊢;refine Calls.evalArgs_plain (wpAny_mono hs (fun us s2 ⟨vs,H1,I1,r1,y,n,ev,hy,hn,q⟩=>⟨rfl,?_,I1.bk _ _ gC,hN.keeps I1.bk,TL.keeps I1.bk,I1.kIn _ _ lk,fun h' e m=> ?_⟩) fun _ _ y=>y)
  ·rw[<- r1.length,ev];exact Nat.le_trans (show 2<=1000 by decide) (by rw[sizeLine_eq];decide)
  ·subst ev
   obtain ⟨t0,g1,g2,g3⟩:=m.there
   have ne: ∀ b o,s2.heap.get? b=some o->b≠e:=fun b o x z=>by rw[z,m.new] at x;cases x
   have h1e:H1 e=none:=Zkl I1.hok m.new
   have I2:Inv X pins σ (upd H1 e (.ext (Mkg C e none))) { s2 with heap:=h' }:=by
    refine ZdO (t:=s2.toks) I1 (fun b=>b=e) (fun b z=> .inr (.inr (z ▸ m.new))) (fun b o z x=>m.keeps b o x) (fun b z=>⟨_,z ▸ g1⟩) (fun b z=>Zu z) fun b u z q'=> ?_
    subst z;rw[Zv] at q';cases q'
    exact Zif ⟨_,_,t0,g1,rfl,rfl,rfl,rfl,rfl,rfl⟩
   have r2:ZX (V.ref e :: [.str y,.int n]) (Value.ref e :: us):= .cons rfl r1
   have hl:(Value.ref e :: us ++ []).length=N3.length:=by rw[List.append_nil,<- r2.length];rfl
   have hsp:spI C [V.ref e,.str y,.int n] (upd H1 e (.ext (Mkg C e none))) (fun v H'=>v= .non/\ ∃ dx,H1 dx=none/\dx≠e/\H'=upd (upd (upd (upd H1 e (.ext (Mkg C e none))) e (.ext (Mkg C e (some dx)))) dx (.xd [(PySem.Str.ofString "where",.str y)])) dx (.xd [(PySem.Str.ofString "where",.str y),(PySem.Str.ofString "at",.int n)])) ξ:=
    ⟨e,y,n,rfl,Zv,hy,hn,fun dx h1 h2=>⟨rfl,dx,by rw[Zu h2] at h1;exact h1,h2,rfl⟩⟩
   have bd:=hb { s2 with heap:=h' } (Value.ref e :: us) I2.kIn hl
   rw[List.append_nil] at bd;refine wpAny_call (codeAny_mono ((G C hE).run _ X.stack { s2 with heap:=h' } _ ⟨Value.ref e :: us,[]⟩ (Value.ref e :: us) _ _ ξ (hr.make C us []) (I2.env0.make C us []) bd r2 hsp) fun r s' hq=> ?_)
   cases r with
   |error e'=>exact T.ps pins σ _ _ e' s' I2 hq
   |ok fl=>
    cases fl with
    |next=>exact False.elim hq
    |brk=>exact False.elim hq
    |cont=>exact False.elim hq
    |ret u=>
     obtain ⟨v,H',I3,rv,ev,_⟩:=I2.after hq
     obtain ⟨v',H',os,bare,un,hok,rv',ev',dx,hdx,dne,eH⟩:=hq
     subst ev';refine ⟨rv',?_⟩
     have hHe:H' e=some (.ext (Mkg C e (some dx))):=by rw[eH,Zu (Ne.symm dne),Zu (Ne.symm dne),Zv]
     have hHd:H' dx=some (.xd [(PySem.Str.ofString "where",.str y),(PySem.Str.ofString "at",.int n)]):=by rw[eH,Zv]
     have hHo: ∀ b,b≠e->b≠dx->H' b=H1 b:=fun b z1 z2=>by rw[eH,Zu z2,Zu z2,Zu z1,Zu z1]
     have dxn:s2.heap.get? dx=none:=by
      cases z:s2.heap.get? dx with
      |none=>rfl
      |some o=>
       have:=un.free dx o (m.keeps _ _ z) (by rw[Zu dne];exact hdx) (by simp)
       rw[hHd] at this;cases this
     have h2n: ∀ b o,s2.heap.get? b=some o->H1 b=none->upd H1 e (.ext (Mkg C e none)) b=none:=fun b o x z=>by rw[Zu (ne b o x)];exact z
     have nd: ∀ b o,s2.heap.get? b=some o->b≠dx:=fun b o x z=>by rw[z,dxn] at x;cases x
     obtain ⟨⟨oe,vs,t1,j1,j2,j3,j4,j5,j6,j7⟩,_,_⟩:=hok e _ hHe
     refine ⟨oe,vs,I3.bk _ _ gC,j1,j2,j4,j6,?_⟩
     refine T.mak pins σ H1 (upd H1 dx (.xd [(PySem.Str.ofString "where",.str y),(PySem.Str.ofString "at",.int n)])) s2 s' e oe vs C I1 os bare ⟨fun b o x z hb _=>un.keep b o (m.keeps b o x) (h2n b o x z) hb (by simp),fun b o x z hb _=>un.slot b o (m.keeps b o x) (h2n b o x z) hb (by simp),fun b o x z _=>by rw[Zu (nd b o x)];exact z,fun b o x _=>un.there b o (m.keeps b o x) (by simp),fun b xs z=> ?_,fun b o u z=> ?_,fun b ps z=>⟨#[],?_⟩⟩ (fun b u z=> ?_) m.new j1 j2 j4 j6 j7 (by rw[Zu (Ne.symm dne)];exact h1e) (by rw[j3];exact q dx hdx)
     ·rw[Zu (ZS z hdx)];exact z
     ·rw[Zu (ZS z hdx)];exact z
     ·rw[Zu (ZS z hdx),Array.append_empty];exact z
     ·by_cases c:b=dx
      ·subst c
       rw[Zv] at z;cases z
       have:=hok b _ hHd
       exact this
      ·rw[Zu c] at z
       have be:b≠e:=fun w=>by rw[w,h1e] at z;cases z
       have zb:H' b=some u:=by rw[hHo b be c];exact z
       have tr: ∀ a v,H' a=some v->(∀ φ,v≠ .ext φ)->(∀ fs,v≠ .xd fs)->upd H1 dx (.xd [(PySem.Str.ofString "where",.str y),(PySem.Str.ofString "at",.int n)]) a=some v:=fun a v r n1 n2=>by
        have a1:a≠e:=fun w=>by rw[w,hHe] at r;cases r;exact n1 _ rfl
        have a2:a≠dx:=fun w=>by rw[w,hHd] at r;cases r;exact n2 _ rfl
        rw[Zu a2,<- hHo a a1 a2];exact r
       exact (hok b u zb).stay (fun _ _ _ r=>r) (fun a r=>tr a _ r (by simp) (by simp)) fun a xs r=>tr a _ r (by simp) (by simp)
 ·refine qa σ ρ H α M _ s h (FP.seq q fun ds M1 vs H1 α1 e1 h1 r1 w1=> ?_)
  split at w1
  ·rename_i y n
   cases r1 with
   |cons ra rt=>
    cases rt with
    |cons rb rc=>
     cases rc
     cases ra
     cases rb
     by_cases hl:y.length<=1000/\n.natAbs.log2 < 1000
     ·rw[if_pos hl] at w1
      exact ⟨y,n,rfl,hl.1,hl.2,fun dx hdx=>w1 C _ α1 hC (Ext.new0 hdx) (some dx) (.inr ⟨hf,M1,_,dx,_,rfl,h1.tup hdx,rfl,Zv,rfl,.cons (.str y) (.cons (.int n) .nil)⟩)⟩
     ·rw[if_neg hl] at w1
      exact w1.elim
  ·exact w1.elim
end
structure IniOk (K:PySem.W.Frag) (x qual:Str) (st:Stmt) (f:Addr) (fd:FuncData):Prop where
 ex:Zie K x f=true
 fn:Fun K "__init__" qual st f fd
 bs:ZfV K "RayError"=true
 bi:Zdz K fd N3 []
section
variable {X:Cx}{ξ:XK}{pos:Pos}
theorem Zb1 {x qual:Str}{st:Stmt}{np cpos:Pos}{a b:Expr}{fs:Av}{k:Nat}(J: ∃ f fd,IniOk X.K x qual st f fd)(G: ∀ f fd C,IniOk X.K x qual st f fd->ExF X.K C f->FnOk X.prog X.w X.K X.mg X.base (CXE X.prog X.w) k f fd N3 (spI C))(T:Thr X ξ)(hf:Zho x=true)(gl: ∀ c v,nsIn X.K mainGlobals c=some (some v)->X.mg c=some v)(hh:X.A.handled=none)
  (hr:Room (k + 1) X.A) (ha:DA X ξ [a,b] fs) (hg:Gl X x:=by rfl) (hdb:(x == ("__debug__":Str))=false:=by decide)
  (he:starEach [a,b] X.env=(false,eval a X.env) :: starEach [b] X.env:=by rfl) (hpl:(backTo cpos (starEach [b] X.env)).any (·.1)=false:=by rfl):DS X ξ (.Raise (some (.Call (.Name x np) [a,b] [] cpos)) none pos) (Zbj x fs):=by
 obtain ⟨f,fd,J⟩:=J
 obtain ⟨oc,od,kV,doc,pm,an,cdv,ct,osl,_,lk,hcd⟩:=J.fn.ex
 obtain ⟨C,hC,hE⟩:=ZfT J.ex
 have ty:=hE.ty
 have lc:oc= .type "function":=by
  have:(X.K.lookup f).map (·.cls)=some (.type "function"):=ty
  rw[lk] at this;exact Option.some.inj this
 exact Zig T J.ex hf gl hh (fun C hE=>G f fd C J hE) hr J.bi lk lc ha hg hdb he hpl
end
end DL
end
section
namespace DL
open PySem PySem.Spec PyProof.Rows L2
open PySem.W (nsIn excIn tailIn nsOkIn mroIn clsIn typeIn findIn specialIn takesIn kitOne Looks looks_mroIn looks_typeIn exmAny exm_tup2)
theorem Zih {B:Heap}{l:List Env}{e:Addr}{cls:Value}{dct:Option Addr}{fl:Value}{h h':Heap}(f:DQ.Fly B l e cls dct fl h)(k: ∀ b o,h.get? b=some o->h'.get? b=some o):DQ.Fly B l e cls dct fl h':=by
 obtain ⟨st,nw,fr,oe,vs,T,oT,ts,g1,g2,g3,g4,g5,g6,g7,g8,g9,g10,g11⟩:=f
 exact ⟨fun b o q=>k b o (st b o q),nw,fr.of_keeps fun b o q _=>⟨o,k b o q,rfl⟩,oe,vs,T,oT,ts,k _ _ g1,g2,g3,g4,g5,g6,g7,g8,k _ _ g9,g10,g11⟩
noncomputable def ZfW (X:Cx)(t:Expr)(cs:List Str):Prop:= ∀ c∈cs,∀ C,nsIn X.K mainGlobals c=some (some (.ref C))-> ∀ (A':Around) (E:Value->Shared->Prop) (Q:Bool->Shared->Prop) (s:Shared) (pins:List (Addr × Obj)) (σ:L2.St) (H:Hp) (e:Addr) (oe:Obj) (od:Option Obj),
 Inv X pins σ H s->PySem.W.InstAt s.heap e oe C od->(∀ h',(∀ q o,s.heap.get? q=some o->h'.get? q=some o)->Q true { s with heap:=h' })->wpAny (model X.prog X.w) A' (eval t X.env) (fun v s1=>wpAny (model X.prog X.w) A' (excMatches (.ref e) v) Q E s1) E s
section
variable {X:Cx}{cs:List Str}{d d':Str}{np np' tp:Pos}{kk:Nat}
theorem ZjB (hcat:ZhE X.K d cs=true)(gl: ∀ c v,nsIn X.K mainGlobals c=some (some v)->X.mg c=some v)(hg:Gl X d:=by rfl)(hdb:(d == ("__debug__":Str))=false:=by decide):ZfW X (.Name d np) cs:=by
 unfold ZhE at hcat
 split at hcat
 case h_2=>cases hcat
 rename_i D hD;simp only[Bool.and_eq_true,beq_iff_eq,List.all_eq_true] at hcat;obtain ⟨⟨⟨hD3,hD1⟩,hD2⟩,hall⟩:=hcat
 intro c hc C hC A' E Q s pins σ H e oe od J I q;have hm:=hall c hc
 rw[ZfL hC] at hm;refine Calls.Name_function_global J.ok.kind hg (Calls.loadGlobal_global (by rw[J.ok.glob];exact J.mod.glob.keeps J.bk) (gl d _ (Zbh hD)) ?_) hdb
 exact ZhF (od:=od) J.kIn I hD1 hD2 hD3 (by simpa using hm.2) (q s.heap fun _ _ z=>z)
noncomputable def Ze5 (K:PySem.W.Frag)(d d':Str)(cs:List Str):Bool:=match Zce K d,Zce K d' with
 |some D,some D'=>cs.all fun c=>Zjp K c && (match Zce K c with | some C=>exmAny K (.ref C) [.ref D,.ref D'] == some true | none=>false)
 |_,_=>false
theorem ZjC (hcat:Ze5 X.K d d' cs=true)(gl: ∀ c v,nsIn X.K mainGlobals c=some (some v)->X.mg c=some v)(hg:Gl X d:=by rfl)(hdb:(d == ("__debug__":Str))=false:=by decide)(hg':Gl X d':=by rfl)(hdb':(d' == ("__debug__":Str))=false:=by decide):ZfW X (.Tuple [.Name d np,.Name d' np'] kk tp) cs:=by
 unfold Ze5 at hcat
 split at hcat
 case h_2=>cases hcat
 rename_i D D' hD hD';simp only[Bool.and_eq_true,List.all_eq_true] at hcat;intro c hc C hC A' E Q s pins σ H e oe od J I q;have hm:=hcat c hc
 rw[ZfL hC] at hm;refine wpAny_Tuple ?_
 refine wpAny_items_cons (Calls.Name_function_global J.ok.kind hg (Calls.loadGlobal_global (by rw[J.ok.glob];exact J.mod.glob.keeps J.bk) (gl d _ (Zbh hD)) ?_) hdb)
 refine wpAny_items_cons (Calls.Name_function_global J.ok.kind hg' (Calls.loadGlobal_global (by rw[J.ok.glob];exact J.mod.glob.keeps J.bk) (gl d' _ (Zbh hD')) ?_) hdb')
 refine wpAny_items_nil ⟨by size_fits,?_⟩
 have kp: ∀ q o,s.heap.get? q=some o->(s.heap.push { cls:= .type "tuple",data:= .seq [Value.ref D,Value.ref D'].toArray }).get? q=some o:=fun _ _ z=>Heap.get?_push_of_some _ z
 exact (exm_tup2 (J.kIn.keeps kp) ((I.type (M:=model X.prog X.w)).keeps kp) (Heap.get?_push_size s.heap rfl) (beq_iff_eq.mp hm.2)).here (q _ kp)
end
noncomputable def ZeA (gb:Sv)(cs:List Str)(W:List Bool)(gh:Sv):Sv:=fun ρ M=>match gb ρ M with
 | .exc c M1=>if cs.contains c=true then (match gh (kpR W ρ) (stE c M1) with
  | .ret d M2=> .ret d M2
  | .nx ρ2 M2=> .nx ρ2 M2
  |_=> .bad) else .bad
 |o=>o
section
variable {X:Cx}{ξ:XK}{cs:List Str}{t:Expr}{body suite:List Stmt}{b0:Stmt}{gb gh:Sv}{pos hpos:Pos}
theorem ZjD {pins:List (Addr × Obj)}{σ1:L2.St}{H1 H2:Hp}{s1 s2:Shared}{h3 B:Heap}{ea C:Addr}{c:Str}{Dn:Ends}{α1:List Addr}{M1:Sto}{fl:Value}{ρk:Ro}{dct:Option Addr}
  (ht:ZfW X t cs) (hc:c∈cs) (srk:SR X.K H2 α1 σ1 ρk) (hx:X.ex=[]) (hh:X.A.handled=none) (hC2:nsIn X.K mainGlobals c=some (some (.ref C)))
  (hs: ∀ ea,DSs (Cx.han X ea) E0 (b0 :: suite) gh)
  (I1:Inv X pins σ1 H1 s1) (os:s2.os=s1.os) (bare:AllBare s2.gens) (un:Un (frs X.stack) [] H1 H2 s1.heap s2.heap) (hok:HOk X.prog X.w H2 s2.heap) (t1: ∀ b u,H2 b=some u-> ∃ o,B.get? b=some o) (t2: ∀ b o,s1.heap.get? b=some o->b ∉ frs X.stack-> ∃ o',B.get? b=some o')
  (st2:B.StaysIn s2.heap) (fly:DQ.Fly B X.stack ea (.ref C) dct fl h3) (up3:s2.heap.UpToSlots h3) (xo:XO X.K H2 α1 c M1 dct)
  (fp: ∀ H3,Ext X.K H2 H3 α1 α1->FP X.K H3 α1 E0 { nx:=Dn.nx,rt:=Dn.rt } (gh ρk (stE c M1))):
  wpAny (model X.prog X.w) X.A (setFlight (.ref ea) none) (fun _ s₃=>wpAny (model X.prog X.w) X.A (handleBy (.ref ea) X.env [.ExceptHandler (some t) none (b0 :: suite) hpos]) (SP X pins Dn) X.xe s₃) X.xe { s2 with heap:=h3 }:=by
 refine DQ.ZcI (s:={ s2 with heap:=h3 }) fly fun h4 f4 up4=> ?_
 have inv: ∀ h,B.StaysIn h->s2.heap.UpToSlots h->Inv X pins σ1 H2 { s2 with heap:=h }:=fun h st up=>by
  obtain ⟨a1,a2⟩:=Zlo I1 un hok t1 t2 st2 st up
  exact I1.call' (s':={ s2 with heap:=h }) (ch:=[]) os a1 a2 bare fun b z=>absurd z (by simp)
 have J4:=inv h4 f4.stay (up3.trans up4)
 obtain ⟨oe4,vs4,T4,oT4,ts4,g1,g2,g3,g4,g5,g6⟩:=id f4.obj
 refine wpAny_handleBy_cons (codeAny_handlers_test ?_) (by intro q;cases q)
 obtain ⟨od4,in4⟩:=XO.inst (g3 ▸ xo) J4.hok g1 g2 g4
 refine ht c hc C hC2 _ _ _ _ _ _ _ ea oe4 od4 J4 in4 fun h4' kp=> ?_
 have f4':DQ.Fly B X.stack ea (.ref C) dct .none h4':=Zih f4 kp
 have up4':s2.heap.UpToSlots h4':=(up3.trans up4).trans (Heap.UpToSlots.of_keeps kp)
 refine codeAny_handlers_suite ?_
 refine DQ.ZcI (s:={ s2 with heap:=h4' }) f4' fun h5 f5 up5=> ?_
 have J5:=inv h5 f5.stay (up4'.trans up5)
 obtain ⟨oe,vs,T5,oT5,ts5,k1,k2,k3,k4,k5,k6⟩:=id f5.obj
 have nB:B.get? ea=none:=f5.new
 have hn:H2 ea=none:=by
  cases z:H2 ea with
  |none=>rfl
  |some u=>obtain ⟨o,q⟩:=t1 ea u z;rw[nB] at q;cases q
 have nf:ea ∉ frs X.stack:=DQ.apart f5.frames k1 k4
 have h0:X.s₀.heap.get? ea=none:=by
  cases z:X.s₀.heap.get? ea with
  |none=>rfl
  |some o=>
   have nx:ea ∉ X.ex:=by rw[hx];simp
   obtain ⟨o',q⟩:=I1.base.there ea o z nx
   obtain ⟨o2,q2⟩:=t2 ea o' q nf
   rw[nB] at q2;cases q2
 have hp: ∀ p∈X.pn ++ pins,p.1≠ea:=fun p hp z=>by
  obtain ⟨q1,_,q3,q4,_⟩:=I1.pin p hp
  obtain ⟨o2,q2⟩:=t2 p.1 p.2 q1 (by rw[z];exact nf)
  rw[z,nB] at q2;cases q2
 have J6:=ZhG J5 hn k1 k4 h0 hp
 have J7:=Zlm (e:=ea) J6 (.inr ⟨ea,oe,.own 0,vs,rfl,Zv,k4,k5⟩)
 have ex:Ext X.K H2 (upd H2 ea (.frz oe (.own 0))) α1 α1:=Ext.new0 hn
 obtain ⟨ts,ps,qs⟩:=hs ea
 have run:=ps pins _ _ _ { nx:=Dn.nx,rt:=Dn.rt } J7 (qs _ _ _ α1 (stE c M1) _ (srk.mono ex) (xo.hr.tup hn) (fp _ ex))
 refine wpAny_mono run (fun f s9 h9=> ?_) (fun _ _ z=>z.elim)
 cases f with
 |next=>
  obtain ⟨σ',H',J9,q⟩:=h9
  exact ⟨_,H',Zep J9 hh,q⟩
 |ret u=>
  obtain ⟨v,σ',H',J9,r,q⟩:=h9
  exact ⟨v,_,H',Zep J9 hh,r,q⟩
 |brk=>obtain ⟨_,_,_,q⟩:=h9;exact False.elim q
 |cont=>obtain ⟨_,_,_,q⟩:=h9;exact False.elim q
theorem Zii (ht:ZfW X t cs)(hh:X.A.handled=none)(hx:X.ex=[])(hst:X.stack=X.env :: X.outer)(hf:X.env.frame=some X.env.locals)
  (W:List Bool) (hb: ∀ pn xe σ ξ',Thr (Cx.tri X pn xe W σ) ξ'->DSs (Cx.tri X pn xe W σ) ξ' body gb) (hs: ∀ ea,DSs (Cx.han X ea) E0 (b0 :: suite) gh) (fxn:X.fxs=none:=by rfl)
  :
  DS X ξ (.Try body [.ExceptHandler (some t) none (b0 :: suite) hpos] [] [] pos) (ZeA gb cs W gh):=by
 refine ⟨fun Dn σ H=> ∃ ρ α M,SR X.K H α σ ρ/\HR X.K H α M/\FP X.K H α ξ Dn (ZeA gb cs W gh ρ M),?_,fun σ ρ H α M Dn s h q=>⟨ρ,α,M,s,h,q⟩⟩
 rintro pins s σ H Dn I ⟨ρ,α,M,sr,hr,fp⟩
 refine wpAny_Try_except ?_
 have lenρ:ρ.length=X.N.length:=by rw[<- sr.1];exact I.len
 generalize hxe:(fun (e:Value) (s₁:Shared)=>wpAny (model X.prog X.w) X.A (noteFrame e X.env) (fun _ s₂=>wpAny (model X.prog X.w) X.A (setFlight e none) (fun _ s₃=>wpAny (model X.prog X.w) X.A (handleBy e X.env [.ExceptHandler (some t) none (b0 :: suite) hpos]) (SP X pins Dn) X.xe s₃) X.xe s₂) X.xe s₁)=xe'
 have own:PassesOwn (model X.prog X.w) X.A X.env xe':=by
  rw[<- hxe];exact PassesOwn.looking
 have land: ∀ {pins':List (Addr × Obj)} {σ1:L2.St} {H1 H2:Hp} {s1 s2:Shared} {h3 B:Heap} {ea C:Addr} {fl:Value} {dct:Option Addr},Inv (Cx.tri X (X.pn ++ pins) xe' W σ) pins' σ1 H1 s1->s2.os=s1.os->AllBare s2.gens->Un (frs X.stack) [] H1 H2 s1.heap s2.heap->HOk X.prog X.w H2 s2.heap->
   (∀ b u,H2 b=some u-> ∃ o,B.get? b=some o)->(∀ b o,s1.heap.get? b=some o->b ∉ frs X.stack-> ∃ o',B.get? b=some o')->B.StaysIn s2.heap->DQ.Fly B X.stack ea (.ref C) dct fl h3->s2.heap.UpToSlots h3->
   (∃ c M1 α',gb ρ M= .exc c M1/\nsIn X.K mainGlobals c=some (some (.ref C))/\Ext X.K H H2 α α'/\XO X.K H2 α' c M1 dct)->
   wpAny (model X.prog X.w) X.A (setFlight (.ref ea) none) (fun _ s₃=>wpAny (model X.prog X.w) X.A (handleBy (.ref ea) X.env [.ExceptHandler (some t) none (b0 :: suite) hpos]) (SP X pins Dn) X.xe s₃) X.xe { s2 with heap:=h3 }:=by
  intro pins' σ1 H1 H2 s1 s2 h3 B ea C fl dct I1 os bare un hok t1 t2 st2 fly up3 ⟨c,M1,α',eg,hC2,ex,hr1⟩;unfold ZeA at fp;simp only[eg] at fp
  by_cases hc:cs.contains c=true
  ·rw[if_pos hc] at fp
   refine ZjD (ρk:=kpR W ρ) ht (List.contains_iff_mem.mp hc) ?_ hx hh hC2 hs (Za8 fxn I1) os bare un hok t1 t2 st2 fly up3 hr1 fun H3 ex3=> ?_
   ·refine ⟨by rw[Ze0,lenρ];exact I1.len,fun j dd e=> ?_⟩
    obtain ⟨w1,w2⟩:=ZhH W ρ j dd e
    obtain ⟨v,v1,v2⟩:=sr.2 j dd w2
    exact ⟨v,(I1.fx W σ rfl j w1).trans v1,Rep.mono ex v2⟩
   cases er:gh (kpR W ρ) (stE c M1) with
   |ret dd M2=>rw[er] at fp;exact FP.ext (o:= .ret dd M2) fp (ex.trans ex3)
   |nx ρ2 M2=>rw[er] at fp;exact FP.ext (o:= .nx ρ2 M2) fp (ex.trans ex3)
   |brk ρ2 M2=>rw[er] at fp;exact fp.elim
   |cnt ρ2 M2=>rw[er] at fp;exact fp.elim
   |exc x M2=>rw[er] at fp;exact fp.elim
   |bad=>rw[er] at fp;exact fp.elim
  ·rw[if_neg hc] at fp
   exact fp.elim
 have T:Thr (Cx.tri X (X.pn ++ pins) xe' W σ) (fun cls dct H'=> ∃ C c M1 α',cls= .ref C/\gb ρ M= .exc c M1/\nsIn X.K mainGlobals c=some (some (.ref C))/\Ext X.K H H' α α'/\XO X.K H' α' c M1 dct):=by
  refine ⟨own,fun pins' σ1 H1 s1 e s2 I1 h=> ?_,fun pins' σ1 H1 H' s1 s' e oe vs C I1 os bare un hok hn he hc hd v1 v2 hne q=> ?_⟩
  ·obtain ⟨ea,C,dct,B,H2,rfl,os,bare,un,hok,fl,t1,t2,C',c,M1,α',q1,q3,q4,q5,q6⟩:=h
   cases q1
   show xe' (.ref ea) s2
   rw[<- hxe];have fl':DQ.Fly B (X.env :: X.outer) ea (.ref C) dct .none s2.heap:=hst ▸ fl
   refine DQ.Zfy (by rw[<- hst];exact I1.ok.frames) hf fl' fun h3 f3 up=> ?_
   exact land I1 os bare un hok t1 t2 fl.stay (hst ▸ f3) up ⟨c,M1,α',q3,q4,q5,q6⟩
  ·obtain ⟨C',c,M1,α',q1,q3,q4,q5,q6⟩:=q
   cases q1
   show xe' (.ref e) s'
   rw[<- hxe];have I2:=Za8 fxn I1
   obtain ⟨t1,t2,hs',hl',hb'⟩:=Zel I2 un hok hn he hne
   generalize ZiW s'.heap (e :: frs X.stack)=B at t2 hs' hl' hb' t1;refine Zgq (s:=s') (by rw[<- hst];exact I2.ok.frames) hf (hst ▸ hl') he hs' hb' hd v1 v2 fun h3 f3 up=> ?_
   rw[hc] at f3;exact land (s2:=s') I1 os bare un hok t1 t2 hs' (hst ▸ f3) up ⟨c,M1,α',q3,q4,q5,q6⟩
 obtain ⟨tb,pb,qb⟩:=hb _ _ _ _ T
 have fpb:FP X.K H α (fun cls dct H'=> ∃ C c M1 α',cls= .ref C/\gb ρ M= .exc c M1/\nsIn X.K mainGlobals c=some (some (.ref C))/\Ext X.K H H' α α'/\XO X.K H' α' c M1 dct) Dn (gb ρ M):=by
  unfold ZeA at fp;cases eg:gb ρ M with
  |exc c M1=>exact fun C H' α' n1 e1 dct h1=>⟨C,c,M1,α',rfl,rfl,n1,e1,h1⟩
  |nx ρ2 M2=>rw[eg] at fp;exact fp
  |ret d2 M2=>rw[eg] at fp;exact fp
  |brk ρ2 M2=>rw[eg] at fp;exact fp
  |cnt ρ2 M2=>rw[eg] at fp;exact fp
  |bad=>rw[eg] at fp;exact fp
 have run:=pb [] s σ H Dn (Zln I) (qb σ ρ H α M Dn sr hr fpb)
 refine wpAny_mono run (fun f s1 h1=> ?_) (fun e s1 h1=> ?_)
 ·cases f with
  |next=>
   obtain ⟨σ',H',J,q⟩:=h1
   exact wpAny_execs_nil ⟨σ',H',Za8 fxn J,q⟩
  |brk=>obtain ⟨σ',H',J,q⟩:=h1;exact ⟨σ',H',Za8 fxn J,q⟩
  |cont=>obtain ⟨σ',H',J,q⟩:=h1;exact ⟨σ',H',Za8 fxn J,q⟩
  |ret u=>obtain ⟨v,σ',H',J,r,q⟩:=h1;exact ⟨v,σ',H',Za8 fxn J,r,q⟩
 ·exact h1
end
end DL
end
section
namespace DL
open PySem PySem.Spec PyProof.Rows L2
theorem ZlG {g:Sv}{n k:Nat}{ds:List D}{M M':Sto}{d:D}(hl:ds.length=n)(h:g (ds.map some ++ List.replicate k none) M= .ret d M'):fnF g n k ds M= .ok d M':=by
 unfold fnF;rw[if_pos hl,h]
theorem Zij {g h:Sv}{ρ ρ1:Ro}{M M1:Sto}(e:g ρ M= .nx ρ1 M1):Zz g h ρ M=h ρ1 M1:=by
 unfold Zz;rw[e]
theorem Zik {i j:Int}(h1: -(2 ^ 64) < j)(h2:j < 2 ^ 64):Z4 i j:= .inr (.inl (intBits_le_64 h1 h2))
theorem Zil {i j:Int}(h1: -(2 ^ 64) < i)(h2:i < 2 ^ 64):Z4 i j:= .inl (intBits_le_64 h1 h2)
theorem at0 {x:D}{r:List D}:atI (x :: r) 0=some x:=by
 show (ixN (r.length + 1) 0).bind _=_
 unfold ixN;rw[if_pos (by decide),if_pos (by omega)]
 rfl
theorem at1 {x y:D}{r:List D}:atI (x :: y :: r) 1=some y:=by
 show (ixN (r.length + 2) 1).bind _=_
 unfold ixN;rw[if_pos (by decide),if_pos (by omega)]
 rfl
theorem ix0 {n:Nat}:ixN (n + 1) 0=some 0:=by
 unfold ixN;rw[if_pos (by decide),if_pos (by omega)]
 rfl
theorem ix1 {n:Nat}:ixN (n + 2) 1=some 1:=by
 unfold ixN;rw[if_pos (by decide),if_pos (by omega)]
 rfl
theorem ZjE {ns:List Int}{k:Nat}(h:k < ns.length):atI (ns.map D.int) (k:Int)=some (.int ns[k]):=Zk6 (by rw[List.getElem?_map,List.getElem?_eq_getElem h];rfl)
theorem ZfX {ρ:Ro}{i:Nat}{x:Option D}(h:ρ[i]?=some x):ρ.set i x=ρ:=by
 apply List.ext_getElem?
 intro k
 by_cases hk:k=i
 ·subst hk
  rw[List.getElem?_set_self (List.getElem?_eq_some_iff.mp h).1,h]
 ·rw[List.getElem?_set_ne (Ne.symm hk)]
noncomputable def cEu (i j:Nat):Sv:=Zgo i j (Zc (Zg j) (Zc (e2 dMod (Zg i) (Zg j)) aNil))
theorem Zkx {c:Tv}{i j:Nat}{M:Sto}(hij:i≠j)(hc: ∀ (ρ:Ro) (b:Nat),ρ[j]?=some (some (.int b))->c ρ M= .ok (decide (b≠0)) M): ∀ (b a:Nat) (ρ:Ro),ρ[i]?=some (some (.int a))->ρ[j]?=some (some (.int b))->
  sWh c (cEu i j) ρ M= .nx ((ρ.set i (some (.int (Nat.gcd a b:Nat)))).set j (some (.int 0))) M:=by
 intro b
 induction b using Nat.strongRecOn with
 |ind b ih=>
  intro a ρ hi hj
  by_cases h0:b=0
  ·subst h0
   rw[Zhy (M1:=M) (by rw[hc ρ 0 hj];rfl),Nat.gcd_zero_right,ZfX hi,ZfX (x:=some (.int 0)) hj]
  ·have hl:i < ρ.length:=(List.getElem?_eq_some_iff.mp hi).1
   have hl2:j < ρ.length:=(List.getElem?_eq_some_iff.mp hj).1
   have ht:c ρ M= .ok true M:=by rw[hc ρ b hj,decide_eq_true h0]
   have hb:cEu i j ρ M= .nx ((ρ.set i (some (.int b))).set j (some (.int (a % b:Nat)))) M:=by
    have hb0: ¬ (b:Int)=0:=by omega
    have hm:(a:Int).fmod (b:Int)=((a % b:Nat):Int):=by rw[Int.fmod_eq_emod_of_nonneg _ (by omega)];rfl
    simp[cEu,Zgo,Zc,aNil,Zg,e2,dMod,Out.bind,Zar,hi,hj,hb0,hm,h0]
   have g1:((ρ.set i (some (.int b))).set j (some (.int (a % b:Nat))))[i]?=some (some (.int b)):=by
    rw[List.getElem?_set_ne (Ne.symm hij),List.getElem?_set_self hl]
   have g2:((ρ.set i (some (.int b))).set j (some (.int (a % b:Nat))))[j]?=some (some (.int (a % b:Nat))):=by
    rw[List.getElem?_set_self (by simpa using hl2)]
   have q:=ih (a % b) (Nat.mod_lt _ (by omega)) b _ g1 g2
   rw[Zjl ht hb (by rw[q];intro z;cases z),q]
   have eg:Nat.gcd b (a % b)=Nat.gcd a b:=by rw[Nat.gcd_comm b,<- Nat.gcd_rec,Nat.gcd_comm]
   rw[eg,List.set_comm _ _ (Ne.symm hij),List.set_set,List.set_set]
theorem ZnW {M:Sto}{a b:Int}:eqF 12 M (.int a) (.int b)=some (a == b):=rfl
theorem ne0 {j:Nat}{M:Sto}(ρ:Ro)(b:Nat)(h:ρ[j]?=some (some (.int b))):tv (e2 dNe (Zg j) (eC (.int 0))) ρ M= .ok (decide (b≠0)) M:=by
 simp[tv,e2,Zg,eC,h,Out.bind,dNe,ZnW]
 by_cases c:b=0
 ·subst c;rfl
 ·have: ¬ (b:Int)=0:=by omega
  simp[c,this]
theorem gt0 {j:Nat}{M:Sto}(ρ:Ro)(b:Nat)(h:ρ[j]?=some (some (.int b))):tv (e2 dGt (Zg j) (eC (.int 0))) ρ M= .ok (decide (b≠0)) M:=by
 simp[tv,e2,Zg,eC,h,Out.bind,dGt]
 by_cases c:b=0
 ·subst c;rfl
 ·have:0 < b:=by omega
  simp[c,this]
theorem Zim (a:Int):(if a < 0 then -a else a)=(a.natAbs:Int):=by split<;>omega
noncomputable def Ztq:Sv:=(Zz (Zgo 2 3 (Zc (Zl bAbs (Zc (Zg 0) aNil)) (Zc (Zl bAbs (Zc (Zg 1) aNil)) aNil)))
 (Zz (sWh (tv (e2 dNe (Zg 3) (eC (.int 0)))) (Zgo 2 3 (Zc (Zg 3) (Zc (e2 dMod (Zg 2) (Zg 3)) aNil))))
 (ZM (Zg 2))))
noncomputable def FGcd:List D->Sto->Out D:=fnF Ztq 2 2
theorem ZnX (a b:Int)(M:Sto):FGcd [.int a,.int b] M= .ok (.int (Int.gcd a b:Nat)) M:=by
 refine ZlG rfl ?_
 refine (Zij (ρ1:=[some (.int a),some (.int b),some (.int (a.natAbs:Nat)),some (.int (b.natAbs:Nat))]) (M1:=M) ?_).trans ?_
 ·simp[fnF,Zz,sNil,ZM,Zno,ZcC,sIf,ZN,Zgo,ZeT,Zar,gNm,gNl,gCs,gTp,DL.e2,Zg,eC,Z1,ZcJ,Zl,Zc,aNil,tv,ZbG,Zcd,Zab,Zaz,Znb,Zgm,eIf,ZeW,Zdg,Out.bind,dAdd,dSub,dMul,dDiv,dMod,dPow,dLt,dLe,dGt,dGe,dIx,atD,at0,at1,ix0,ix1,bLen,bAbs,bMax,bMin,bInt,bList,ZdB,ZaA,kd,Zco,dIs,dIsNot,isP,Zim]
 ·have q:=Zkx (c:=tv (e2 dNe (Zg 3) (eC (.int 0)))) (i:=2) (j:=3) (M:=M) (by decide) ne0 b.natAbs a.natAbs [some (.int a),some (.int b),some (.int (a.natAbs:Nat)),some (.int (b.natAbs:Nat))] rfl rfl
  refine (Zij q).trans ?_
  rfl
end DL
end
section
namespace DL
open PySem PySem.Spec PyProof.Rows L2
end DL
end
section
namespace DL
open PySem PySem.Spec PyProof.Rows L2
noncomputable def wO {β:Type}(o:Out β)(Q:β->Sto->Prop)(E:Str->Sto->Prop):Prop:=match o with
 | .ok a M=>Q a M
 | .exc c M=>E c M
 | .bad=>False
noncomputable def wS (f:Fl)(N:Ro->Sto->Prop)(R:D->Sto->Prop)(B C:Ro->Sto->Prop)(E:Str->Sto->Prop):Prop:=match f with
 | .nx ρ M=>N ρ M
 | .ret d M=>R d M
 | .brk ρ M=>B ρ M
 | .cnt ρ M=>C ρ M
 | .exc c M=>E c M
 | .bad=>False
noncomputable def Br (k:Bool)(A B:Prop):Prop:=(k=true->A)/\(k=false->B)
noncomputable def wG {β:Type}(o:Option β)(N:β->Prop):Prop:=match o with | some ρ=>N ρ | none=>False
noncomputable def wV (o:Option (Option D))(Q:D->Prop):Prop:=match o with | some (some d)=>Q d | _=>False
noncomputable def wI (x:D)(Q:Int->Prop):Prop:=match x with | .int i=>Q i | _=>False
noncomputable def wB (x:D)(Q:Bool->Prop):Prop:=match x with | .bl i=>Q i | _=>False
noncomputable def wR (x:D)(Q:Nat->Prop):Prop:=match x with | .ref i=>Q i | _=>False
noncomputable def w1 (x:List D)(Q:D->Prop):Prop:=match x with | [v]=>Q v | _=>False
noncomputable def w2 (x:List D)(Q:D->D->Prop):Prop:=match x with | [v,w]=>Q v w | _=>False
noncomputable def wL (o:Option SO)(Q:List D->Prop):Prop:=match o with | some (.lst xs)=>Q xs | none=>False
section
variable {β:Type}{o o':Option (Option D)}{x x':D}{Q:D->Prop}{QI:Int->Prop}{QB:Bool->Prop}{QR:Nat->Prop}{QL:List D->Prop}{l l':Option SO}{d:D}{i:Int}{k:Bool}{n:Nat}{xs:List D}{g g':Option β}{QG:β->Prop}{y:β}
theorem Ztr:w1 [d] Q=Q d:=rfl
theorem Zts {Q2:D->D->Prop}:w2 [d,x] Q2=Q2 d x:=rfl
theorem Ztt:wV (some (some d)) Q=Q d:=rfl
theorem Ztu:wI (.int i) QI=QI i:=rfl
theorem Ztv:wB (.bl k) QB=QB k:=rfl
theorem Ztw:wR (.ref n) QR=QR n:=rfl
theorem Ztx:wL (some (.lst xs)) QL=QL xs:=rfl
theorem Zty:wG (some y) QG=QG y:=rfl
end
section
variable {β:Type}{Q:β->Sto->Prop}{E:Str->Sto->Prop}{N B C:Ro->Sto->Prop}{R:D->Sto->Prop}{ρ:Ro}{M:Sto}{A A':Prop}
theorem Zj {d:β}:wO (.ok d M) Q E=Q d M:=rfl
theorem ZnY {c:Str}:wO (.exc c M:Out β) Q E=E c M:=rfl
theorem Zr4:Br true A A'=A:=by simp[Br]
theorem Ztz:Br false A A'=A':=by simp[Br]
theorem br {k:Bool}(h1:k=true->A)(h2:k=false->A'):Br k A A':=⟨h1,h2⟩
theorem ZaV {o:Out β}{Q':β->Sto->Prop}{E':Str->Sto->Prop}(h:wO o Q E)(hq: ∀ d M,Q d M->Q' d M)(he: ∀ c M,E c M->E' c M):wO o Q' E':=by
 cases o with
 |ok d M=>exact hq d M h
 |exc c M=>exact he c M h
 |bad=>exact h
theorem Zky {o:Out β}(h:wO o Q (fun _ _=>False)): ∃ d M',o= .ok d M'/\Q d M':=by
 cases o with
 |ok d M=>exact ⟨d,M,rfl,h⟩
 |exc c M=>exact h.elim
 |bad=>exact h.elim
theorem ZE {γ:Type}{o:Out γ}{f:γ->Sto->Out β}:wO (o.bind f) Q E=wO o (fun x M1=>wO (f x M1) Q E) E:=by cases o<;>rfl
end
section
variable {Q:D->Sto->Prop}{E:Str->Sto->Prop}{N B C:Ro->Sto->Prop}{R:D->Sto->Prop}{ρ:Ro}{M:Sto}{e f g:Ev}{fs:Av}
theorem Zqo {op:Bo}:wO (e2 op f g ρ M) Q E=wO (f ρ M) (fun x M1=>wO (g ρ M1) (fun y M2=>wO (op x y M2) Q E) E) E:=by
 unfold e2;rw[ZE]
 congr 1
 funext x M1
 rw[ZE]
theorem ZtA {i:Nat}:wO (Zg i ρ M) Q E=wV ρ[i]? (fun d=>Q d M):=by
 unfold Zg;cases ρ[i]? with
 |none=>rfl
 |some o=>cases o<;>rfl
theorem ZlH {F:List D->Sto->Out D}:wO (Zl F fs ρ M) Q E=wO (fs ρ M) (fun ds M1=>wO (F ds M1) Q E) E:=ZE
theorem ZlI {Q:List D->Sto->Prop}:wO (Zc f fs ρ M) Q E=wO (f ρ M) (fun x M1=>wO (fs ρ M1) (fun xs M2=>Q (x :: xs) M2) E) E:=by
 unfold Zc;rw[ZE]
 congr 1
 funext x M1
 rw[ZE]
 congr 1
theorem ZnZ:wO (Z1 fs ρ M) Q E=wO (fs ρ M) (fun xs M1=>xs.length<=1000/\Q (.tup xs) M1) E:=by
 unfold Z1;rw[ZE]
 congr 1
 funext x M1
 by_cases h:x.length<=1000
 ·rw[if_pos h];simp[h,wO]
 ·rw[if_neg h];simp[h,wO]
theorem Zn0:wO (ZcJ fs ρ M) Q E=wO (fs ρ M) (fun xs M1=>xs.length<=1000/\Q (.ref M1.length) (M1 ++ [.lst xs])) E:=by
 unfold ZcJ;rw[ZE]
 congr 1
 funext x M1
 by_cases h:x.length<=1000
 ·rw[if_pos h];simp[h,wO]
 ·rw[if_neg h];simp[h,wO]
variable {t u:Tv}
theorem Zn1 {Q:Bool->Sto->Prop}:wO (Zab t ρ M) Q E=wO (t ρ M) (fun k M1=>Q (!k) M1) E:=by
 unfold Zab;rw[ZE]
 congr 1
variable {a b:Sv}
theorem Zn2:wS (Zz a b ρ M) N R B C E=wS (a ρ M) (fun ρ1 M1=>wS (b ρ1 M1) N R B C E) R B C E:=by
 unfold Zz;cases a ρ M<;>rfl
theorem Z6 {β:Type}{o:Out β}{k:β->Sto->Fl}:wS (Zar o k) N R B C E=wO o (fun x M1=>wS (k x M1) N R B C E) E:=by cases o<;>rfl
theorem Zn3:wS (ZM f ρ M) N R B C E=wO (f ρ M) R E:=Z6
theorem ZlJ:wS (ZcC f ρ M) N R B C E=wO (f ρ M) (fun _ M1=>N ρ M1) E:=Z6
theorem Zn4 {i:Nat}:wS (ZN (gNm i) f ρ M) N R B C E=wO (f ρ M) (fun d M1=>N (ρ.set i (some d)) M1) E:=Z6
theorem ZlK {gs:Tgs}:wS (ZN (gTp gs) f ρ M) N R B C E=wO (f ρ M) (fun d M1=>wG (gTp gs d ρ) (fun r=>N r M1)) E:=by
 unfold ZN;rw[Z6]
 congr 1
 funext d M1
 cases gTp gs d ρ<;>rfl
theorem Zn5 {i j:Nat}:wS (Zgo i j fs ρ M) N R B C E=wO (fs ρ M) (fun ds M1=>w2 ds fun v w=>N ((ρ.set i (some v)).set j (some w)) M1) E:=by
 unfold Zgo;rw[Z6]
 congr 1
 funext ds M1
 rcases ds with _ | ⟨v,_ | ⟨w,_ | ⟨z,r⟩⟩⟩<;>rfl
theorem Zn6 {fo fi:Ev}:wS (ZeT fo fi f ρ M) N R B C E=wO (f ρ M) (fun d M1=>wO (fo ρ M1) (fun o M2=>wO (fi ρ M2) (fun i M3=>wR o fun n=>wI i fun k=>wL M3[n]? fun xs=>wG (ixN xs.length k) fun j=>N ρ (M3.set n (.lst (xs.set j d)))) E) E) E:=by
 unfold ZeT;rw[Z6]
 congr 1
 funext d M1
 rw[Z6]
 congr 1
 funext o M2
 rw[Z6]
 congr 1
 funext i M3
 cases o<;>cases i<;>try rfl
 rename_i n k;cases e:M3[n]? with
 |none=>simp only[e,wR,wI,wL,wS]
 |some s=>
  cases s with
  |lst xs=>
   cases e2:ixN xs.length k<;>simp only[e,e2,wR,wI,wL,wG,wS]
theorem ZjF {c:Str}:wS (ZbW c fs ρ M) N R B C E=wO (fs ρ M) (fun ds M1=>ds.length<=1000/\E c M1) E:=by
 unfold ZbW;rw[Z6]
 congr 1
 funext ds M1
 by_cases h:ds.length<=1000
 ·rw[if_pos h];simp[h,wS]
 ·rw[if_neg h];simp[h,wS]
theorem wF {n k:Nat}{ds:List D}(hl:ds.length=n):wO (fnF a n k ds M) Q E=wS (a (ds.map some ++ List.replicate k none) M) (fun _ M1=>Q .non M1) Q (fun _ _=>False) (fun _ _=>False) E:=by
 unfold fnF;rw[if_pos hl];cases a (ds.map some ++ List.replicate k none) M<;>rfl
theorem Zin {o:Fl}{N' B' C':Ro->Sto->Prop}{R':D->Sto->Prop}{E':Str->Sto->Prop}(h:wS o N R B C E)(hn: ∀ ρ M,N ρ M->N' ρ M)(hr: ∀ d M,R d M->R' d M)(hb: ∀ ρ M,B ρ M->B' ρ M)(hc: ∀ ρ M,C ρ M->C' ρ M)(he: ∀ c M,E c M->E' c M):wS o N' R' B' C' E':=by
 cases o with
 |nx ρ M=>exact hn _ _ h
 |ret ρ M=>exact hr _ _ h
 |brk ρ M=>exact hb _ _ h
 |cnt ρ M=>exact hc _ _ h
 |exc ρ M=>exact he _ _ h
 |bad=>exact h
variable {tg:Tg}{bd:Sv}{fi:Ro->Sto->Out Src}
theorem Zio (I:Nat->Ro->Sto->Prop): ∀ (xs:List D) (k:Nat) (ρ:Ro) (M:Sto),I k ρ M->(∀ i ρ M (h:i < xs.length),I (k + i) ρ M->wG (tg xs[i] ρ) fun r=>wS (bd r M) (I (k + i + 1)) R N (I (k + i + 1)) E)->(∀ ρ M,I (k + xs.length) ρ M->N ρ M)->wS (ZbH tg bd xs ρ M) N R B C E
 | [],k,ρ,M,h,_,hn=>hn ρ M h
 |x :: xs,k,ρ,M,h,st,hn=>by
  have s:=st 0 ρ M (by simp) h
  unfold ZbH;simp only[List.getElem_cons_zero,Nat.add_zero] at s;cases e:tg x ρ with
  |none=>rw[e] at s;exact s.elim
  |some ρ1=>
   rw[e] at s;simp only[wG] at s;have rc: ∀ ρ2 M2,I (k + 1) ρ2 M2->wS (ZbH tg bd xs ρ2 M2) N R B C E:=fun ρ2 M2 h2=>Zio I xs (k + 1) ρ2 M2 h2 (fun i ρ M hi hI=>by
    have z:=st (i + 1) ρ M (by simp;omega) (by rw[show k + (i + 1)=k + 1 + i by omega];exact hI)
    simp only[List.getElem_cons_succ] at z;rw[show k + (i + 1) + 1=k + 1 + i + 1 by omega] at z
    exact z) (fun ρ M hI=>hn ρ M (by rw[show k + (x :: xs).length=k + 1 + xs.length by simp;omega];exact hI))
   cases eg:bd ρ1 M<;>rw[eg] at s<;>simp only[eg]
   ·exact rc _ _ s
   ·exact s
   ·exact s
   ·exact rc _ _ s
   ·exact s
   ·exact s
theorem ZlL:wS (ZbM tg fs bd ρ M) N R B C E=wO (fs ρ M) (fun ds M1=>w1 ds fun d=>wI d fun j=>(-(2 ^ 62)<=j/\j < 2 ^ 62)/\wS (ZbH tg bd (Zbq 0 j.toNat) ρ M1) N R B C E) E:=by
 unfold ZbM;rw[Z6]
 congr 1
 funext ds M1
 rcases ds with _ | ⟨v,_ | ⟨w,r⟩⟩
 ·rfl
 ·cases v<;>try rfl
  rename_i j
  by_cases h: -(2 ^ 62)<=j/\j < 2 ^ 62
  ·simp only[w1,wI,eq_true h,true_and,if_true]
  ·simp only[w1,wI,eq_false h,false_and,if_false]
   rfl
 ·cases v<;>rfl
theorem ZcY (I:Nat->Ro->Sto->Prop){n:Nat}{lo:Int}(h0:I 0 ρ M)(st: ∀ i ρ M,i < n->I i ρ M->wG (tg (.int (lo + i)) ρ) fun r=>wS (bd r M) (I (i + 1)) R N (I (i + 1)) E)(hn: ∀ ρ M,I n ρ M->N ρ M):wS (ZbH tg bd (Zbq lo n) ρ M) N R B C E:=by
 have hl:(Zbq lo n).length=n:=by simp[Zbq]
 refine Zio I _ 0 ρ M h0 (fun i ρ M h hI=> ?_) (fun ρ M hI=>hn ρ M (by rw[hl,Nat.zero_add] at hI;exact hI))
 have:(Zbq lo n)[i]= .int (lo + i):=by simp[Zbq]
 rw[this];rw[Nat.zero_add] at *;exact st i ρ M (by rw[hl] at h;exact h) hI
theorem Zn7:wS (Zlg tg f bd ρ M) N R B C E=wO (f ρ M) (fun d M1=>wS (Zki tg bd d ρ M1) N R B C E) E:=Z6
theorem ZlM (I:Nat->Ro->Sto->Prop){n:Nat}{xs:List D}: ∀ (f i:Nat) (ρ:Ro) (M:Sto),i + f=xs.length->I i ρ M->(∀ i ρ M,I i ρ M->M[n]?=some (.lst xs))->(∀ i ρ M (h:i < xs.length),I i ρ M->wG (tg xs[i] ρ) fun r=>wS (bd r M) (I (i + 1)) R N (I (i + 1)) E)->(∀ ρ M,I xs.length ρ M->N ρ M)->wS (ZgN tg bd n f i ρ M) N R B C E:=by
  intro f
  induction f with
  |zero=>
   intro i ρ M e h hm st hn;have hx:=hm _ _ _ h
   unfold ZgN;rw[hx]
   have:xs[i]?=none:=List.getElem?_eq_none (by omega)
   simp only[this];exact hn ρ M (by rw[show xs.length=i by omega];exact h)
  |succ f ih=>
   intro i ρ M e h hm st hn;have hx:=hm _ _ _ h
   unfold ZgN;rw[hx];have hi:i < xs.length:=by omega
   have:xs[i]?=some xs[i]:=List.getElem?_eq_getElem hi
   simp only[this];have s:=st i ρ M hi h
   cases e:tg xs[i] ρ with
   |none=>rw[e] at s;exact s.elim
   |some ρ1=>
    rw[e] at s;simp only[wG] at s;have rc: ∀ ρ2 M2,I (i + 1) ρ2 M2->wS (ZgN tg bd n f (i + 1) ρ2 M2) N R B C E:=fun ρ2 M2 h2=>ih (i + 1) ρ2 M2 (by omega) h2 hm st hn
    cases eg:bd ρ1 M<;>rw[eg] at s<;>simp only[eg]
    ·exact rc _ _ s
    ·exact s
    ·exact s
    ·exact rc _ _ s
    ·exact s
    ·exact s
theorem ZcZ (I:Nat->Ro->Sto->Prop){n:Nat}{xs:List D}(hM:M[n]?=some (.lst xs))(h0:I 0 ρ M)(hm: ∀ i ρ M,I i ρ M->M[n]?=some (.lst xs))(st: ∀ i ρ M (h:i < xs.length),I i ρ M->wG (tg xs[i] ρ) fun r=>wS (bd r M) (I (i + 1)) R N (I (i + 1)) E)(hn: ∀ ρ M,I xs.length ρ M->N ρ M):wS (Zki tg bd (.ref n) ρ M) N R B C E:=by
 show wS (match M[n]? with | some (.lst xs)=>ZgN tg bd n xs.length 0 ρ M | none=> .bad) N R B C E
 rw[hM];exact ZlM I xs.length 0 ρ M (by omega) h0 hm st hn
theorem ZlN:wS (ZdF tg fi bd ρ M) N R B C E=wO (fi ρ M) (fun src M1=>wS (Ze1 tg bd src (cnt src M1) 0 ρ M1) N R B C E) E:=Z6
theorem Zkz (I:Nat->Ro->Sto->Prop){src:Src}{xs:List D}: ∀ (f i:Nat) (ρ:Ro) (M:Sto),i<=xs.length->xs.length<=i + f->I i ρ M->(∀ i ρ M,i<=xs.length->I i ρ M->nxt src i M=some xs[i]?)->(∀ i ρ M (h:i < xs.length),I i ρ M->wG (tg xs[i] ρ) fun r=>wS (bd r M) (I (i + 1)) R N (I (i + 1)) E)->(∀ ρ M,I xs.length ρ M->N ρ M)->wS (Ze1 tg bd src f i ρ M) N R B C E:=by
  intro f
  induction f with
  |zero=>
   intro i ρ M le e h hm st hn;have hx:=hm _ _ _ le h
   unfold Ze1;rw[hx];have hi: ¬ i < xs.length:=by omega
   have:xs[i]?=none:=List.getElem?_eq_none (by omega)
   simp only[this];exact hn ρ M (by rw[show xs.length=i by omega];exact h)
  |succ f ih=>
   intro i ρ M le e h hm st hn;have hx:=hm _ _ _ le h
   unfold Ze1;rw[hx]
   by_cases hi:i < xs.length
   ·have:xs[i]?=some xs[i]:=List.getElem?_eq_getElem hi
    simp only[this];have s:=st i ρ M hi h
    cases e:tg xs[i] ρ with
    |none=>rw[e] at s;exact s.elim
    |some ρ1=>
     rw[e] at s;simp only[wG] at s;have rc: ∀ ρ2 M2,I (i + 1) ρ2 M2->wS (Ze1 tg bd src f (i + 1) ρ2 M2) N R B C E:=fun ρ2 M2 h2=>ih (i + 1) ρ2 M2 (by omega) (by omega) h2 hm st hn
     cases eg:bd ρ1 M<;>rw[eg] at s<;>simp only[eg]
     ·exact rc _ _ s
     ·exact s
     ·exact s
     ·exact rc _ _ s
     ·exact s
     ·exact s
   ·have:xs[i]?=none:=List.getElem?_eq_none (by omega)
    simp only[this];exact hn ρ M (by rw[show xs.length=i by omega];exact h)
theorem ZlO {fi:Ro->Sto->Out Src}{k:Nat}{fr:List Nat}{c:Tv}:wO (ZaQ fi k fr tg c f ρ M) Q E=wO (fi ρ M) (fun src M1=>wO (Zcp src tg c f M1.length (cnt src M1) 0 (roB k fr ρ) (M1 ++ [.lst []])) (fun _ M2=>Q (.ref M1.length) M2) (fun _ _=>False)) E:=by
 unfold ZaQ;rw[ZE]
 congr 1
 funext src M1
 cases Zcp src tg c f M1.length (cnt src M1) 0 (roB k fr ρ) (M1 ++ [.lst []])<;>rfl
theorem ZeB (I:Nat->Ro->Sto->Prop){src:Src}{xs:List D}{c:Tv}{m:Nat}{Q:Sto->Prop}: ∀ (fu i:Nat) (ρ:Ro) (M:Sto),i<=xs.length->xs.length<=i + fu->I i ρ M->(∀ i ρ M,i<=xs.length->I i ρ M->nxt src i M=some xs[i]?)->
  (∀ i ρ M (h:i < xs.length),I i ρ M->wG (tg xs[i] ρ) fun r=>wO (c r M) (fun k M1=>Br k (wO (f r M1) (fun y M2=>wL M2[m]? fun ys=>ys.length < 10000000/\I (i + 1) r (M2.set m (.lst (ys ++ [y])))) (fun _ _=>False)) (I (i + 1) r M1)) (fun _ _=>False))->
  (∀ ρ M,I xs.length ρ M->Q M)->wO (Zcp src tg c f m fu i ρ M) (fun _ M2=>Q M2) (fun _ _=>False):=by
  intro fu
  induction fu with
  |zero=>
   intro i ρ M le e h hm st hn;have hx:=hm _ _ _ le h
   unfold Zcp;rw[hx];have hi: ¬ i < xs.length:=by omega
   have:xs[i]?=none:=List.getElem?_eq_none (by omega)
   simp only[this];exact hn ρ M (by rw[show xs.length=i by omega];exact h)
  |succ fu ih=>
   intro i ρ M le e h hm st hn;have hx:=hm _ _ _ le h
   unfold Zcp;rw[hx]
   by_cases hi:i < xs.length
   ·have:xs[i]?=some xs[i]:=List.getElem?_eq_getElem hi
    simp only[this];have s:=st i ρ M hi h
    cases e:tg xs[i] ρ with
    |none=>rw[e] at s;exact s.elim
    |some ρ1=>
     rw[e] at s;simp only[wG] at s;have rc: ∀ ρ2 M2,I (i + 1) ρ2 M2->wO (Zcp src tg c f m fu (i + 1) ρ2 M2) (fun _ M2=>Q M2) (fun _ _=>False):=fun ρ2 M2 h2=>ih (i + 1) ρ2 M2 (by omega) (by omega) h2 hm st hn
     cases ec:c ρ1 M with
     |bad=>rw[ec] at s;exact s.elim
     |exc _ _=>rw[ec] at s;exact s.elim
     |ok k M1=>
      rw[ec] at s;rw[Zj] at s;cases k with
      |false=>
       rw[Ztz] at s;simp only[ec];exact rc _ _ s
      |true=>
       rw[Zr4] at s;simp only[ec];cases ef:f ρ1 M1 with
       |bad=>rw[ef] at s;exact s.elim
       |exc _ _=>rw[ef] at s;exact s.elim
       |ok y M2=>
        rw[ef,Zj] at s;simp only[ef];cases ey:M2[m]? with
        |none=>rw[ey] at s;exact s.elim
        |some o=>
         cases o with
         |lst ys=>
          rw[ey] at s;simp only[wL,ey] at s ⊢;rw[if_pos s.1];exact rc _ _ s.2
   ·have:xs[i]?=none:=List.getElem?_eq_none (by omega)
    simp only[this];exact hn ρ M (by rw[show xs.length=i by omega];exact h)
end
end DL
end
section
namespace DL
open PySem PySem.Spec PyProof.Rows L2
section
variable {Q:D->Sto->Prop}{E:Str->Sto->Prop}{N B C:Ro->Sto->Prop}{R:D->Sto->Prop}{ρ:Ro}{M:Sto}{f:Ev}{fs:Av}{i j:Int}{n m k:Nat}{x y d:D}{xs ys ds:List D}{lo hi:Ro->Sto->Out (Option Int)}
theorem ZeC (h: -(18446744073709551616) < i/\i < 18446744073709551616):Z4 i j:=Zil h.1 h.2
theorem ZdP (h: -(18446744073709551616) < j/\j < 18446744073709551616):Z4 i j:=Zik h.1 h.2
theorem ZeD (h:0 < j/\j < 18446744073709551616):Zbt j:=by
 refine ⟨by omega,?_⟩
 have:j.natAbs.log2 < 64:=(Nat.log2_lt (by omega)).mpr (by omega)
 omega
theorem Zqp:wO (dAdd (.int i) (.int j) M) Q E=Q (.int (i + j)) M:=rfl
theorem Zqq:wO (dSub (.int i) (.int j) M) Q E=Q (.int (i - j)) M:=rfl
theorem ZfY (h:Z4 i j):wO (dMul (.int i) (.int j) M) Q E=Q (.int (i * j)) M:=by
 show wO (if Z4 i j then _ else _) Q E=_
 rw[if_pos h];rfl
theorem Zqr (h: -(18446744073709551616) < i/\i < 18446744073709551616):wO (dMul (.int i) (.int j) M) Q E=Q (.int (i * j)) M:=ZfY (ZeC h)
theorem Zn8 (h: -(18446744073709551616) < j/\j < 18446744073709551616):wO (dMul (.int i) (.int j) M) Q E=Q (.int (i * j)) M:=ZfY (ZdP h)
theorem Zqs (h:0 < j/\j < 18446744073709551616):wO (dDiv (.int i) (.int j) M) Q E=Q (.int (i / j)) M:=by
 show wO (if Zbt j then _ else _) Q E=_
 rw[if_pos (ZeD h),Int.fdiv_eq_ediv_of_nonneg _ (by omega)];rfl
theorem Zqt (h:0 < j):wO (dMod (.int i) (.int j) M) Q E=Q (.int (i % j)) M:=by
 show wO (if j≠0 then _ else _) Q E=_
 rw[if_pos (by omega),Int.fmod_eq_emod_of_nonneg _ (by omega)];rfl
theorem Zqu (h:0<=j/\j<=1000000/\i.natAbs < 18446744073709551616):wO (dPow (.int i) (.int j) M) Q E=Q (.int (i ^ j.toNat)) M:=by
 show wO (if 0<=j/\j<=1000000/\i.natAbs < 2 ^ 64 then _ else _) Q E=_
 rw[if_pos ⟨h.1,h.2.1,by omega⟩];rfl
theorem ZtB:wO (dLt (.int i) (.int j) M) Q E=Q (.bl (decide (i < j))) M:=rfl
theorem ZtC:wO (dLe (.int i) (.int j) M) Q E=Q (.bl (decide (i<=j))) M:=rfl
theorem ZtD:wO (dGt (.int i) (.int j) M) Q E=Q (.bl (decide (j < i))) M:=rfl
theorem ZtE:wO (dGe (.int i) (.int j) M) Q E=Q (.bl (decide (j<=i))) M:=rfl
theorem Zqv:wO (dAdd (.ref n) (.ref m) M) Q E=wL M[n]? fun xs=>wL M[m]? fun ys=>xs.length + ys.length<=10000000/\Q (.ref M.length) (M ++ [.lst (xs ++ ys)]):=by
 show wO (match M[n]?,M[m]? with | some (.lst xs),some (.lst ys)=>_ | _,_=>_) Q E=_
 cases e1:M[n]? with
 |none=>rfl
 |some o=>
  cases o with
  |lst xs=>
   cases e2:M[m]? with
   |none=>rfl
   |some p=>
    cases p with
    |lst ys=>
     by_cases h:xs.length + ys.length<=10000000
     ·simp[wL,h,wO]
     ·simp[wL,h,wO]
theorem Zn9 (h:xs.length + ys.length<=100000/\xs≠[]):wO (dAdd (.tup xs) (.tup ys) M) Q E=Q (.tup (xs ++ ys)) M:=by
 show wO (if xs.length + ys.length<=100000/\xs≠[] then _ else _) Q E=_
 rw[if_pos h];rfl
theorem ZtF:wO (dEq x y M) Q E=wG (eqF 12 M x y) fun b=>Q (.bl b) M:=by
 show wO (match eqF 12 M x y with | some b=>_ | none=>_) Q E=_
 cases eqF 12 M x y<;>rfl
theorem ZtG:wO (dNe x y M) Q E=wG (eqF 12 M x y) fun b=>Q (.bl (!b)) M:=by
 show wO (match eqF 12 M x y with | some b=>_ | none=>_) Q E=_
 cases eqF 12 M x y<;>rfl
theorem ZtH:wO (dIs x y M) Q E=wG (isP x y) fun b=>Q (.bl b) M:=by
 show wO (match isP x y with | some b=>_ | none=>_) Q E=_
 cases isP x y<;>rfl
theorem Zqw:wO (dIsNot x y M) Q E=wG (isP x y) fun b=>Q (.bl (!b)) M:=by
 show wO (match isP x y with | some b=>_ | none=>_) Q E=_
 cases isP x y<;>rfl
theorem ZlP:wO (atD xs i M) Q E=wG (atI xs i) fun d=>Q d M:=by
 unfold atD;cases atI xs i<;>rfl
theorem Zqx:wO (dIx (.tup xs) (.int i) M) Q E=wG (atI xs i) fun d=>Q d M:=ZlP
theorem Zqy:wO (dIx (.rol xs) (.int i) M) Q E=wG (atI xs i) fun d=>Q d M:=ZlP
theorem Zqz:wO (dIx (.ref n) (.int i) M) Q E=wL M[n]? fun xs=>wG (atI xs i) fun d=>Q d M:=by
 show wO (match M[n]? with | some (.lst xs)=>atD xs i M | _=> .bad) Q E=_
 cases e1:M[n]? with
 |none=>rfl
 |some o=>cases o with | lst xs=>exact ZlP
theorem Zoa:wO (bLen [.ref n] M) Q E=wL M[n]? fun xs=>Q (.int xs.length) M:=by
 show wO (match (match M[n]? with | some (.lst xs)=>some xs | _=>none) with | some xs=>_ | none=>_) Q E=_
 cases e1:M[n]? with
 |none=>rfl
 |some o=>cases o with | lst xs=>rfl
theorem Zob:wO (bLen [.tup xs] M) Q E=Q (.int xs.length) M:=rfl
theorem Zoc:wO (bLen [.rol xs] M) Q E=Q (.int xs.length) M:=rfl
theorem ZqA:wO (bAbs [.int i] M) Q E=Q (.int (i.natAbs:Int)) M:=by rw[<- Zim];rfl
theorem ZqB:wO (bMax [.int i,.int j] M) Q E=Q (.int (max i j)) M:=by
 have:max i j=if j > i then j else i:=by split<;>omega
 rw[this];rfl
theorem ZqC:wO (bMin [.int i,.int j] M) Q E=Q (.int (min i j)) M:=by
 have:min i j=if j < i then j else i:=by split<;>omega
 rw[this];rfl
theorem Zod {k:Bool}:wO (bInt [.bl k] M) Q E=Q (.int (if k then 1 else 0)) M:=rfl
theorem Zoe:wO (bInt [.int i] M) Q E=Q (.int i) M:=rfl
theorem ZlQ:wO (bList [.ref n] M) Q E=wL M[n]? fun xs=>Q (.ref M.length) (M ++ [.lst xs]):=by
 show wO (match (match M[n]? with | some (.lst xs)=>some xs | _=>none) with | some xs=>_ | none=>_) Q E=_
 cases e1:M[n]? with
 |none=>rfl
 |some o=>cases o with | lst xs=>rfl
theorem ZlR:wO (bList [.tup xs] M) Q E=Q (.ref M.length) (M ++ [.lst xs]):=rfl
theorem ZqD:wO (ZrY [.ref n] M) Q E=wL M[n]? fun xs=>wG (Zcq xs) fun bs=>Q (.bl (bs.all id)) M:=by
 show wO (match M[n]? with | some (.lst xs)=>(match Zcq xs with | some bs=>Out.ok (.bl (bs.all id)) M | none=> .bad) | none=> .bad) Q E=_
 cases e1:M[n]? with
 |none=>rfl
 |some o=>
  cases o with
  |lst xs=>
   show wO (match Zcq xs with | some bs=>Out.ok (.bl (bs.all id)) M | none=> .bad) Q E=wG (Zcq xs) _
   cases Zcq xs<;>rfl
theorem Zof {g:List Int->Option Int}:wO (Zgr g [.ref n] M) Q E=wL M[n]? fun xs=>wG (ZbI xs) fun ns=>wG (g ns) fun i=>Q (.int i) M:=by
 show wO (match (match M[n]? with | some (.lst xs)=>some xs | _=>none) with | some xs=>(match ZbI xs with | some ns=>(match g ns with | some i=>Out.ok (.int i) M | none=> .bad) | none=> .bad) | none=> .bad) Q E=_
 cases e1:M[n]? with
 |none=>rfl
 |some o=>
  cases o with
  |lst xs=>
   show wO (match ZbI xs with | some ns=>(match g ns with | some i=>Out.ok (.int i) M | none=> .bad) | none=> .bad) Q E=wG (ZbI xs) _
   cases ZbI xs with
   |none=>rfl
   |some ns=>
    show wO (match g ns with | some i=>Out.ok (.int i) M | none=> .bad) Q E=wG (g ns) _
    cases g ns<;>rfl
theorem ZtI {g:Me}{fo:Ev}:wO (ZhI g fo fs ρ M) Q E=wO (fo ρ M) (fun x M1=>Zlp x M1=true/\wO (fs ρ M1) (fun ds M2=>wO (g x ds M2) Q E) E) E:=by
 unfold ZhI;rw[ZE]
 congr 1
 funext x M1
 by_cases h:Zlp x M1=true
 ·simp only[h,if_true,true_and];rw[ZE]
 ·simp[h,wO]
theorem Zog:Zlp (.ref n) M=M[n]?.isSome:=rfl
theorem ZqE:wO (mApp (.ref n) [d] M) Q E=wL M[n]? fun xs=>xs.length < 10000000/\Q .non (M.set n (.lst (xs ++ [d]))):=by
 show wO (match M[n]? with | some (.lst xs)=>if xs.length < 10000000 then _ else _ | none=>_) Q E=_
 cases e1:M[n]? with
 |none=>rfl
 |some o=>
  cases o with
  |lst xs=>
   by_cases h:xs.length < 10000000
   ·simp[wL,h,wO]
   ·simp[wL,h,wO]
theorem ZqF:wO (Zr1 (.ref n) [] M) Q E=wL M[n]? fun xs=>Q .non (M.set n (.lst [])):=by
 show wO (match M[n]? with | some (.lst xs)=>_ | none=>_) Q E=_
 cases e1:M[n]? with
 |none=>rfl
 |some o=>cases o with | lst xs=>rfl
theorem ZqG:wO (Zr2 (.ref n) [.ref m] M) Q E=wL M[n]? fun xs=>wL M[m]? fun ys=>xs.length + ys.length<=10000000/\Q .non (M.set n (.lst (xs ++ ys))):=by
 show wO (match M[n]?,M[m]? with | some (.lst xs),some (.lst ys)=>if xs.length + ys.length<=10000000 then _ else _ | _,_=>_) Q E=_
 cases e1:M[n]? with
 |none=>rfl
 |some o=>
  cases o with
  |lst xs=>
   cases e2:M[m]? with
   |none=>rfl
   |some p=>
    cases p with
    |lst ys=>
     by_cases h:xs.length + ys.length<=10000000
     ·simp[wL,h,wO]
     ·simp[wL,h,wO]
noncomputable def slR (x:D)(l u:Option Int)(M3:Sto):Out D:=match x with
 | .ref n=>(match M3[n]? with | some (.lst xs)=> .ok (.ref M3.length) (M3 ++ [.lst (Zeq xs l u)]) | none=> .bad)
 | .rol xs=> .ok (.ref M3.length) (M3 ++ [.lst (Zeq xs l u)])
 | .tup xs=>if HT.sIx xs.length 0 l=0/\HT.sIx xs.length xs.length u=xs.length then .bad else .ok (.tup (Zeq xs l u)) M3
 |_=> .bad
theorem ZqH:wO (eSl f lo hi ρ M) Q E=wO (f ρ M) (fun x M1=>wO (lo ρ M1) (fun l M2=>wO (hi ρ M2) (fun u M3=>wO (slR x l u M3) Q E) E) E) E:=by
 unfold eSl;rw[ZE]
 congr 1
 funext x M1
 rw[ZE]
 congr 1
 funext l M2
 rw[ZE]
 congr 1
theorem ZqI {l u:Option Int}:wO (slR (.ref n) l u M) Q E=wL M[n]? fun xs=>Q (.ref M.length) (M ++ [.lst (Zeq xs l u)]):=by
 unfold slR;cases e1:M[n]? with
 |none=>simp only[e1];rfl
 |some o=>cases o with | lst xs=>simp only[e1];rfl
theorem ZqJ {Q:Option Int->Sto->Prop}:wO (oSo f ρ M) Q E=wO (f ρ M) (fun x M1=>wI x fun i=>Q (some i) M1) E:=by
 unfold oSo;rw[ZE]
 congr 1
 funext x M1
 cases x<;>rfl
theorem Zoh (h:0<=i):Zeq xs none (some i)=xs.take i.toNat:=by
 unfold Zeq;simp only[HT.sIx];rw[if_neg (by omega),List.drop_zero,Nat.sub_zero]
 by_cases c:i.toNat<=xs.length
 ·rw[Nat.min_eq_left c]
 ·rw[Nat.min_eq_right (by omega),List.take_of_length_le (Nat.le_refl _),List.take_of_length_le (by omega)]
theorem ZjG (h:0<=i):Zeq xs (some i) none=xs.drop i.toNat:=by
 unfold Zeq;simp only[HT.sIx];rw[if_neg (by omega)]
 by_cases c:i.toNat<=xs.length
 ·rw[Nat.min_eq_left c,List.take_of_length_le (by simp)]
 ·rw[Nat.min_eq_right (by omega),List.drop_eq_nil_of_le (Nat.le_refl _),List.drop_eq_nil_of_le (by omega),List.take_nil]
theorem Zgy {L:Sto}:(M ++ L)[M.length]?=L[0]?:=by rw[List.getElem?_append_right (Nat.le_refl _),Nat.sub_self]
theorem ZeE {L:Sto}{i:Nat}:(M ++ L)[M.length + i]?=L[i]?:=by rw[List.getElem?_append_right (by omega)];congr 1;omega
theorem ZbQ {L:Sto}(h:n < M.length):(M ++ L)[n]?=M[n]?:=List.getElem?_append_left h
theorem ZkA {L:Sto}{o:SO}:(M ++ L).set M.length o=M ++ L.set 0 o:=by rw[List.set_append_right _ _ (Nat.le_refl _),Nat.sub_self]
theorem ZqK {L:Sto}{o:SO}{i:Nat}:(M ++ L).set (M.length + i) o=M ++ L.set i o:=by rw[List.set_append_right _ _ (by omega)];congr 2;omega
theorem Zoi {o:SO}(h:k≠n):(M.set n o)[k]?=M[k]?:=List.getElem?_set_ne (Ne.symm h)
theorem Zoj {o:SO}(h:n < M.length):(M.set n o)[n]?=some o:=List.getElem?_set_self h
theorem ZJ {o:SO}(h:M[n]?=some o):n < M.length:=(List.getElem?_eq_some_iff.mp h).1
noncomputable abbrev pr (x y:Int):D:= .tup [.int x,.int y]
noncomputable def prs (rs:List (Int × Int)):List D:=rs.map fun p=>pr p.1 p.2
noncomputable def nts (ns:List Int):List D:=ns.map D.int
theorem ZB {rs:List (Int × Int)}:(prs rs).length=rs.length:=List.length_map _
theorem Zip {rs:List Int}:(nts rs).length=rs.length:=List.length_map _
theorem ZdQ {a b:List (Int × Int)}:prs a ++ prs b=prs (a ++ b):=(List.map_append).symm
theorem Ze6 {a b:List Int}:nts a ++ nts b=nts (a ++ b):=(List.map_append).symm
theorem ZdR {a:List (Int × Int)}:(prs a).take n=prs (a.take n):=List.map_take.symm
theorem ZdS {a:List (Int × Int)}:(prs a).drop n=prs (a.drop n):=List.map_drop.symm
theorem ZjH {a:List Int}:(nts a).take n=nts (a.take n):=List.map_take.symm
theorem ZjI {a:List Int}:(nts a).drop n=nts (a.drop n):=List.map_drop.symm
theorem ZjJ {a b:Int}{r:List (Int × Int)}:pr a b :: prs r=prs ((a,b) :: r):=rfl
theorem ZlS {a:List (Int × Int)}{b c:Int}:(prs a).set n (pr b c)=prs (a.set n (b,c)):=by unfold prs;rw[List.map_set]
theorem ZlT {a:List Int}{b:Int}:(nts a).set n (.int b)=nts (a.set n b):=by unfold nts;rw[List.map_set]
noncomputable def cy (rs:List (Int × Int))(i:Int):Int × Int:=rs.getD (i % rs.length).toNat (0,0)
noncomputable def cn (rs:List Int)(i:Int):Int:=rs.getD (i % rs.length).toNat 0
theorem Ziq {i:Int}{n:Nat}(h: -(n:Int)<=i/\i < n):ixN n i=some (i % n).toNat:=by
 unfold ixN
 by_cases c:0<=i
 ·rw[if_pos c,if_pos h.2,Int.emod_eq_of_lt c h.2]
 ·rw[if_neg c,if_pos h.1]
  have:i % n=i + n:=by
   rw[<- Int.add_emod_right,Int.emod_eq_of_lt (by omega) (by omega)]
  rw[this]
theorem ZbO {rs:List (Int × Int)}(h: -(rs.length:Int)<=i/\i < rs.length):atI (prs rs) i=some (pr (cy rs i).1 (cy rs i).2):=by
 unfold atI;rw[ZB,Ziq h];have hp:(i % rs.length).toNat < rs.length:=by
  have:=Int.emod_lt_of_pos i (show (0:Int) < rs.length by omega)
  have:=Int.emod_nonneg i (show (rs.length:Int)≠0 by omega)
  omega
 simp[prs,cy,List.getElem?_eq_getElem hp]
theorem ZfZ {rs:List Int}(h: -(rs.length:Int)<=i/\i < rs.length):atI (nts rs) i=some (.int (cn rs i)):=by
 unfold atI;rw[Zip,Ziq h];have hp:(i % rs.length).toNat < rs.length:=by
  have:=Int.emod_lt_of_pos i (show (0:Int) < rs.length by omega)
  have:=Int.emod_nonneg i (show (rs.length:Int)≠0 by omega)
  omega
 simp[nts,cn,List.getElem?_eq_getElem hp]
theorem Zcs {rs:List (Int × Int)}:cy rs (i % rs.length)=cy rs i:=by unfold cy;rw[Int.emod_emod_of_dvd _ (Int.dvd_refl _)]
theorem Zct {rs:List (Int × Int)}:cy rs (i + rs.length)=cy rs i:=by unfold cy;rw[Int.add_emod_right]
theorem Zdo {rs:List (Int × Int)}:cy rs (i - rs.length)=cy rs i:=by unfold cy;rw[Int.sub_emod_right]
theorem Zcu {rs:List (Int × Int)}{k:Nat}(h:k < rs.length):cy rs k=rs[k]:=by
 unfold cy;rw[Int.emod_eq_of_lt (by omega) (by omega)]
 simp[List.getElem?_eq_getElem h]
theorem Zf0 {rs:List Int}{k:Nat}(h:k < rs.length):cn rs k=rs[k]:=by
 unfold cn;rw[Int.emod_eq_of_lt (by omega) (by omega)]
 simp[List.getElem?_eq_getElem h]
theorem ZqL {a b:Int}:eqF (n + 1) M (.int a) (.int b)=some (decide (a=b)):=rfl
theorem ZtJ {a b:Bool}:eqF (n + 1) M (.bl a) (.bl b)=some (a == b):=rfl
theorem ZqM {a b c d:Int}:eqF (n + 2) M (pr a b) (pr c d)=some (decide ((a,b)=(c,d))):=by
 show some ((a == c) && ((b == d) && true))=_
 congr 1
 rw[Bool.eq_iff_iff]
 simp
theorem Zok {rs ss:List (Int × Int)}:eqL (eqF (n + 2) M) (prs rs) (prs ss)=some (decide (rs=ss)):=by
 induction rs generalizing ss with
 |nil=>cases ss<;>rfl
 |cons r rs ih=>
  cases ss with
  |nil=>rfl
  |cons s ss=>
   show (match eqF (n + 2) M (pr r.1 r.2) (pr s.1 s.2) with | some a=>(match eqL _ (prs rs) (prs ss) with | some b=>some (a && b) | none=>none) | none=>none)=_
   rw[ZqM,ih];simp only[]
   congr 1
   rw[Bool.eq_iff_iff];obtain ⟨r1,r2⟩:=r
   obtain ⟨s1,s2⟩:=s
   simp
theorem Zol {xs ys:List D}(h1:M[n]?=some (.lst xs))(h2:M[m]?=some (.lst ys)):eqF (k + 1) M (.ref n) (.ref m)=if xs.length=ys.length then eqL (eqF k M) xs ys else some false:=by
 show (match kd M (.ref n),kd M (.ref m) with | some a,some b=>eqK (eqF k M) a b | _,_=>none)=_
 have e1:kd M (.ref n)=some (.lst xs):=by show (match M[n]? with | some (.lst xs)=>some (Kd.lst xs) | _=>none)=_;rw[h1]
 have e2:kd M (.ref m)=some (.lst ys):=by show (match M[m]? with | some (.lst xs)=>some (Kd.lst xs) | _=>none)=_;rw[h2]
 rw[e1,e2];rfl
theorem Zom:ZaA M (.int i)=some "int":=rfl
theorem ZqN {b:Bool}:ZaA M (.bl b)=some "bool":=rfl
theorem Zon:ZaA M (.tup xs)=some "tuple":=rfl
theorem Zoo:ZaA M .non=some "NoneType":=rfl
theorem Zbo (h:M[n]?=some (.lst xs)):ZaA M (.ref n)=some "list":=by
 show (match (match M[n]? with | some (.lst xs)=>some (Kd.lst xs) | _=>none) with | some .non=>_ | some (.bl _)=>_ | some (.int _)=>_ | some (.str _)=>_ | some (.tup _)=>_ | some (.lst _)=>_ | none=>_)=_
 rw[h]
end
end DL
end
section
namespace DL
open PySem PySem.Spec PyProof.Rows L2
section
variable {Q:D->Sto->Prop}{E:Str->Sto->Prop}{N B C:Ro->Sto->Prop}{R:D->Sto->Prop}{ρ:Ro}{M:Sto}{f:Ev}{fs:Av}{i j:Int}{n m k:Nat}{x y z d:D}{xs ys ds:List D}{QS:Src->Sto->Prop}{tg:Tg}{bd:Sv}{b:Bool}
theorem ZlU:wS (Zhz tg fs bd ρ M) N R B C E=wO (fs ρ M) (fun ds M1=>w2 ds fun x y=>wI x fun i=>wI y fun j=>(-(2 ^ 62)<=i/\i < 2 ^ 62/\ -(2 ^ 62)<=j/\j < 2 ^ 62)/\wS (ZbH tg bd (Zbq i (j - i).toNat) ρ M1) N R B C E) E:=by
 unfold Zhz;rw[Z6]
 congr 1
 funext ds M1
 rcases ds with _ | ⟨v,_ | ⟨w,_ | ⟨w',r⟩⟩⟩
 ·rfl
 ·cases v<;>rfl
 ·cases v<;>try rfl
  cases w<;>try rfl
  rename_i i j
  by_cases h: -(2 ^ 62)<=i/\i < 2 ^ 62/\ -(2 ^ 62)<=j/\j < 2 ^ 62
  ·simp only[w2,wI,eq_true h,true_and,if_true]
  ·simp only[w2,wI,eq_false h,false_and,if_false]
   rfl
 ·cases v<;>cases w<;>rfl
theorem ZtK:wO (iR1 fs ρ M) QS E=wO (fs ρ M) (fun ds M1=>w1 ds fun d=>wI d fun j=>(-(2 ^ 62)<=j/\j < 2 ^ 62)/\QS (.pur (Zbq 0 j.toNat)) M1) E:=by
 unfold iR1;rw[ZE]
 congr 1
 funext ds M1
 rcases ds with _ | ⟨v,_ | ⟨w,r⟩⟩
 ·rfl
 ·cases v<;>try rfl
  rename_i j
  by_cases h: -(2 ^ 62)<=j/\j < 2 ^ 62
  ·simp only[w1,wI,eq_true h,true_and,if_true,Zj]
  ·simp only[w1,wI,eq_false h,false_and,if_false]
   rfl
 ·cases v<;>rfl
theorem ZtL:wO (iR2 fs ρ M) QS E=wO (fs ρ M) (fun ds M1=>w2 ds fun x y=>wI x fun i=>wI y fun j=>(-(2 ^ 62)<=i/\i < 2 ^ 62/\ -(2 ^ 62)<=j/\j < 2 ^ 62)/\QS (.pur (Zbq i (j - i).toNat)) M1) E:=by
 unfold iR2;rw[ZE]
 congr 1
 funext ds M1
 rcases ds with _ | ⟨v,_ | ⟨w,_ | ⟨w',r⟩⟩⟩
 ·rfl
 ·cases v<;>rfl
 ·cases v<;>try rfl
  cases w<;>try rfl
  rename_i i j
  by_cases h: -(2 ^ 62)<=i/\i < 2 ^ 62/\ -(2 ^ 62)<=j/\j < 2 ^ 62
  ·simp only[w2,wI,eq_true h,true_and,if_true,Zj]
  ·simp only[w2,wI,eq_false h,false_and,if_false]
   rfl
 ·cases v<;>cases w<;>rfl
theorem ZtM:wO (iEn fs ρ M) QS E=wO (fs ρ M) (fun ds M1=>w1 ds fun d=>wR d fun n=>QS (.enu n) M1) E:=by
 unfold iEn;rw[ZE]
 congr 1
 funext ds M1
 rcases ds with _ | ⟨v,_ | ⟨w,r⟩⟩<;>try rfl
 ·cases v<;>rfl
 ·cases v<;>rfl
theorem ZtN:wO (iZp fs ρ M) QS E=wO (fs ρ M) (fun ds M1=>w2 ds fun x y=>wR x fun n=>wR y fun m=>QS (.zip n m) M1) E:=by
 unfold iZp;rw[ZE]
 congr 1
 funext ds M1
 rcases ds with _ | ⟨v,_ | ⟨w,_ | ⟨w',r⟩⟩⟩<;>try rfl
 ·cases v<;>rfl
 ·cases v<;>cases w<;>rfl
 ·cases v<;>cases w<;>rfl
theorem ZtO:wO (iRv fs ρ M) QS E=wO (fs ρ M) (fun ds M1=>w1 ds fun d=>wR d fun n=>wL M1[n]? fun xs=>QS (.rev n xs.length) M1) E:=by
 unfold iRv;rw[ZE]
 congr 1
 funext ds M1
 rcases ds with _ | ⟨v,_ | ⟨w,r⟩⟩<;>try rfl
 ·cases v<;>try rfl
  rename_i n;cases e:M1[n]? with
  |none=>simp only[e];simp only[w1,wR,e];rfl
  |some o=>cases o with | lst xs=>simp only[e,w1,wR];rfl
 ·cases v<;>rfl
noncomputable def Zmp (Q:D->Sto->Prop)(ρ:Ro)(M:Sto):Prop:=Q .non M
theorem wF1:wO (fnF bd 1 k [x] M) Q E=wS (bd (some x :: List.replicate k none) M) (Zmp Q) Q (fun _ _=>False) (fun _ _=>False) E:=wF rfl
theorem wF2:wO (fnF bd 2 k [x,y] M) Q E=wS (bd (some x :: some y :: List.replicate k none) M) (Zmp Q) Q (fun _ _=>False) (fun _ _=>False) E:=wF rfl
theorem wF3:wO (fnF bd 3 k [x,y,z] M) Q E=wS (bd (some x :: some y :: some z :: List.replicate k none) M) (Zmp Q) Q (fun _ _=>False) (fun _ _=>False) E:=wF rfl
theorem wF4:wO (fnF bd 4 k [x,y,z,d] M) Q E=wS (bd (some x :: some y :: some z :: some d :: List.replicate k none) M) (Zmp Q) Q (fun _ _=>False) (fun _ _=>False) E:=wF rfl
theorem ZdT {a:List (Int × Int)}{b c:Int}:prs a ++ [pr b c]=prs (a ++ [(b,c)]):=by simp[prs]
theorem ZjK {a:List Int}{b:Int}:nts a ++ [D.int b]=nts (a ++ [b]):=by simp[nts]
theorem ZjL {b:Int}{r:List Int}:D.int b :: nts r=nts (b :: r):=rfl
theorem ZqO:isP .non .non=some true:=rfl
theorem ZqP:isP (.int i) .non=some false:=rfl
theorem ZqQ:isP (.tup xs) .non=some false:=rfl
theorem ZqR:isP (.ref n) .non=some false:=rfl
theorem Ze7 (h:M[n]?=some (.lst xs)):cnt (.sto n) M=xs.length:=by show (match M[n]? with | some (.lst xs)=>xs.length | none=>0)=_;rw[h]
theorem Ze8 (h:M[n]?=some (.lst xs)):cnt (.enu n) M=xs.length:=by show (match M[n]? with | some (.lst xs)=>xs.length | none=>0)=_;rw[h]
theorem at2 {r:List D}:atI (x :: y :: z :: r) 2=some z:=by
 show (ixN (r.length + 3) 2).bind _=_
 unfold ixN;rw[if_pos (by decide),if_pos (by omega)]
 rfl
theorem at3 {r:List D}:atI (x :: y :: z :: d :: r) 3=some d:=by
 show (ixN (r.length + 4) 3).bind _=_
 unfold ixN;rw[if_pos (by decide),if_pos (by omega)]
 rfl
theorem Zop:Zco "int" "int"=true:=rfl
theorem Zoq:Zco "int" "bool"=false:=rfl
theorem Zor:Zco "bool" "int"=true:=rfl
theorem Zos:Zco "bool" "bool"=true:=rfl
theorem Zot:Zco "tuple" "tuple"=true:=rfl
theorem Zou:Zco "list" "list"=true:=rfl
theorem Zov:Zco "tuple" "int"=false:=rfl
theorem Zow:Zco "tuple" "list"=false:=rfl
theorem Zox:Zco "list" "tuple"=false:=rfl
theorem Zoy:Zco "list" "int"=false:=rfl
theorem Zoz:Zco "NoneType" "tuple"=false:=rfl
theorem ZoA:Zco "NoneType" "list"=false:=rfl
theorem Zir (h:M[n]?=some (.lst xs)):nxt (.enu n) k M=some ((xs[k]?).map fun d=>D.tup [.int k,d]):=by
 show (match M[n]? with | some (.lst xs)=>(match xs[k]? with | some x=>some (some (D.tup [.int k,x])) | none=>some none) | none=>none)=_
 rw[h];simp only[];cases xs[k]?<;>rfl
theorem Zis (h:M[n]?=some (.lst xs)):nxt (.sto n) k M=some xs[k]?:=by
 show (match M[n]? with | some (.lst xs)=>some xs[k]? | none=>none)=_
 rw[h]
section
variable {g:Jv}{bb:Nat}
theorem ZoB (h:bb<=100000): ∀ acc:Str,acc.length<=bb->wO (jNil acc ρ M) (fun _ M'=>M'=M) E:=by
 intro acc ha;unfold jNil;rw[if_pos (by omega)]
 exact rfl
theorem ZtP {a:Str}(hl:a.length<=1000)(hb:bb + 1000<=100000)(h: ∀ acc:Str,acc.length<=bb + 1000->wO (g acc ρ M) (fun _ M'=>M'=M) E): ∀ acc:Str,acc.length<=bb->wO (ZbY (eC (.str a)) g acc ρ M) (fun _ M'=>M'=M) E:=by
 intro acc ha;have e:(acc ++ a).length<=bb + 1000:=by rw[strLen_append];omega
 show wO (if (acc ++ a).length<=100000 then g (acc ++ a) ρ M else .bad) _ _
 rw[if_pos (by omega)]
 exact h _ e
theorem ZtQ {f:Ev}{i:Int}(hf:f ρ M= .ok (.int i) M)(hi: -(18446744073709551616) < i/\i < 18446744073709551616)(hb:bb + 100<=100000)(h: ∀ acc:Str,acc.length<=bb + 100->wO (g acc ρ M) (fun _ M'=>M'=M) E): ∀ acc:Str,acc.length<=bb->wO (ZbY (eFm f) g acc ρ M) (fun _ M'=>M'=M) E:=by
 intro acc ha;have l:i.natAbs.log2 < 65:=by
  by_cases z:i.natAbs=0
  ·rw[z];decide
  ·exact (Nat.log2_lt z).mpr (by omega)
 have tl:(Str.ofString (toString i)).length<=66:=by rw[PySem.ofString_length];exact int_text_length_le (by decide) l
 have e:(acc ++ Str.ofString (toString i)).length<=bb + 100:=by rw[strLen_append];omega
 unfold ZbY eFm;rw[hf];simp only[Out.bind];rw[if_pos (by omega)]
 simp only[];rw[if_pos (by omega)]
 exact h _ e
theorem ZtR (h: ∀ acc:Str,acc.length<=0->wO (g acc ρ M) (fun _ M'=>M'=M) E)(q: ∀ x,Q (.str x) M):wO (eFs g ρ M) Q E:=by
 unfold eFs;rw[ZE];refine ZaV (h _ (by decide)) (fun x M' e=> ?_) (fun _ _ z=>z)
 subst e;exact q x
end
theorem ZeF (I:Nat->Ro->Sto->Prop)(hM:M[n]?=some (.lst xs))(h0:I 0 ρ M)(hm: ∀ i ρ M,I i ρ M->M[n]?=some (.lst xs))(st: ∀ (i:Nat) ρ M (h:i < xs.length),I i ρ M->wG (tg (.tup [.int i,xs[i]]) ρ) fun r=>wS (bd r M) (I (i + 1)) R N (I (i + 1)) E)(hn: ∀ ρ M,I xs.length ρ M->N ρ M):wS (Ze1 tg bd (.enu n) (cnt (.enu n) M) 0 ρ M) N R B C E:=by
 rw[Ze8 hM];have hl:(xs.mapIdx fun (k:Nat) d=>D.tup [.int k,d]).length=xs.length:=by simp
 refine Zkz I (xs:=xs.mapIdx fun (k:Nat) d=>D.tup [.int k,d]) _ 0 ρ M (by simp) (by simp) h0 (fun i ρ M _ hI=> ?_) (fun i ρ M h hI=> ?_) (fun ρ M hI=>hn ρ M (by rw[hl] at hI;exact hI))
 ·rw[Zir (hm _ _ _ hI),List.getElem?_mapIdx]
 ·rw[List.getElem_mapIdx]
  exact st i ρ M (by rw[hl] at h;exact h) hI
theorem ZlV {src:Src}(Inv:Ro->Prop)(F:Nat->D){Q:Sto->Prop}(hl:xs.length < 10000000)(hcnt:xs.length<=cnt src M)(h0:Inv ρ)(hs: ∀ (L:Sto) (i:Nat),i<=xs.length->nxt src i (M ++ L)=some xs[i]?)
  (st: ∀ (i:Nat) (h:i < xs.length) (ρ:Ro) (L:Sto),Inv ρ->wG (tg xs[i] ρ) fun r=>Inv r/\wO (f r (M ++ L)) (fun y M2=>y=F i/\M2=M ++ L) (fun _ _=>False)) (hq:Q (M ++ [.lst ((List.range xs.length).map F)])):
  wO (Zcp src tg (fun _ M=> .ok true M) f M.length (cnt src M) 0 ρ (M ++ [.lst []])) (fun _ M2=>Q M2) (fun _ _=>False):=by
 refine ZeB (fun i ρ M'=>Inv ρ/\M'=M ++ [.lst ((List.range i).map F)]) (xs:=xs) _ 0 ρ _ (by simp) (by omega) ⟨h0,rfl⟩ (fun i ρ M' hi hI=>by rw[hI.2];exact hs _ i hi) (fun i ρ M' h hI=> ?_) (fun ρ M' hI=>by rw[hI.2];exact hq)
 obtain ⟨hI,rfl⟩:=hI
 have s:=st i h ρ [.lst ((List.range i).map F)] hI
 cases e:tg xs[i] ρ with
 |none=>rw[e] at s;exact s.elim
 |some r=>
  rw[e] at s;obtain ⟨hr,s⟩:=s
  show Br true _ _
  rw[Zr4];refine ZaV s (fun y M2 ⟨h1,h2⟩=> ?_) (fun _ _ z=>z)
  subst h1 h2;rw[Zgy];refine ⟨by simp;omega,hr,?_⟩
  rw[ZkA,List.range_succ,List.map_append];rfl
theorem Ze9 {lo:Int}:(Zbq lo n).length=n:=by simp[Zbq]
theorem ZlW {lo:Int}(h:k < (Zbq lo n).length):(Zbq lo n)[k]= .int (lo + k):=by simp[Zbq]
theorem Zfa {F:Nat->Int}:(List.range n).map (fun i=>D.int (F i))=nts ((List.range n).map F):=by simp[nts]
end
end DL
end
section
namespace DL
open PySem PySem.Spec PyProof.Rows L2
section
variable {Q:D->Sto->Prop}{E:Str->Sto->Prop}{N B C:Ro->Sto->Prop}{R:D->Sto->Prop}{ρ:Ro}{M:Sto}{f g:Ev}{fs:Av}{i j:Int}{n m k:Nat}{x y z d:D}{xs ys ds:List D}{QL:List D->Sto->Prop}{QB:Bool->Sto->Prop}{QS:Src->Sto->Prop}{tg:Tg}{a bd:Sv}{b:Bool}{t u:Tv}
noncomputable def kU {β γ:Type}(u:β->Sto->Out γ)(Q:γ->Sto->Prop)(E:Str->Sto->Prop)(x:β)(M:Sto):Prop:=wO (u x M) Q E
noncomputable def kQ {β γ:Type}(Q:γ->Sto->Prop)(c:β->γ)(M:Sto)(x:β):Prop:=Q (c x) M
noncomputable def kB2 (op:Bo)(x:D)(Q:D->Sto->Prop)(E:Str->Sto->Prop)(y:D)(M:Sto):Prop:=wO (op x y M) Q E
noncomputable def kB1 (op:Bo)(g:Ev)(ρ:Ro)(Q:D->Sto->Prop)(E:Str->Sto->Prop)(x:D)(M:Sto):Prop:=wO (g ρ M) (kB2 op x Q E) E
theorem ZtS {op:Bo}:wO (e2 op f g ρ M) Q E=wO (f ρ M) (kB1 op g ρ Q E) E:=Zqo
theorem y_c:wO (eC d ρ M) Q E=Q d M:=rfl
theorem y_v:wO (Zg k ρ M) Q E=wV ρ[k]? (kQ Q id M):=ZtA
theorem ZoC {F:List D->Sto->Out D}:wO (Zl F fs ρ M) Q E=wO (fs ρ M) (kU F Q E) E:=ZlH
noncomputable def kA2 (x:D)(Q:List D->Sto->Prop)(xs:List D)(M:Sto):Prop:=Q (x :: xs) M
noncomputable def kA1 (fs:Av)(ρ:Ro)(Q:List D->Sto->Prop)(E:Str->Sto->Prop)(x:D)(M:Sto):Prop:=wO (fs ρ M) (kA2 x Q) E
theorem ZqS:wO (aNil ρ M) QL E=QL [] M:=rfl
theorem ZoD:wO (Zc f fs ρ M) QL E=wO (f ρ M) (kA1 fs ρ QL E) E:=ZlI
noncomputable def kTu (Q:D->Sto->Prop)(xs:List D)(M:Sto):Prop:=xs.length<=1000/\Q (.tup xs) M
noncomputable def kLs (Q:D->Sto->Prop)(xs:List D)(M:Sto):Prop:=xs.length<=1000/\Q (.ref M.length) (M ++ [.lst xs])
theorem ZqT:wO (Z1 fs ρ M) Q E=wO (fs ρ M) (kTu Q) E:=ZnZ
theorem ZqU:wO (ZcJ fs ρ M) Q E=wO (fs ρ M) (kLs Q) E:=Zn0
noncomputable def Zr5 (x:D)(M:Sto):Out D:=match x with | .int i=> .ok (.int (-i)) M | _=> .bad
theorem ZqV:wO (ZeW f ρ M) Q E=wO (f ρ M) (kU Zr5 Q E) E:=by unfold ZeW;exact ZE
theorem ZoE:wO (Zr5 (.int i) M) Q E=Q (.int (-i)) M:=rfl
noncomputable def ZqW (T:String)(x:D)(M:Sto):Out D:=match ZaA M x with | some t=> .ok (.bl (Zco t T)) M | none=> .bad
theorem ZqX {T:String}:wO (Zdg T f ρ M) Q E=wO (f ρ M) (kU (ZqW T) Q E) E:=by unfold Zdg;exact ZE
noncomputable def kTy (T:String)(Q:D->Sto->Prop)(M:Sto)(t:String):Prop:=Q (.bl (Zco t T)) M
theorem ZoF {T:String}:wO (ZqW T x M) Q E=wG (ZaA M x) (kTy T Q M):=by unfold ZqW;cases ZaA M x<;>rfl
noncomputable def tC (b:Bool):Tv:=fun _ M=> .ok b M
noncomputable def BrO {β:Type}(k:Bool)(f g:Ro->Sto->Out β)(ρ:Ro)(M:Sto)(Q:β->Sto->Prop)(E:Str->Sto->Prop):Prop:=wO ((if k=true then f else g) ρ M) Q E
theorem ZtT {β:Type}{fO gO:Ro->Sto->Out β}{QO:β->Sto->Prop}:BrO true fO gO ρ M QO E=wO (fO ρ M) QO E:=rfl
theorem ZtU {β:Type}{fO gO:Ro->Sto->Out β}{QO:β->Sto->Prop}:BrO false fO gO ρ M QO E=wO (gO ρ M) QO E:=rfl
theorem brO {β:Type}{fO gO:Ro->Sto->Out β}{QO:β->Sto->Prop}{p:Prop}[Decidable p](h1:p->wO (fO ρ M) QO E)(h2: ¬ p->wO (gO ρ M) QO E):BrO (decide p) fO gO ρ M QO E:=by
 by_cases h:p
 ·rw[decide_eq_true h];exact h1 h
 ·rw[decide_eq_false h];exact h2 h
theorem Zr6 {β:Type}{fO gO:Ro->Sto->Out β}{QO:β->Sto->Prop}{p:Prop}[Decidable p](h1: ¬ p->wO (fO ρ M) QO E)(h2:p->wO (gO ρ M) QO E):BrO (!decide p) fO gO ρ M QO E:=by
 by_cases h:p
 ·rw[decide_eq_true h];exact h2 h
 ·rw[decide_eq_false h];exact h1 h
theorem ZoG {β:Type}{fO gO:Ro->Sto->Out β}{QO:β->Sto->Prop}(P:β->Sto->Prop)(h:BrO b fO gO ρ M P E)(hn: ∀ x M,P x M->QO x M):BrO b fO gO ρ M QO E:=by
 cases b
 ·exact ZaV h hn (fun _ _ z=>z)
 ·exact ZaV h hn (fun _ _ z=>z)
noncomputable def kIf (f g:Ev)(ρ:Ro)(Q:D->Sto->Prop)(E:Str->Sto->Prop)(k:Bool)(M:Sto):Prop:=BrO k f g ρ M Q E
theorem ZtV:wO (eIf t f g ρ M) Q E=wO (t ρ M) (kIf f g ρ Q E) E:=by unfold eIf;rw[ZE];congr 1;funext k M1;cases k<;>rfl
noncomputable def Zr7 (g:Ev)(ρ:Ro)(x:D)(M:Sto):Out D:=match x with | .bl k=>if k=true then g ρ M else .ok (.bl false) M | _=> .bad
noncomputable def oOr (g:Ev)(ρ:Ro)(x:D)(M:Sto):Out D:=match x with | .bl k=>if k=true then .ok (.bl true) M else g ρ M | _=> .bad
noncomputable def Zr8 (x:D)(M:Sto):Out D:=match x with | .bl k=> .ok (.bl (!k)) M | _=> .bad
noncomputable def oTv (x:D)(M:Sto):Out Bool:=match x with | .bl k=> .ok k M | _=> .bad
theorem ZqY:wO (Zaz f g ρ M) Q E=wO (f ρ M) (kU (Zr7 g ρ) Q E) E:=by unfold Zaz;exact ZE
theorem ZtW:wO (Znb f g ρ M) Q E=wO (f ρ M) (kU (oOr g ρ) Q E) E:=by unfold Znb;exact ZE
theorem ZqZ:wO (Zgm f ρ M) Q E=wO (f ρ M) (kU Zr8 Q E) E:=by unfold Zgm;exact ZE
theorem ZoH:wO (Zr7 g ρ (.bl b) M) Q E=BrO b g (eC (.bl false)) ρ M Q E:=by cases b<;>rfl
theorem Zq0:wO (oOr g ρ (.bl b) M) Q E=BrO b (eC (.bl true)) g ρ M Q E:=by cases b<;>rfl
theorem ZoI:wO (Zr8 (.bl b) M) Q E=Q (.bl (!b)) M:=rfl
theorem ZtX:wO (tv f ρ M) QB E=wO (f ρ M) (kU oTv QB E) E:=by unfold tv;exact ZE
theorem Zq1:wO (oTv (.bl b) M) QB E=QB b M:=rfl
noncomputable def kTA (u:Tv)(ρ:Ro)(Q:Bool->Sto->Prop)(E:Str->Sto->Prop)(k:Bool)(M:Sto):Prop:=BrO k u (tC false) ρ M Q E
noncomputable def kTO (u:Tv)(ρ:Ro)(Q:Bool->Sto->Prop)(E:Str->Sto->Prop)(k:Bool)(M:Sto):Prop:=BrO k (tC true) u ρ M Q E
noncomputable def kTN (Q:Bool->Sto->Prop)(k:Bool)(M:Sto):Prop:=Q (!k) M
theorem ZtY:wO (tC b ρ M) QB E=QB b M:=rfl
theorem ZoJ:wO (ZbG t u ρ M) QB E=wO (t ρ M) (kTA u ρ QB E) E:=by unfold ZbG;rw[ZE];congr 1;funext k M1;cases k<;>rfl
theorem Zq2:wO (Zcd t u ρ M) QB E=wO (t ρ M) (kTO u ρ QB E) E:=by unfold Zcd;rw[ZE];congr 1;funext k M1;cases k<;>rfl
theorem ZoK:wO (Zab t ρ M) QB E=wO (t ρ M) (kTN QB) E:=Zn1
noncomputable def kSq (b:Sv)(N:Ro->Sto->Prop)(R:D->Sto->Prop)(B C:Ro->Sto->Prop)(E:Str->Sto->Prop)(ρ:Ro)(M:Sto):Prop:=wS (b ρ M) N R B C E
theorem Zq3:wS (Zz a bd ρ M) N R B C E=wS (a ρ M) (kSq bd N R B C E) R B C E:=Zn2
theorem ZoL:wS (sNil ρ M) N R B C E=N ρ M:=rfl
theorem Zq4:wS (Zte ρ M) N R B C E=B ρ M:=rfl
theorem Zq5:wS (Ztf ρ M) N R B C E=C ρ M:=rfl
theorem Zq6:wS (ZM f ρ M) N R B C E=wO (f ρ M) R E:=Zn3
theorem ZoM:wS (Zno ρ M) N R B C E=R .non M:=rfl
noncomputable def kDr (ρ:Ro)(N:Ro->Sto->Prop)(d:D)(M:Sto):Prop:=N ρ M
theorem ZoN:wS (ZcC f ρ M) N R B C E=wO (f ρ M) (kDr ρ N) E:=ZlJ
noncomputable def BrS (k:Bool)(a b:Sv)(ρ:Ro)(M:Sto)(N:Ro->Sto->Prop)(R:D->Sto->Prop)(B C:Ro->Sto->Prop)(E:Str->Sto->Prop):Prop:=wS ((if k=true then a else b) ρ M) N R B C E
theorem ZtZ:BrS true a bd ρ M N R B C E=wS (a ρ M) N R B C E:=rfl
theorem Zt0:BrS false a bd ρ M N R B C E=wS (bd ρ M) N R B C E:=rfl
theorem brS {p:Prop}[Decidable p](h1:p->wS (a ρ M) N R B C E)(h2: ¬ p->wS (bd ρ M) N R B C E):BrS (decide p) a bd ρ M N R B C E:=by
 by_cases h:p
 ·rw[decide_eq_true h];exact h1 h
 ·rw[decide_eq_false h];exact h2 h
theorem Zmq {p:Prop}[Decidable p](h1: ¬ p->wS (a ρ M) N R B C E)(h2:p->wS (bd ρ M) N R B C E):BrS (!decide p) a bd ρ M N R B C E:=by
 by_cases h:p
 ·rw[decide_eq_true h];exact h2 h
 ·rw[decide_eq_false h];exact h1 h
theorem Zq7 (h1:b=true->wS (a ρ M) N R B C E)(h2:b=false->wS (bd ρ M) N R B C E):BrS b a bd ρ M N R B C E:=by
 cases b
 ·exact h2 rfl
 ·exact h1 rfl
theorem Zmr (P:Ro->Sto->Prop)(h:BrS b a bd ρ M P R B C E)(hn: ∀ ρ M,P ρ M->N ρ M):BrS b a bd ρ M N R B C E:=by
 cases b
 ·exact Zin h hn (fun _ _ z=>z) (fun _ _ z=>z) (fun _ _ z=>z) (fun _ _ z=>z)
 ·exact Zin h hn (fun _ _ z=>z) (fun _ _ z=>z) (fun _ _ z=>z) (fun _ _ z=>z)
noncomputable def kSi (a b:Sv)(ρ:Ro)(N:Ro->Sto->Prop)(R:D->Sto->Prop)(B C:Ro->Sto->Prop)(E:Str->Sto->Prop)(k:Bool)(M:Sto):Prop:=BrS k a b ρ M N R B C E
theorem Zq8:wS (sIf t a bd ρ M) N R B C E=wO (t ρ M) (kSi a bd ρ N R B C E) E:=by unfold sIf;rw[Z6];congr 1;funext k M1;cases k<;>rfl
noncomputable def kAs (i:Nat)(ρ:Ro)(N:Ro->Sto->Prop)(d:D)(M:Sto):Prop:=N (ρ.set i (some d)) M
theorem Zq9:wS (ZN (gNm k) f ρ M) N R B C E=wO (f ρ M) (kAs k ρ N) E:=Zn4
noncomputable def kAt (gs:Tgs)(ρ:Ro)(N:Ro->Sto->Prop)(d:D)(M:Sto):Prop:=wG (gTp gs d ρ) (kQ N id M)
theorem ZoO {gs:Tgs}:wS (ZN (gTp gs) f ρ M) N R B C E=wO (f ρ M) (kAt gs ρ N) E:=ZlK
noncomputable def Zr9 (i j:Nat)(ρ:Ro)(N:Ro->Sto->Prop)(M:Sto)(v w:D):Prop:=N ((ρ.set i (some v)).set j (some w)) M
noncomputable def kPa (i j:Nat)(ρ:Ro)(N:Ro->Sto->Prop)(ds:List D)(M:Sto):Prop:=w2 ds (Zr9 i j ρ N M)
theorem Zra:wS (Zgo k m fs ρ M) N R B C E=wO (fs ρ M) (kPa k m ρ N) E:=Zn5
noncomputable def Zsa (n:Nat)(d:D)(xs:List D)(ρ:Ro)(N:Ro->Sto->Prop)(M:Sto)(j:Nat):Prop:=N ρ (M.set n (.lst (xs.set j d)))
noncomputable def Zsb (n:Nat)(k:Int)(d:D)(ρ:Ro)(N:Ro->Sto->Prop)(M:Sto)(xs:List D):Prop:=wG (ixN xs.length k) (Zsa n d xs ρ N M)
noncomputable def Zsc (n:Nat)(d:D)(ρ:Ro)(N:Ro->Sto->Prop)(M:Sto)(k:Int):Prop:=wL M[n]? (Zsb n k d ρ N M)
noncomputable def Zsd (i:D)(d:D)(ρ:Ro)(N:Ro->Sto->Prop)(M:Sto)(n:Nat):Prop:=wI i (Zsc n d ρ N M)
noncomputable def Zse (o:D)(d:D)(ρ:Ro)(N:Ro->Sto->Prop)(i:D)(M:Sto):Prop:=wR o (Zsd i d ρ N M)
noncomputable def Zsf (fi:Ev)(d:D)(ρ:Ro)(N:Ro->Sto->Prop)(E:Str->Sto->Prop)(o:D)(M:Sto):Prop:=wO (fi ρ M) (Zse o d ρ N) E
noncomputable def kPu (fo fi:Ev)(ρ:Ro)(N:Ro->Sto->Prop)(E:Str->Sto->Prop)(d:D)(M:Sto):Prop:=wO (fo ρ M) (Zsf fi d ρ N E) E
theorem Zrb {fo fi:Ev}:wS (ZeT fo fi f ρ M) N R B C E=wO (f ρ M) (kPu fo fi ρ N E) E:=Zn6
noncomputable def kRa (c:Str)(E:Str->Sto->Prop)(ds:List D)(M:Sto):Prop:=ds.length<=1000/\E c M
theorem ZlX {c:Str}:wS (ZbW c fs ρ M) N R B C E=wO (fs ρ M) (kRa c E) E:=ZjF
noncomputable def Zsg (tg:Tg)(bd:Sv)(ρ:Ro)(N:Ro->Sto->Prop)(R:D->Sto->Prop)(B C:Ro->Sto->Prop)(E:Str->Sto->Prop)(M:Sto)(j:Int):Prop:=(-(2 ^ 62)<=j/\j < 2 ^ 62)/\wS (ZbH tg bd (Zbq 0 j.toNat) ρ M) N R B C E
noncomputable def Zsh (tg:Tg)(bd:Sv)(ρ:Ro)(N:Ro->Sto->Prop)(R:D->Sto->Prop)(B C:Ro->Sto->Prop)(E:Str->Sto->Prop)(M:Sto)(d:D):Prop:=wI d (Zsg tg bd ρ N R B C E M)
noncomputable def kR1 (tg:Tg)(bd:Sv)(ρ:Ro)(N:Ro->Sto->Prop)(R:D->Sto->Prop)(B C:Ro->Sto->Prop)(E:Str->Sto->Prop)(ds:List D)(M:Sto):Prop:=w1 ds (Zsh tg bd ρ N R B C E M)
theorem ZoP:wS (ZbM tg fs bd ρ M) N R B C E=wO (fs ρ M) (kR1 tg bd ρ N R B C E) E:=ZlL
noncomputable def Zsi (tg:Tg)(bd:Sv)(ρ:Ro)(N:Ro->Sto->Prop)(R:D->Sto->Prop)(B C:Ro->Sto->Prop)(E:Str->Sto->Prop)(M:Sto)(i:Int)(j:Int):Prop:=(-(2 ^ 62)<=i/\i < 2 ^ 62/\ -(2 ^ 62)<=j/\j < 2 ^ 62)/\wS (ZbH tg bd (Zbq i (j - i).toNat) ρ M) N R B C E
noncomputable def Zsj (tg:Tg)(bd:Sv)(ρ:Ro)(N:Ro->Sto->Prop)(R:D->Sto->Prop)(B C:Ro->Sto->Prop)(E:Str->Sto->Prop)(M:Sto)(y:D)(i:Int):Prop:=wI y (Zsi tg bd ρ N R B C E M i)
noncomputable def Zsk (tg:Tg)(bd:Sv)(ρ:Ro)(N:Ro->Sto->Prop)(R:D->Sto->Prop)(B C:Ro->Sto->Prop)(E:Str->Sto->Prop)(M:Sto)(x y:D):Prop:=wI x (Zsj tg bd ρ N R B C E M y)
noncomputable def kR2 (tg:Tg)(bd:Sv)(ρ:Ro)(N:Ro->Sto->Prop)(R:D->Sto->Prop)(B C:Ro->Sto->Prop)(E:Str->Sto->Prop)(ds:List D)(M:Sto):Prop:=w2 ds (Zsk tg bd ρ N R B C E M)
theorem ZoQ:wS (Zhz tg fs bd ρ M) N R B C E=wO (fs ρ M) (kR2 tg bd ρ N R B C E) E:=ZlU
noncomputable def kFo (tg:Tg)(bd:Sv)(ρ:Ro)(N:Ro->Sto->Prop)(R:D->Sto->Prop)(B C:Ro->Sto->Prop)(E:Str->Sto->Prop)(d:D)(M:Sto):Prop:=wS (Zki tg bd d ρ M) N R B C E
theorem Zrc:wS (Zlg tg f bd ρ M) N R B C E=wO (f ρ M) (kFo tg bd ρ N R B C E) E:=Zn7
theorem ZoR:wS (Zki tg bd (.tup xs) ρ M) N R B C E=wS (ZbH tg bd xs ρ M) N R B C E:=rfl
theorem ZoS:wS (Zki tg bd (.rol xs) ρ M) N R B C E=wS (ZbH tg bd xs ρ M) N R B C E:=rfl
noncomputable def kFs (tg:Tg)(bd:Sv)(ρ:Ro)(N:Ro->Sto->Prop)(R:D->Sto->Prop)(B C:Ro->Sto->Prop)(E:Str->Sto->Prop)(src:Src)(M:Sto):Prop:=wS (Ze1 tg bd src (cnt src M) 0 ρ M) N R B C E
theorem ZoT {fi:Ro->Sto->Out Src}:wS (ZdF tg fi bd ρ M) N R B C E=wO (fi ρ M) (kFs tg bd ρ N R B C E) E:=ZlN
noncomputable def hT (cs:List Str)(gh:Sv)(W:List Bool)(i:Nat)(ρ:Ro)(c:Str)(M:Sto):Fl:=if cs.contains c=true then (match gh ((kpR W ρ).set i (some (.err c (fsE c M)))) (stE c M) with | .ret d M2=> .ret d M2 | .nx _ M2=> .nx (List.replicate ρ.length none) M2 | _=> .bad) else .bad
noncomputable def kTr (cs:List Str)(gh:Sv)(W:List Bool)(i:Nat)(ρ:Ro)(N:Ro->Sto->Prop)(R:D->Sto->Prop)(B C:Ro->Sto->Prop)(E:Str->Sto->Prop)(c:Str)(M:Sto):Prop:=cs.contains c=true/\wS (gh ((kpR W ρ).set i (some (.err c (fsE c M)))) (stE c M)) (fun _ M2=>N (List.replicate ρ.length none) M2) R (fun _ _=>False) (fun _ _=>False) (fun _ _=>False)
theorem Zrd {cs:List Str}{W:List Bool}{gh:Sv}:wS (Zr0 a cs W k gh ρ M) N R B C E=wS (a ρ M) N R B C (kTr cs gh W k ρ N R B C E):=by
 unfold Zr0;cases e:a ρ M<;>try rfl
 rename_i c M1;show wS (if cs.contains c=true then _ else _) N R B C E=kTr cs gh W k ρ N R B C E c M1
 unfold kTr
 by_cases h:cs.contains c=true
 ·rw[if_pos h]
  simp only[h,true_and];cases gh ((kpR W ρ).set k (some (.err c (fsE c M1)))) (stE c M1)<;>rfl
 ·rw[if_neg h]
  simp only[h,Bool.false_eq_true,false_and];rfl
theorem Zgz:fsE (PySem.Str.ofString "NoRatio") M=[]:=ZbX (by decide +kernel)
theorem ZgA:stE (PySem.Str.ofString "NoRatio") M=M:=ZbP (by decide +kernel)
theorem ZeG:fsE (PySem.Str.ofString "NoTurning") M=[]:=ZbX (by decide +kernel)
theorem ZeH:stE (PySem.Str.ofString "NoTurning") M=M:=ZbP (by decide +kernel)
theorem ZeI:fsE (PySem.Str.ofString "NotSmooth") M=[]:=ZbX (by decide +kernel)
theorem ZeJ:stE (PySem.Str.ofString "NotSmooth") M=M:=ZbP (by decide +kernel)
theorem ZgB:fsE (PySem.Str.ofString "NoWedge") M=[]:=ZbX (by decide +kernel)
theorem ZgC:stE (PySem.Str.ofString "NoWedge") M=M:=ZbP (by decide +kernel)
theorem ZjM:fsE (PySem.Str.ofString "NoRow") M=[]:=ZbX (by decide +kernel)
theorem ZjN:stE (PySem.Str.ofString "NoRow") M=M:=ZbP (by decide +kernel)
theorem ZgD:fsE (PySem.Str.ofString "NoPlace") M=[]:=ZbX (by decide +kernel)
theorem ZgE:stE (PySem.Str.ofString "NoPlace") M=M:=ZbP (by decide +kernel)
theorem ZgF:fsE (PySem.Str.ofString "NoMinus") M=[]:=ZbX (by decide +kernel)
theorem ZgG:stE (PySem.Str.ofString "NoMinus") M=M:=ZbP (by decide +kernel)
theorem Zit:fsE (PySem.Str.ofString "NoFour") M=[]:=ZbX (by decide +kernel)
theorem Ziu:stE (PySem.Str.ofString "NoFour") M=M:=ZbP (by decide +kernel)
theorem Zfb:fsE (PySem.Str.ofString "NoHeight") M=[]:=ZbX (by decide +kernel)
theorem Zfc:stE (PySem.Str.ofString "NoHeight") M=M:=ZbP (by decide +kernel)
theorem Ziv:fsE (PySem.Str.ofString "NoBend") M=[]:=ZbX (by decide +kernel)
theorem Ziw:stE (PySem.Str.ofString "NoBend") M=M:=ZbP (by decide +kernel)
theorem Zix:fsE (PySem.Str.ofString "NoBody") M=[]:=ZbX (by decide +kernel)
theorem Ziy:stE (PySem.Str.ofString "NoBody") M=M:=ZbP (by decide +kernel)
theorem ZjO:fsE (PySem.Str.ofString "NoOne") M=[]:=ZbX (by decide +kernel)
theorem ZjP:stE (PySem.Str.ofString "NoOne") M=M:=ZbP (by decide +kernel)
theorem Ziz:fsE (PySem.Str.ofString "NoText") M=[]:=ZbX (by decide +kernel)
theorem ZiA:stE (PySem.Str.ofString "NoText") M=M:=ZbP (by decide +kernel)
theorem ZgH:fsE (PySem.Str.ofString "Unknown") M=[]:=ZbX (by decide +kernel)
theorem ZgI:stE (PySem.Str.ofString "Unknown") M=M:=ZbP (by decide +kernel)
theorem ZgJ:fsE (PySem.Str.ofString "NoRound") (M ++ [.lst xs])=xs:=Zqb (by decide +kernel)
theorem ZgK:stE (PySem.Str.ofString "NoRound") (M ++ [.lst xs])=M:=Znx (by decide +kernel)
noncomputable def Zt1 (Q:D->Sto->Prop)(M1:Sto)(u:Unit)(M:Sto):Prop:=Q (.ref M1.length) M
noncomputable def kCo (tg:Tg)(c:Tv)(f:Ev)(k:Nat)(fr:List Nat)(ρ:Ro)(Q:D->Sto->Prop)(src:Src)(M:Sto):Prop:=wO (Zcp src tg c f M.length (cnt src M) 0 (roB k fr ρ) (M ++ [.lst []])) (Zt1 Q M) (fun _ _=>False)
theorem ZoU {fi:Ro->Sto->Out Src}{fr:List Nat}:wO (ZaQ fi k fr tg t f ρ M) Q E=wO (fi ρ M) (kCo tg t f k fr ρ Q) E:=ZlO
noncomputable def Zsl (QS:Src->Sto->Prop)(M:Sto)(j:Int):Prop:=(-(2 ^ 62)<=j/\j < 2 ^ 62)/\QS (.pur (Zbq 0 j.toNat)) M
noncomputable def Zsm (QS:Src->Sto->Prop)(M:Sto)(d:D):Prop:=wI d (Zsl QS M)
noncomputable def kS1 (QS:Src->Sto->Prop)(ds:List D)(M:Sto):Prop:=w1 ds (Zsm QS M)
theorem Zt2:wO (iR1 fs ρ M) QS E=wO (fs ρ M) (kS1 QS) E:=ZtK
noncomputable def Zsn (QS:Src->Sto->Prop)(M:Sto)(i:Int)(j:Int):Prop:=(-(2 ^ 62)<=i/\i < 2 ^ 62/\ -(2 ^ 62)<=j/\j < 2 ^ 62)/\QS (.pur (Zbq i (j - i).toNat)) M
noncomputable def Zso (QS:Src->Sto->Prop)(M:Sto)(y:D)(i:Int):Prop:=wI y (Zsn QS M i)
noncomputable def Zsp (QS:Src->Sto->Prop)(M:Sto)(x y:D):Prop:=wI x (Zso QS M y)
noncomputable def kS2 (QS:Src->Sto->Prop)(ds:List D)(M:Sto):Prop:=w2 ds (Zsp QS M)
theorem Zt3:wO (iR2 fs ρ M) QS E=wO (fs ρ M) (kS2 QS) E:=ZtL
noncomputable def oSq (d:D)(M:Sto):Out Src:=match d with | .tup ds=> .ok (.pur ds) M | .rol ds=> .ok (.pur ds) M | .con ds=> .ok (.pur ds) M | .ref n=> .ok (.sto n) M | _=> .bad
theorem Zt4:wO (iSq f ρ M) QS E=wO (f ρ M) (kU oSq QS E) E:=by unfold iSq;exact ZE
theorem Zre:wO (oSq (.tup xs) M) QS E=QS (.pur xs) M:=rfl
theorem Zrf:wO (oSq (.rol xs) M) QS E=QS (.pur xs) M:=rfl
theorem Zrg:wO (oSq (.ref n) M) QS E=QS (.sto n) M:=rfl
noncomputable def Zsq (QS:Src->Sto->Prop)(M:Sto)(d:D):Prop:=wR d (kQ QS .enu M)
noncomputable def kEn (QS:Src->Sto->Prop)(ds:List D)(M:Sto):Prop:=w1 ds (Zsq QS M)
theorem Zt5:wO (iEn fs ρ M) QS E=wO (fs ρ M) (kEn QS) E:=ZtM
noncomputable def Zsr (QS:Src->Sto->Prop)(M:Sto)(y:D)(n:Nat):Prop:=wR y (kQ QS (.zip n) M)
noncomputable def Zss (QS:Src->Sto->Prop)(M:Sto)(x y:D):Prop:=wR x (Zsr QS M y)
noncomputable def kZp (QS:Src->Sto->Prop)(ds:List D)(M:Sto):Prop:=w2 ds (Zss QS M)
theorem Zt6:wO (iZp fs ρ M) QS E=wO (fs ρ M) (kZp QS) E:=ZtN
noncomputable def Zst (QS:Src->Sto->Prop)(n:Nat)(M:Sto)(xs:List D):Prop:=QS (.rev n xs.length) M
noncomputable def Zsu (QS:Src->Sto->Prop)(M:Sto)(n:Nat):Prop:=wL M[n]? (Zst QS n M)
noncomputable def Zsv (QS:Src->Sto->Prop)(M:Sto)(d:D):Prop:=wR d (Zsu QS M)
noncomputable def kRv (QS:Src->Sto->Prop)(ds:List D)(M:Sto):Prop:=w1 ds (Zsv QS M)
theorem Zt7:wO (iRv fs ρ M) QS E=wO (fs ρ M) (kRv QS) E:=ZtO
noncomputable def ZoV (xs:List D)(M:Sto)(Q:D->Sto->Prop)(ys:List D):Prop:=xs.length + ys.length<=10000000/\Q (.ref M.length) (M ++ [.lst (xs ++ ys)])
noncomputable def Zsw (m:Nat)(M:Sto)(Q:D->Sto->Prop)(xs:List D):Prop:=wL M[m]? (ZoV xs M Q)
theorem Zrh:wO (dAdd (.ref n) (.ref m) M) Q E=wL M[n]? (Zsw m M Q):=Zqv
noncomputable def ZpJ (i:Int)(M:Sto)(Q:D->Sto->Prop)(xs:List D):Prop:=((-9223372036854775808<=i/\i < 9223372036854775808)/\xs.length * i.toNat<=100000)/\Q (.ref M.length) (M ++ [.lst (List.replicate i.toNat xs).flatten])
theorem Zri:wO (Zto (.ref n) (.int i) M) Q E=wL M[n]? (ZpJ i M Q):=by
 show wO (match M[n]? with | some (.lst xs)=>if (-9223372036854775808<=i/\i < 9223372036854775808)/\xs.length * i.toNat<=100000 then Out.ok (.ref M.length) (M ++ [.lst (List.replicate i.toNat xs).flatten]) else .bad | none=> .bad) Q E=_
 cases e1:M[n]? with
 |none=>rfl
 |some o=>
  cases o with
  |lst xs=>
   show wO (if (-9223372036854775808<=i/\i < 9223372036854775808)/\xs.length * i.toNat<=100000 then Out.ok (.ref M.length) (M ++ [.lst (List.replicate i.toNat xs).flatten]) else .bad) Q E=ZpJ i M Q xs
   unfold ZpJ
   by_cases h:(-9223372036854775808<=i/\i < 9223372036854775808)/\xs.length * i.toNat<=100000
   ·rw[if_pos h];simp only[eq_true h,true_and];rfl
   ·rw[if_neg h];simp only[eq_false h,false_and];rfl
noncomputable def kEq (Q:D->Sto->Prop)(M:Sto)(b:Bool):Prop:=Q (.bl b) M
noncomputable def kNe (Q:D->Sto->Prop)(M:Sto)(b:Bool):Prop:=Q (.bl (!b)) M
theorem Zt8:wO (dEq x y M) Q E=wG (eqF 12 M x y) (kEq Q M):=ZtF
theorem Zt9:wO (dNe x y M) Q E=wG (eqF 12 M x y) (kNe Q M):=ZtG
theorem Zua:wO (dIs x y M) Q E=wG (isP x y) (kEq Q M):=ZtH
theorem Zrj:wO (dIsNot x y M) Q E=wG (isP x y) (kNe Q M):=Zqw
theorem Zrk:wO (Zr3 x y M) Q E=wG (inE x y M) (kEq Q M):=by unfold Zr3;cases inE x y M<;>rfl
theorem ZjQ:wO (ZhP x y M) Q E=wG (inE x y M) (kNe Q M):=by unfold ZhP;cases inE x y M<;>rfl
theorem Zrl:wO (dIx (.tup xs) (.int i) M) Q E=wG (atI xs i) (kQ Q id M):=Zqx
theorem Zrm:wO (dIx (.rol xs) (.int i) M) Q E=wG (atI xs i) (kQ Q id M):=Zqy
noncomputable def kIx (i:Int)(Q:D->Sto->Prop)(M:Sto)(xs:List D):Prop:=wG (atI xs i) (kQ Q id M)
theorem Zrn:wO (dIx (.ref n) (.int i) M) Q E=wL M[n]? (kIx i Q M):=Zqz
noncomputable def Zsx (Q:D->Sto->Prop)(M:Sto)(xs:List D):Prop:=Q (.int xs.length) M
theorem ZoW:wO (bLen [.ref n] M) Q E=wL M[n]? (Zsx Q M):=Zoa
noncomputable def kLi (Q:D->Sto->Prop)(M:Sto)(xs:List D):Prop:=Q (.ref M.length) (M ++ [.lst xs])
theorem ZlY:wO (bList [.ref n] M) Q E=wL M[n]? (kLi Q M):=ZlQ
noncomputable def Zsy (Q:D->Sto->Prop)(M:Sto)(bs:List Bool):Prop:=Q (.bl (bs.all id)) M
noncomputable def kAl (Q:D->Sto->Prop)(M:Sto)(xs:List D):Prop:=wG (Zcq xs) (Zsy Q M)
theorem Zro:wO (ZrY [.ref n] M) Q E=wL M[n]? (kAl Q M):=ZqD
noncomputable def Zsz (g:List Int->Option Int)(Q:D->Sto->Prop)(M:Sto)(ns:List Int):Prop:=wG (g ns) (kQ Q .int M)
noncomputable def ZsA (g:List Int->Option Int)(Q:D->Sto->Prop)(M:Sto)(xs:List D):Prop:=wG (ZbI xs) (Zsz g Q M)
theorem ZoX {gi:List Int->Option Int}:wO (Zgr gi [.ref n] M) Q E=wL M[n]? (ZsA gi Q M):=Zof
noncomputable def kMt (g:Me)(fs:Av)(ρ:Ro)(Q:D->Sto->Prop)(E:Str->Sto->Prop)(x:D)(M:Sto):Prop:=Zlp x M=true/\wO (fs ρ M) (kU (g x) Q E) E
theorem Zub {me:Me}{fo:Ev}:wO (ZhI me fo fs ρ M) Q E=wO (fo ρ M) (kMt me fs ρ Q E) E:=ZtI
noncomputable def ZsB (n:Nat)(d:D)(Q:D->Sto->Prop)(M:Sto)(xs:List D):Prop:=xs.length < 10000000/\Q .non (M.set n (.lst (xs ++ [d])))
theorem Zrp:wO (mApp (.ref n) [d] M) Q E=wL M[n]? (ZsB n d Q M):=ZqE
noncomputable def ZsC (n:Nat)(Q:D->Sto->Prop)(M:Sto)(xs:List D):Prop:=Q .non (M.set n (.lst []))
theorem Zrq:wO (Zr1 (.ref n) [] M) Q E=wL M[n]? (ZsC n Q M):=ZqF
noncomputable def ZoY (n:Nat)(xs:List D)(Q:D->Sto->Prop)(M:Sto)(ys:List D):Prop:=xs.length + ys.length<=10000000/\Q .non (M.set n (.lst (xs ++ ys)))
noncomputable def ZsD (n m:Nat)(Q:D->Sto->Prop)(M:Sto)(xs:List D):Prop:=wL M[m]? (ZoY n xs Q M)
theorem Zrr:wO (Zr2 (.ref n) [.ref m] M) Q E=wL M[n]? (ZsD n m Q M):=ZqG
noncomputable def ZlZ (Q:D->Sto->Prop)(M:Sto)(bs:List Bool):Prop:=wG (bs.findIdx? id) (kQ Q (fun (j:Nat)=> .int j) M)
noncomputable def ZsE (d:D)(Q:D->Sto->Prop)(M:Sto)(xs:List D):Prop:=wG (eqs M d xs) (ZlZ Q M)
theorem Zrs:wO (mIdx (.ref n) [d] M) Q E=wL M[n]? (ZsE d Q M):=by
 show wO (match M[n]? with | some (.lst xs)=>(match eqs M d xs with | some bs=>(match bs.findIdx? id with | some j=>Out.ok (.int (j:Nat)) M | none=> .bad) | none=> .bad) | none=> .bad) Q E=_
 cases e1:M[n]? with
 |none=>rfl
 |some o=>
  cases o with
  |lst xs=>
   show wO (match eqs M d xs with | some bs=>(match bs.findIdx? id with | some j=>Out.ok (.int (j:Nat)) M | none=> .bad) | none=> .bad) Q E=wG (eqs M d xs) (ZlZ Q M)
   cases eqs M d xs with
   |none=>rfl
   |some bs=>
    show wO (match bs.findIdx? id with | some j=>Out.ok (.int (j:Nat)) M | none=> .bad) Q E=wG (bs.findIdx? id) _
    cases bs.findIdx? id<;>rfl
noncomputable def kCn (Q:D->Sto->Prop)(M:Sto)(bs:List Bool):Prop:=Q (.int (bs.countP id:Nat)) M
noncomputable def ZsF (d:D)(Q:D->Sto->Prop)(M:Sto)(xs:List D):Prop:=wG (eqs M d xs) (kCn Q M)
theorem ZoZ:wO (Ztn (.ref n) [d] M) Q E=wL M[n]? (ZsF d Q M):=by
 show wO (match M[n]? with | some (.lst xs)=>(match eqs M d xs with | some bs=>Out.ok (.int (bs.countP id:Nat)) M | none=> .bad) | none=> .bad) Q E=_
 cases e1:M[n]? with
 |none=>rfl
 |some o=>
  cases o with
  |lst xs=>
   show wO (match eqs M d xs with | some bs=>Out.ok (.int (bs.countP id:Nat)) M | none=> .bad) Q E=wG (eqs M d xs) (kCn Q M)
   cases eqs M d xs<;>rfl
noncomputable def ZsG (l u:Option Int)(Q:D->Sto->Prop)(M:Sto)(xs:List D):Prop:=Q (.ref M.length) (M ++ [.lst (Zeq xs l u)])
noncomputable def ZsH (x:D)(l:Option Int)(Q:D->Sto->Prop)(E:Str->Sto->Prop)(u:Option Int)(M:Sto):Prop:=wO (slR x l u M) Q E
noncomputable def ZsI (x:D)(hi:Ro->Sto->Out (Option Int))(ρ:Ro)(Q:D->Sto->Prop)(E:Str->Sto->Prop)(l:Option Int)(M:Sto):Prop:=wO (hi ρ M) (ZsH x l Q E) E
noncomputable def ZsJ (lo hi:Ro->Sto->Out (Option Int))(ρ:Ro)(Q:D->Sto->Prop)(E:Str->Sto->Prop)(x:D)(M:Sto):Prop:=wO (lo ρ M) (ZsI x hi ρ Q E) E
theorem Zuc {lo hi:Ro->Sto->Out (Option Int)}:wO (eSl f lo hi ρ M) Q E=wO (f ρ M) (ZsJ lo hi ρ Q E) E:=ZqH
theorem Zrt {l u':Option Int}:wO (slR (.ref n) l u' M) Q E=wL M[n]? (ZsG l u' Q M):=ZqI
theorem Zru {QI:Option Int->Sto->Prop}:wO (oNo ρ M) QI E=QI none M:=rfl
noncomputable def ZsK (Q:Option Int->Sto->Prop)(x:D)(M:Sto):Prop:=wI x (kQ Q some M)
theorem Zrv {QI:Option Int->Sto->Prop}:wO (oSo f ρ M) QI E=wO (f ρ M) (ZsK QI) E:=ZqJ
noncomputable def oRv (x:D)(M1:Sto):Out D:=match x with | .tup xs=> .ok (.tup xs.reverse) M1 | .ref n=>(match M1[n]? with | some (.lst xs)=> .ok (.ref M1.length) (M1 ++ [.lst xs.reverse]) | none=> .bad) | .rol xs=> .ok (.ref M1.length) (M1 ++ [.lst xs.reverse]) | _=> .bad
theorem Zud:wO (eRv f ρ M) Q E=wO (f ρ M) (kU oRv Q E) E:=by unfold eRv;exact ZE
noncomputable def Zrw (Q:D->Sto->Prop)(M:Sto)(xs:List D):Prop:=Q (.ref M.length) (M ++ [.lst xs.reverse])
theorem Zrx:wO (oRv (.ref n) M) Q E=wL M[n]? (Zrw Q M):=by show wO (match M[n]? with | some (.lst xs)=>Out.ok (.ref M.length) (M ++ [.lst xs.reverse]) | none=> .bad) Q E=_;cases M[n]? with | none=>rfl | some o=>cases o with | lst xs=>rfl
theorem Zry:wO (oRv (.tup xs) M) Q E=Q (.tup xs.reverse) M:=rfl
noncomputable def ZsL (tab:List (Str × Bool))(x:D)(M:Sto):Out D:=match x with | .err c _=>(match tab.lookup c with | some b=> .ok (.bl b) M | none=> .bad) | _=> .bad
theorem Zrz {tab:List (Str × Bool)}:wO (ZrZ tab f ρ M) Q E=wO (f ρ M) (kU (ZsL tab) Q E) E:=by unfold ZrZ;exact ZE
theorem Zo0 {tab:List (Str × Bool)}{c:Str}:wO (ZsL tab (.err c xs) M) Q E=wG (tab.lookup c) (kEq Q M):=by show wO (match tab.lookup c with | some b=>Out.ok (.bl b) M | none=> .bad) Q E=_;cases tab.lookup c<;>rfl
theorem ZsM {src:Src}{fr:List Nat}(Inv:Ro->Prop)(F:Nat->D)(hl:xs.length < 10000000)(hcnt:xs.length<=cnt src M)(h0:Inv (roB k fr ρ))(hs: ∀ (L:Sto) (i:Nat),i<=xs.length->nxt src i (M ++ L)=some xs[i]?)
  (st: ∀ (i:Nat) (h:i < xs.length) (ρ:Ro) (L:Sto),Inv ρ->wG (tg xs[i] ρ) fun r=>Inv r/\wO (f r (M ++ L)) (fun y M2=>y=F i/\M2=M ++ L) (fun _ _=>False)) (hq:Q (.ref M.length) (M ++ [.lst ((List.range xs.length).map F)])):
  kCo tg (fun _ M=> .ok true M) f k fr ρ Q src M:=ZlV (Q:=fun M2=>Q (.ref M.length) M2) Inv F hl hcnt h0 hs st hq
theorem ZsN {fr:List Nat}(Inv:Ro->Prop)(F:Nat->D)(hl:n < 10000000)(h0:Inv (roB k fr ρ))
  (st: ∀ (i:Nat) (h:i < n) (ρ:Ro) (L:Sto),Inv ρ->wG (tg (.int i) ρ) fun r=>Inv r/\wO (f r (M ++ L)) (fun y M2=>y=F i/\M2=M ++ L) (fun _ _=>False)) (hq:Q (.ref M.length) (M ++ [.lst ((List.range n).map F)])):
  kCo tg (fun _ M=> .ok true M) f k fr ρ Q (.pur (Zbq 0 n)) M:=by
 refine ZsM (xs:=Zbq 0 n) Inv F (by rw[Ze9];exact hl) (by simp[cnt]) h0 (fun L i hi=>rfl) (fun i hi ρ L hI=> ?_) (by rw[Ze9];exact hq)
 rw[ZlW]
 have:=st i (by rw[Ze9] at hi;exact hi) ρ L hI
 rw[show (0:Int) + (i:Nat)=i by omega]
 exact this
theorem Zms {fr:List Nat}(Inv:Ro->Prop)(F:Nat->D)(hM:M[n]?=some (.lst xs))(hl:xs.length < 10000000)(h0:Inv (roB k fr ρ))
  (st: ∀ (i:Nat) (h:i < xs.length) (ρ:Ro) (L:Sto),Inv ρ->wG (tg xs[i] ρ) fun r=>Inv r/\wO (f r (M ++ L)) (fun y M2=>y=F i/\M2=M ++ L) (fun _ _=>False)) (hq:Q (.ref M.length) (M ++ [.lst ((List.range xs.length).map F)])):
  kCo tg (fun _ M=> .ok true M) f k fr ρ Q (.sto n) M:=
 ZsM (xs:=xs) Inv F hl (by rw[Ze7 hM];exact Nat.le_refl _) h0 (fun L i hi=>by rw[Zis];rw[List.getElem?_append_left (ZJ hM)];exact hM) st hq
end
end DL
end
namespace DL
open PySem PySem.Spec L2
section
variable {Q:D->Sto->Prop}{E:Str->Sto->Prop}{M:Sto}{n:Nat}
theorem Zl0:wO (bLR [.ref n] M) Q E=wL M[n]? (Zrw Q M):=by
 show wO (match M[n]? with | some (.lst xs)=>Out.ok (.ref M.length) (M ++ [.lst xs.reverse]) | none=> .bad) Q E=_
 cases M[n]? with
 |none=>rfl
 |some o=>cases o with | lst xs=>rfl
end
end DL
section
namespace DL
open PySem PySem.Spec L2
section
variable {Q:D->Sto->Prop}{E:Str->Sto->Prop}{N B C:Ro->Sto->Prop}{R:D->Sto->Prop}{M:Sto}{ρ:Ro}{fs:Av}{f:Ev}{c:Str}{i:Nat}
noncomputable def ZrA (c:Str)(E:Str->Sto->Prop)(ds:List D)(M:Sto):Prop:=match ds with
 | [.str y,.int n]=>(y.length<=1000/\n.natAbs.log2 < 1000)/\E c (M ++ [.lst [.str y,.int n]])
 |_=>False
theorem Zf1 {y:Str}{n:Int}:ZrA c E [.str y,.int n] M=((y.length<=1000/\n.natAbs.log2 < 1000)/\E c (M ++ [.lst [.str y,.int n]])):=rfl
theorem ZcM (h:wO (fs ρ M) (ZrA c E) E):wS (Zbj c fs ρ M) N R B C E:=by
 unfold Zbj;rw[Z6];refine ZaV h (fun ds M1 k=> ?_) (fun _ _ z=>z)
 unfold ZrA at k
 split at k
 ·rename_i y n
  show wS (if _ then _ else _) _ _ _ _ _
  rw[if_pos k.1];exact k.2
 ·exact k.elim
end
end DL
end
section
namespace DL
open PySem PySem.Spec L2
section
variable {N B C:Ro->Sto->Prop}{R:D->Sto->Prop}{E:Str->Sto->Prop}{M:Sto}{ρ:Ro}{gb gh:Sv}{cs:List Str}{W:List Bool}
noncomputable def ZpK (cs:List Str)(gh:Sv)(W:List Bool)(ρ:Ro)(N:Ro->Sto->Prop)(R:D->Sto->Prop)(c:Str)(M:Sto):Prop:=cs.contains c=true/\wS (gh (kpR W ρ) (stE c M)) N R (fun _ _=>False) (fun _ _=>False) (fun _ _=>False)
theorem ZkB:wS (ZeA gb cs W gh ρ M) N R B C E=wS (gb ρ M) N R B C (ZpK cs gh W ρ N R):=by
 unfold ZeA;cases e:gb ρ M<;>try rfl
 rename_i c M1;show wS (if cs.contains c=true then _ else _) N R B C E=ZpK cs gh W ρ N R c M1
 unfold ZpK
 by_cases h:cs.contains c=true
 ·rw[if_pos h]
  simp only[h,true_and];cases gh (kpR W ρ) (stE c M1)<;>rfl
 ·rw[if_neg h]
  simp only[h,Bool.false_eq_true,false_and];rfl
theorem ZiB {c:Str}:ZpK cs gh W ρ N R c M=(cs.contains c=true/\wS (gh (kpR W ρ) (stE c M)) N R (fun _ _=>False) (fun _ _=>False) (fun _ _=>False)):=rfl
end
end DL
end
section
end
section
namespace DL
noncomputable abbrev Pt:=Int × Int
noncomputable def X (p q:Pt):Int:=p.1 * q.2 - p.2 * q.1
section
variable {rs:List Pt}{i j:Int}{k n:Nat}{p:Pt}
theorem Zb2 {α:Type}{l:List α}{n:Nat}{d:α}(h:n < l.length):l.getD n d=l[n]:=by simp[List.getElem?_eq_getElem h]
theorem ZbJ (h:0<=i/\i < rs.length):cy rs i=rs.getD i.toNat (0,0):=by
 unfold cy;rw[Int.emod_eq_of_lt h.1 h.2]
theorem ZaW {m:Nat}(h:m≠0):(i % m).toNat < m/\0<=i % m:=by
 have:=Int.emod_lt_of_pos i (show (0:Int) < m by omega)
 have:=Int.emod_nonneg i (show (m:Int)≠0 by omega)
 omega
theorem ZaN (h:rs≠[]):cy rs i∈rs:=by
 have hl:rs.length≠0:=by simpa using h
 unfold cy;rw[Zb2 (ZaW hl).1];exact List.getElem_mem _
theorem Zdp {f:Pt->Pt}(h:rs≠[]):cy (rs.map f) i=f (cy rs i):=by
 have hl:rs.length≠0:=by simpa using h
 unfold cy;rw[List.length_map,Zb2 (by rw[List.length_map];exact (ZaW hl).1),Zb2 (ZaW hl).1,List.getElem_map]
theorem Zf2 (hk:k<=rs.length):cy (rs.drop k ++ rs.take k) i=cy rs (i + k):=by
 by_cases h:rs.length=0
 ·have:rs=[]:=by simpa using h
  subst this
  simp[cy]
 have hL:(rs.drop k ++ rs.take k).length=rs.length:=by simp;omega
 have e1:cy (rs.drop k ++ rs.take k) i=cy (rs.drop k ++ rs.take k) (i % rs.length):=by
  conv=>rhs;rw[<- hL,Zcs]
 have e2:cy rs (i + k)=cy rs (i % rs.length + k):=by
  unfold cy;rw[Int.emod_add_emod]
 rw[e1,e2];obtain ⟨a,b⟩:=ZaW (i:=i) h
 generalize hm:i % (rs.length:Int)=m at *;have hm2:m < rs.length:=by omega
 rw[ZbJ (by rw[hL];omega)]
 by_cases c:m + k < rs.length
 ·rw[ZbJ (by omega)]
  rw[List.getD_eq_getElem?_getD,List.getD_eq_getElem?_getD,List.getElem?_append_left (by simp;omega),List.getElem?_drop]
  congr 2
  omega
 ·rw[<- Zdo,ZbJ (by omega)]
  rw[List.getD_eq_getElem?_getD,List.getD_eq_getElem?_getD,List.getElem?_append_right (by simp;omega),List.getElem?_take_of_lt (by simp;omega)]
  congr 2
  simp
  omega
noncomputable def ins (rs:List Pt)(k:Nat)(p:Pt):List Pt:=rs.take (k + 1) ++ p :: rs.drop (k + 1)
theorem Zfd (hk:k < rs.length):(ins rs k p).length=rs.length + 1:=by simp[ins];omega
theorem ZkC (hk:k < rs.length)(h0:0<=j)(h1:j<=rs.length + 1):cy (ins rs k p) j=if j<=k then cy rs j else if j=k + 1 then p else cy rs (j - 1):=by
 have hL:=Zfd (p:=p) hk
 by_cases e:j=rs.length + 1
 ·subst e
  rw[if_neg (by omega),if_neg (by omega)]
  have e1:cy (ins rs k p) (rs.length + 1)=cy (ins rs k p) 0:=by
   have:=Zdo (rs:=ins rs k p) (i:=(rs.length:Int) + 1)
   rw[hL] at this;rw[<- this]
   congr 1
   omega
  have e2:cy rs ((rs.length:Int) + 1 - 1)=cy rs 0:=by
   rw[<- Zdo]
   congr 1
   omega
  rw[e1,e2,ZbJ (by rw[hL];omega),ZbJ (by omega)]
  unfold ins;rw[List.getD_eq_getElem?_getD,List.getD_eq_getElem?_getD,List.getElem?_append_left (by simp;omega),List.getElem?_take_of_lt (by simp)]
 ·have hj:j < rs.length + 1:=by omega
  rw[ZbJ (by rw[hL];omega)]
  unfold ins;rw[List.getD_eq_getElem?_getD]
  by_cases c1:j<=k
  ·rw[if_pos c1,ZbJ (by omega),List.getD_eq_getElem?_getD,List.getElem?_append_left (by simp;omega),List.getElem?_take_of_lt (by omega)]
  ·rw[if_neg c1,List.getElem?_append_right (by simp;omega)]
   have hl:(rs.take (k + 1)).length=k + 1:=by simp;omega
   rw[hl]
   by_cases c2:j=k + 1
   ·rw[if_pos c2]
    have:j.toNat - (k + 1)=0:=by omega
    rw[this];rfl
   ·rw[if_neg c2,ZbJ (by omega),List.getD_eq_getElem?_getD]
    obtain ⟨z,hz⟩: ∃ z,j.toNat - (k + 1)=z + 1:=⟨j.toNat - (k + 1) - 1,by omega⟩
    rw[hz,List.getElem?_cons_succ,List.getElem?_drop]
    congr 2
    omega
theorem Zc0 {P:Pt->Pt->Prop}(hn:rs.length≠0)(h: ∀ i:Int,0<=i->i < rs.length->P (cy rs i) (cy rs (i + 1)))(i:Int):P (cy rs i) (cy rs (i + 1)):=by
 have e1:cy rs i=cy rs (i % rs.length):=Zcs.symm
 have e2:cy rs (i + 1)=cy rs (i % rs.length + 1):=by
  unfold cy;rw[Int.emod_add_emod]
 rw[e1,e2];obtain ⟨a,b⟩:=ZaW (i:=i) hn
 exact h _ b (by omega)
noncomputable def cc (f:Pt->Pt->Nat):List Pt->Nat
 |a :: b :: r=>f a b + cc f (b :: r)
 |_=>0
noncomputable def cyc (f:Pt->Pt->Nat)(rs:List Pt):Nat:=cc f (rs ++ rs.take 1)
theorem Zc1 {f:Pt->Pt->Nat}: ∀ (L:List Pt) (a:Pt) (R:List Pt),cc f (L ++ a :: R)=cc f (L ++ [a]) + cc f (a :: R)
 | [],a,R=>by simp[cc]
 | [b],a,R=>by simp[cc]
 |b :: c :: L,a,R=>by
  have:=Zc1 (f:=f) (c :: L) a R
  simp only[List.cons_append,cc] at this ⊢;omega
theorem ZkD {f:Pt->Pt->Nat}{g:Pt->Pt}: ∀ (L:List Pt),cc f (L.map g)=cc (fun a b=>f (g a) (g b)) L
 | []=>rfl
 | [_]=>rfl
 |a :: b :: L=>by
  have:=ZkD (f:=f) (g:=g) (b :: L)
  simp only[List.map_cons,cc] at this ⊢;omega
theorem Zb3 {f:Pt->Pt->Nat}{a:Pt}{r:List Pt}:cyc f (a :: r)=cc f (a :: (r ++ [a])):=by simp[cyc]
theorem Zch {f:Pt->Pt->Nat}(A B:List Pt):cyc f (A ++ B)=cyc f (B ++ A):=by
 cases A with
 |nil=>simp
 |cons a A=>
  cases B with
  |nil=>simp
  |cons b B=>
   rw[List.cons_append,Zb3,List.cons_append,Zb3];have e1:a :: (A ++ b :: B ++ [a])=(a :: A) ++ b :: (B ++ [a]):=by simp
   have e2:b :: (B ++ a :: A ++ [b])=(b :: B) ++ a :: (A ++ [b]):=by simp
   rw[e1,e2,Zc1 (a :: A) b,Zc1 (b :: B) a];simp only[List.cons_append];omega
theorem ZiC {f:Pt->Pt->Nat}{g:Pt->Pt}(L:List Pt):cyc f (L.map g)=cyc (fun a b=>f (g a) (g b)) L:=by
 unfold cyc;rw[<- List.map_take,<- List.map_append,ZkD]
noncomputable def in1 (w a b:Pt):Nat:=if 0<=X a w/\0 < X w b then 1 else 0
noncomputable def in2 (w a b:Pt):Nat:=if 0 < X a w/\0<=X w b then 1 else 0
noncomputable def Fan (rs:List Pt):Prop:= ∀ w:Pt,w≠(0,0)->cyc (in1 w) rs=1/\cyc (in2 w) rs=1
theorem Zo1 {a b w:Pt}:X w (a.1 + b.1,a.2 + b.2)=X w a + X w b/\X (a.1 + b.1,a.2 + b.2) w=X a w + X b w:=by unfold X;constructor<;>grind
theorem Zmt {p q:Pt}:X p q=0 - X q p:=by unfold X;grind
theorem ZiD {a b w:Pt}:in1 w a b=in1 w a (a.1 + b.1,a.2 + b.2) + in1 w (a.1 + b.1,a.2 + b.2) b:=by
 have s:=Zo1 (a:=a) (b:=b) (w:=w)
 have e1:=Zmt (p:=w) (q:=a)
 have e2:=Zmt (p:=b) (q:=w)
 unfold in1;rw[s.1,s.2,e1,e2];generalize X a w=p;generalize X w b=q
 repeat' split
 all_goals omega
theorem ZiE {a b w:Pt}:in2 w a b=in2 w a (a.1 + b.1,a.2 + b.2) + in2 w (a.1 + b.1,a.2 + b.2) b:=by
 have s:=Zo1 (a:=a) (b:=b) (w:=w)
 have e1:=Zmt (p:=w) (q:=a)
 have e2:=Zmt (p:=b) (q:=w)
 unfold in2;rw[s.1,s.2,e1,e2];generalize X a w=p;generalize X w b=q
 repeat' split
 all_goals omega
theorem ZjR {L R:List Pt}{a:Pt}:cy (L ++ a :: R) L.length=a:=by
 rw[ZbJ (by simp;omega)]
 simp
theorem Zo2 {L R:List Pt}{a b:Pt}:cy (L ++ a :: b :: R) (L.length + 1)=b:=by
 rw[ZbJ (by simp;omega)]
 rw[show ((L.length:Int) + 1).toNat=L.length + 1 by omega]
 simp
theorem ZiF {r:List Pt}{a:Pt}:cy (a :: r) (r.length + 1)=a:=by
 have:=Zdo (rs:=a :: r) (i:=(r.length:Int) + 1)
 rw[<- this,List.length_cons,show (r.length:Int) + 1 - ((r.length + 1:Nat):Int)=0 by omega,ZbJ (by simp)]
 rfl
theorem ZiG {f:Pt->Pt->Nat}(hk:k < rs.length)(hf:f (cy rs k) (cy rs (k + 1))=f (cy rs k) p + f p (cy rs (k + 1))):cyc f (ins rs k p)=cyc f rs:=by
 obtain ⟨L,a,R,e,hl⟩: ∃ L a R,rs=L ++ a :: R/\L.length=k:=⟨rs.take k,rs[k],rs.drop (k + 1),by rw[List.getElem_cons_drop,List.take_append_drop],by simp;omega⟩
 have ei:ins rs k p=L ++ a :: p :: R:=by
  unfold ins;rw[e,<- hl,List.take_append,List.drop_append,List.take_of_length_le (by omega),List.drop_eq_nil_of_le (by omega)]
  simp
 have ca:cy rs k=a:=by rw[e,<- hl];exact ZjR
 cases R with
 |cons b R=>
  have cb:cy rs (k + 1)=b:=by rw[e,<- hl];exact Zo2
  rw[ca,cb] at hf;rw[ei,e,Zch,Zch L];simp only[List.cons_append,Zb3,cc];omega
 |nil=>
  cases L with
  |nil=>
   have cb:cy rs (k + 1)=a:=by
    rw[e,<- hl];exact ZiF (r:=[]) (a:=a)
   rw[ca,cb] at hf;rw[ei,e]
   simp[cyc,cc]
   omega
  |cons b L=>
   have cb:cy rs (k + 1)=b:=by
    rw[e,<- hl]
    have:=ZiF (r:=L ++ [a]) (a:=b)
    simp only[List.length_append,List.length_cons,List.length_nil] at this ⊢;exact this
   rw[ca,cb] at hf;rw[ei,e];simp only[List.cons_append,Zb3];have e1:b :: (L ++ [a,p] ++ [b])=(b :: L) ++ a :: [p,b]:=by simp
   have e2:b :: (L ++ [a] ++ [b])=(b :: L) ++ a :: [b]:=by simp
   rw[e1,e2,Zc1,Zc1 (b :: L) a [b]];simp only[cc];omega
theorem Fan.rot (h:Fan rs):Fan (rs.drop k ++ rs.take k):=fun w hw=>by
 rw[Zch,Zch (rs.drop k),List.take_append_drop];exact h w hw
theorem Fan.ins (h:Fan rs)(hk:k < rs.length):Fan (ins rs k ((cy rs k).1 + (cy rs (k + 1)).1,(cy rs k).2 + (cy rs (k + 1)).2)):=fun w hw=>by
 rw[ZiG hk ZiD,ZiG hk ZiE];exact h w hw
theorem Zo3 {f:Pt->Pt}{s:Int}(hs:s=1\/s= -1)(hf: ∀ p q,X (f p) (f q)=s * X p q)(w:Pt)(hw:w≠(0,0)): ∃ w':Pt,w'≠(0,0)/\ ∀ a,X (f a) w=s * X a w':=by
 have d:=hf (1,0) (0,1)
 have d1:X (f (1,0)) (f (0,1))=s:=by rw[d];simp[X]
 have lin: ∀ a,(f a).1=a.1 * (f (1,0)).1 + a.2 * (f (0,1)).1/\(f a).2=a.1 * (f (1,0)).2 + a.2 * (f (0,1)).2:=by
  intro a;have h1:=hf a (1,0)
  have h2:=hf a (0,1)
  generalize f a=u at *;generalize f (1,0)=e1 at *;generalize f (0,1)=e2 at *;unfold X at *
  rcases hs with rfl | rfl<;>constructor<;>grind
 refine ⟨(X w (f (0,1)) * s,X (f (1,0)) w * s),?_,?_⟩
 ·intro z
  apply hw
  have z1:=congrArg Prod.fst z
  have z2:=congrArg Prod.snd z
  simp only at z1 z2
  generalize f (1,0)=e1 at *;generalize f (0,1)=e2 at *;unfold X at *
  apply Prod.ext
  ·rcases hs with rfl | rfl<;>simp only[]<;>grind
  ·rcases hs with rfl | rfl<;>simp only[]<;>grind
 ·intro a
  obtain ⟨l1,l2⟩:=lin a
  unfold X;rw[l1,l2]
  rcases hs with rfl | rfl<;>simp only[]<;>grind
theorem Fan.map (h:Fan rs){f:Pt->Pt}(hf: ∀ p q,X (f p) (f q)=X p q):Fan (rs.map f):=fun w hw=>by
 obtain ⟨w',hw',e⟩:=Zo3 (s:=1) (.inl rfl) (fun p q=>by rw[hf,Int.one_mul]) w hw
 have e2: ∀ a,X w (f a)=X w' a:=fun a=>by rw[Zmt,e,Zmt (p:=w')];omega
 have c1: ∀ a b,in1 w (f a) (f b)=in1 w' a b:=fun a b=>by unfold in1;rw[e,e2,Int.one_mul]
 have c2: ∀ a b,in2 w (f a) (f b)=in2 w' a b:=fun a b=>by unfold in2;rw[e,e2,Int.one_mul]
 rw[ZiC,ZiC,show (fun a b=>in1 w (f a) (f b))=in1 w' from funext fun a=>funext fun b=>c1 a b,show (fun a b=>in2 w (f a) (f b))=in2 w' from funext fun a=>funext fun b=>c2 a b]
 exact h w' hw'
structure Smo (rs:List Pt):Prop where
 len:3<=rs.length
 one: ∀ i:Int,X (cy rs i) (cy rs (i + 1))=1
 fan:Fan rs
noncomputable def Nr (b:Int)(rs:List Pt):Prop:= ∀ p∈rs,(-b<=p.1/\p.1<=b)/\ -b<=p.2/\p.2<=b
theorem Smo.ne (h:Smo rs):rs≠[]:=by
 intro z
 have:=h.len
 rw[z] at this
 simp at this
theorem Nr.cy {b:Int}(h:Nr b rs)(hn:rs≠[])(i:Int):(-b<=(cy rs i).1/\(cy rs i).1<=b)/\ -b<=(cy rs i).2/\(cy rs i).2<=b:=h _ (ZaN hn)
theorem Smo.ins (h:Smo rs)(hk:k < rs.length):Smo (ins rs k ((cy rs k).1 + (cy rs (k + 1)).1,(cy rs k).2 + (cy rs (k + 1)).2)):=by
 have hL:=Zfd (p:=((cy rs k).1 + (cy rs (k + 1)).1,(cy rs k).2 + (cy rs (k + 1)).2)) hk
 refine ⟨by rw[hL];have:=h.len;omega,?_,h.fan.ins hk⟩
 refine Zc0 (P:=fun a b=>X a b=1) (by omega) ?_
 intro i h0 h1;rw[hL] at h1;rw[ZkC hk h0 (by omega),ZkC hk (by omega) (by omega)]
 have ok:=h.one k
 by_cases c1:i + 1<=k
 ·rw[if_pos (by omega),if_pos c1];exact h.one i
 ·rw[if_neg c1]
  by_cases c2:i=k
  ·subst c2
   rw[if_pos (by omega),if_pos rfl]
   unfold X at *
   grind
  ·rw[if_neg (by omega: ¬ i<=(k:Int)),if_neg (by omega: ¬ i + 1=(k:Int) + 1)]
   by_cases c3:i=k + 1
   ·subst c3
    rw[if_pos rfl]
    have:(k:Int) + 1 + 1 - 1=k + 1:=by omega
    rw[this];unfold X at *
    grind
   ·rw[if_neg c3]
    have:=h.one (i - 1)
    have e:i - 1 + 1=i + 1 - 1:=by omega
    rw[e] at this;exact this
theorem Smo.rot (h:Smo rs)(hk:k<=rs.length):Smo (rs.drop k ++ rs.take k):=by
 refine ⟨by have:=h.len;simp;omega,fun i=> ?_,h.fan.rot⟩
 rw[Zf2 hk,Zf2 hk]
 have:=h.one (i + k)
 have e:i + (k:Int) + 1=i + 1 + k:=by omega
 rw[e] at this;exact this
theorem Smo.map (h:Smo rs){f:Pt->Pt}(hf: ∀ p q,X (f p) (f q)=X p q):Smo (rs.map f):=by
 refine ⟨by have:=h.len;simp;omega,fun i=> ?_,h.fan.map hf⟩
 rw[Zdp h.ne,Zdp h.ne,hf];exact h.one i
theorem Nr.ins {b:Int}(h:Nr b rs)(hp:(-b<=p.1/\p.1<=b)/\ -b<=p.2/\p.2<=b):Nr b (ins rs k p):=by
 intro q hq
 rcases List.mem_append.mp hq with hq | hq
 ·exact h q (List.mem_of_mem_take hq)
 ·rcases List.mem_cons.mp hq with hq | hq
  ·subst hq;exact hp
  ·exact h q (List.mem_of_mem_drop hq)
theorem Nr.rot {b:Int}(h:Nr b rs):Nr b (rs.drop k ++ rs.take k):=by
 intro q hq
 rcases List.mem_append.mp hq with hq | hq
 ·exact h q (List.mem_of_mem_drop hq)
 ·exact h q (List.mem_of_mem_take hq)
end
end DL
end
section
namespace CC
open PySem PySem.Spec L2 DL
noncomputable def Za9:Sv:=(ZM (e2 dSub (e2 dMul (e2 dIx (Zg 0) (eC (.int 0))) (e2 dIx (Zg 1) (eC (.int 1)))) (e2 dMul (e2 dIx (Zg 0) (eC (.int 1))) (e2 dIx (Zg 1) (eC (.int 0))))))
noncomputable def F_crossed:List D->Sto->Out D:=fnF Za9 2 0
noncomputable def ZaX:Sv:=(ZM (e2 dIx (Zg 0) (e2 dMod (e2 dAdd (Zg 1) (eC (.int 1))) (Zl bLen (Zc (Zg 0) aNil)))))
noncomputable def F_following:List D->Sto->Out D:=fnF ZaX 2 0
noncomputable def ZW:Sv:=(sIf (tv (e2 dNe (Zl F_crossed (Zc (Zg 2) (Zc (Zl F_following (Zc (Zg 0) (Zc (Zg 1) aNil))) aNil))) (eC (.int 1)))) (ZM (Zg 1)) sNil)
noncomputable def Zau:Sv:=(Zz (ZdF (gTp (gCs (gNm 1) (gCs (gNm 2) gNl))) (iEn (Zc (Zg 0) aNil)) ZW)
 (ZM (eC .non)))
noncomputable def F_unspanned:List D->Sto->Out D:=fnF Zau 1 2
noncomputable def ZaB:Sv:=(Zz (ZN (gNm 1) (Zl F_unspanned (Zc (Zg 0) aNil)))
 (sIf (tv (e2 dIsNot (Zg 1) (eC .non))) (ZbW (PySem.Str.ofString "NotSmooth") (Zc (eFs (ZbY (eC (.str (PySem.Str.ofString "ray "))) (ZbY (eFm (Zg 1)) (ZbY (eC (.str (PySem.Str.ofString " does not cross the next one in 1"))) jNil)))) aNil)) sNil))
noncomputable def F_ask_smooth:List D->Sto->Out D:=fnF ZaB 1 1
noncomputable def Zae:Sv:=(sIf (Zcd (tv (e2 dLt (Zg 1) (eC (.int 0)))) (tv (e2 dGe (Zg 1) (Zl bLen (Zc (Zg 0) aNil))))) (ZbW (PySem.Str.ofString "NoPlace") (Zc (eFs (ZbY (eC (.str (PySem.Str.ofString "a place is from 0 to "))) (ZbY (eFm (e2 dSub (Zl bLen (Zc (Zg 0) aNil)) (eC (.int 1)))) jNil))) aNil)) sNil)
noncomputable def F_ask_place:List D->Sto->Out D:=fnF Zae 2 0
noncomputable def Zbk:Sv:=(Zz (ZN (gNm 2) (eC (.int 0)))
 (Zz (sIf (tv (e2 dLt (Zg 1) (Zl bLen (Zc (Zg 0) aNil)))) (ZN (gNm 2) (e2 dMod (e2 dIx (Zg 0) (Zg 1)) (e2 dPow (eC (.int 10)) (eC (.int 60))))) sNil)
 (Zz (sIf (tv (e2 dLt (Zg 2) (e2 dPow (eC (.int 10)) (eC (.int 18))))) (Zz (ZN (gNm 3) (e2 dMod (e2 dMul (e2 dAdd (Zg 2) (e2 dMul (eC (.int 1442695040888963407)) (e2 dAdd (Zg 1) (eC (.int 1))))) (eC (.int 6364136223846793005))) (e2 dPow (eC (.int 10)) (eC (.int 37)))))
 (ZN (gNm 2) (e2 dMod (e2 dDiv (e2 dMul (Zg 3) (Zg 3)) (e2 dPow (eC (.int 10)) (eC (.int 17)))) (e2 dPow (eC (.int 10)) (eC (.int 56)))))) sNil)
 (ZM (Zg 2)))))
noncomputable def F_law_cell_at:List D->Sto->Out D:=fnF Zbk 2 2
noncomputable def Zc2:Sv:=(ZM (e2 dSub (e2 dMul (e2 dIx (Zg 0) (eC (.int 0))) (e2 dIx (Zg 1) (eC (.int 1)))) (e2 dMul (e2 dIx (Zg 0) (eC (.int 1))) (e2 dIx (Zg 1) (eC (.int 0))))))
noncomputable def F_law_cross:List D->Sto->Out D:=fnF Zc2 2 0
noncomputable def Zam:Sv:=(sIf (tv (e2 dEq (Zg 4) (eC (.int 0)))) (ZcC (ZhI mApp (Zg 5) (Zc (Z1 (Zc (e2 dAdd (Zg 6) (e2 dMul (Zg 3) (Zg 7))) (Zc (Zg 7) aNil))) aNil))) (sIf (tv (e2 dEq (Zg 4) (eC (.int 1)))) (ZcC (ZhI mApp (Zg 5) (Zc (Z1 (Zc (Zg 6) (Zc (e2 dAdd (Zg 7) (e2 dMul (Zg 3) (Zg 6))) aNil))) aNil))) (sIf (tv (e2 dEq (Zg 4) (eC (.int 2)))) (ZcC (ZhI mApp (Zg 5) (Zc (Z1 (Zc (e2 dSub (eC (.int 0)) (Zg 7)) (Zc (Zg 6) aNil))) aNil))) (ZcC (ZhI mApp (Zg 5) (Zc (Z1 (Zc (Zg 6) (Zc (Zg 7) aNil))) aNil))))))
noncomputable def Zan:Sv:=(Zz (ZN (gNm 3) (e2 dSub (e2 dMod (e2 dDiv (Zg 1) (eC (.int 4))) (eC (.int 5))) (eC (.int 2))))
 (Zz (sIf (tv (e2 dEq (e2 dMod (e2 dDiv (Zg 1) (eC (.int 20))) (eC (.int 8))) (eC (.int 0)))) (ZN (gNm 3) (e2 dSub (e2 dMod (e2 dDiv (Zg 1) (eC (.int 160))) (eC (.int 19))) (eC (.int 9)))) sNil)
 (Zz (ZN (gNm 4) (e2 dMod (Zg 1) (eC (.int 4))))
 (Zz (ZN (gNm 1) (e2 dDiv (Zg 1) (eC (.int 3040))))
 (Zz (ZN (gNm 5) (ZcJ aNil))
 (Zz (Zlg (gTp (gCs (gNm 6) (gCs (gNm 7) gNl))) (Zg 0) Zam)
 (sIf (tv (e2 dLe (Zl (Zgr List.max?) (Zc (e2 dAdd (ZaQ (iSq (Zg 5)) 2 [] (gTp (gCs (gNm 0) (gCs (gNm 1) gNl))) (fun _ M=> .ok true M) (Zl bAbs (Zc (Zg 0) aNil))) (ZaQ (iSq (Zg 5)) 2 [] (gTp (gCs (gNm 0) (gCs (gNm 1) gNl))) (fun _ M=> .ok true M) (Zl bAbs (Zc (Zg 1) aNil)))) aNil)) (eC (.int 200)))) (ZN (gNm 0) (Zg 5)) sNil)))))))
noncomputable def Zba:Sv:=(Zz (ZbM (gNm 2) (Zc (eC (.int 3)) aNil) Zan)
 (ZM (Zg 0)))
noncomputable def F_law_turn:List D->Sto->Out D:=fnF Zba 2 6
noncomputable def ZaY:Sv:=(Zz (ZN (gNm 6) (e2 dMod (Zg 0) (Zl bLen (Zc (Zg 3) aNil))))
 (Zz (ZN (gNm 0) (e2 dDiv (Zg 0) (eC (.int 17))))
 (Zz (ZN (gNm 7) (e2 dIx (Zg 3) (Zg 6)))
 (Zz (ZN (gNm 8) (e2 dIx (Zg 3) (e2 dMod (e2 dAdd (Zg 6) (eC (.int 1))) (Zl bLen (Zc (Zg 3) aNil)))))
 (Zz (ZN (gNm 9) (Z1 (Zc (e2 dAdd (e2 dIx (Zg 7) (eC (.int 0))) (e2 dIx (Zg 8) (eC (.int 0)))) (Zc (e2 dAdd (e2 dIx (Zg 7) (eC (.int 1))) (e2 dIx (Zg 8) (eC (.int 1)))) aNil))))
 (sIf (ZbG (tv (e2 dLe (Zl bAbs (Zc (e2 dIx (Zg 9) (eC (.int 0))) aNil)) (eC (.int 200)))) (tv (e2 dLe (Zl bAbs (Zc (e2 dIx (Zg 9) (eC (.int 1))) aNil)) (eC (.int 200))))) (ZN (gNm 3) (e2 dAdd (e2 dAdd (eSl (Zg 3) oNo (oSo (e2 dAdd (Zg 6) (eC (.int 1))))) (ZcJ (Zc (Zg 9) aNil))) (eSl (Zg 3) (oSo (e2 dAdd (Zg 6) (eC (.int 1)))) oNo))) sNil))))))
noncomputable def Zby:Sv:=(Zz (ZN (gNm 2) (e2 dAdd (eC (.int 3)) (e2 dMod (Zg 0) (e2 dSub (Zg 1) (eC (.int 2))))))
 (Zz (ZN (gNm 0) (e2 dDiv (Zg 0) (e2 dSub (Zg 1) (eC (.int 2)))))
 (Zz (ZN (gNm 3) (ZcJ (Zc (Z1 (Zc (eC (.int 1)) (Zc (eC (.int 0)) aNil))) (Zc (Z1 (Zc (eC (.int 0)) (Zc (eC (.int 1)) aNil))) (Zc (Z1 (Zc (ZeW (eC (.int 1))) (Zc (ZeW (eC (.int 1))) aNil))) aNil)))))
 (Zz (sIf (ZbG (tv (e2 dGt (Zg 2) (eC (.int 3)))) (tv (e2 dGt (e2 dMod (Zg 0) (eC (.int 4))) (eC (.int 0))))) (Zz (ZN (gNm 4) (e2 dMod (e2 dDiv (Zg 0) (eC (.int 4))) (e2 dIx (ZcJ (Zc (eC (.int 3)) (Zc (eC (.int 4)) (Zc (eC (.int 6)) (Zc (eC (.int 40)) aNil))))) (e2 dMod (e2 dDiv (Zg 0) (eC (.int 512))) (eC (.int 4))))))
 (ZN (gNm 3) (ZcJ (Zc (Z1 (Zc (eC (.int 1)) (Zc (eC (.int 0)) aNil))) (Zc (Z1 (Zc (eC (.int 0)) (Zc (eC (.int 1)) aNil))) (Zc (Z1 (Zc (ZeW (eC (.int 1))) (Zc (Zg 4) aNil))) (Zc (Z1 (Zc (eC (.int 0)) (Zc (ZeW (eC (.int 1))) aNil))) aNil))))))) sNil)
 (Zz (ZN (gNm 0) (e2 dDiv (Zg 0) (eC (.int 2048))))
 (Zz (ZbM (gNm 5) (Zc (e2 dSub (Zg 2) (Zl bLen (Zc (Zg 3) aNil))) aNil) ZaY)
 (Zz (ZN (gNm 3) (Zl F_law_turn (Zc (Zg 3) (Zc (Zg 0) aNil))))
 (Zz (ZN (gNm 6) (e2 dMod (e2 dDiv (Zg 0) (e2 dPow (eC (.int 10)) (eC (.int 12)))) (Zl bLen (Zc (Zg 3) aNil))))
 (ZM (e2 dAdd (eSl (Zg 3) (oSo (Zg 6)) oNo) (eSl (Zg 3) oNo (oSo (Zg 6)))))))))))))
noncomputable def F_law_smooth:List D->Sto->Out D:=fnF Zby 2 8
noncomputable def Zci:Sv:=(Zz (ZN (gNm 1) (Zl bLen (Zc (Zg 0) aNil)))
 (ZM (ZaQ (iR1 (Zc (Zg 1) aNil)) 1 [0,1] (gNm 0) (fun _ M=> .ok true M) (e2 dSub (eC (.int 0)) (Zl F_law_cross (Zc (e2 dIx (Zg 1) (e2 dSub (Zg 0) (eC (.int 1)))) (Zc (e2 dIx (Zg 1) (e2 dMod (e2 dAdd (Zg 0) (eC (.int 1))) (Zg 2))) aNil)))))))
noncomputable def F_law_tags:List D->Sto->Out D:=fnF Zci 1 1
end CC
end
open PySem PySem.Spec L2 DL
set_option hygiene false
set_option compiler.extract_closed false
local macro_rules | `(tactic| simp! [$ls,*]) => `(tactic| simp (implicitDefEqProofs := false) (disch := omega) only [ZtS, y_c, y_v, ZoC, ZqS, ZoD, ZqT, ZqU, ZqV, ZoE, ZqX, ZoF, ZtT, ZtU, ZtV, ZqY, ZtW, ZqZ, ZoH, Zq0, ZoI, ZtX, Zq1, ZtY, ZoJ, Zq2, ZoK, Zq3, ZoL, Zq4, Zq5, Zq6, ZoM, ZoN, ZtZ, Zt0, Zq8, Zq9, ZoO, Zra, Zrb, ZlX, ZoP, ZoQ, Zrc, ZoR, ZoS, ZoT, Zrd, Zgz, ZgA, ZeG, ZeH, ZeI, ZeJ, ZgB, ZgC, ZjM, ZjN, ZgD, ZgE, ZgF, ZgG, Zit, Ziu, Zfb, Zfc, Ziv, Ziw, Zix, Ziy, ZjO, ZjP, Ziz, ZiA, ZgH, ZgI, ZgJ, ZgK, ZoU, Zt2, Zt3, Zt4, Zre, Zrf, Zrg, Zt5, Zt6, Zt7, Zrh, Zri, Zt8, Zt9, Zua, Zrj, Zrk, ZjQ, Zrl, Zrm, Zrn, ZoW, ZlY, Zro, ZoX, Zub, Zrp, Zrq, Zrr, Zrs, ZoZ, Zuc, Zrt, Zru, Zrv, Zud, Zrx, Zry, Zrz, Zo0, kU, kQ, kB2, kB1, kA2, kA1, kTu, kLs, kTy, kIf, kTA, kTO, kTN, kSq, kDr, kSi, kAs, kAt, Zr9, kPa, Zsa, Zsb, Zsc, Zsd, Zse, Zsf, kPu, kRa, Zsg, Zsh, kR1, Zsi, Zsj, Zsk, kR2, kFo, kFs, kTr, Zsl, Zsm, kS1, Zsn, Zso, Zsp, kS2, Zsq, kEn, Zsr, Zss, kZp, Zst, Zsu, Zsv, kRv, ZoV, Zsw, ZpJ, kEq, kNe, kIx, Zsx, kLi, Zsy, kAl, Zsz, ZsA, kMt, ZsB, ZsC, ZoY, ZsD, ZlZ, ZsE, kCn, ZsF, ZsG, ZsH, ZsI, ZsJ, ZsK, Zrw, ZdR, ZdS, ZdQ, ZjJ, ZdT, ZjH, ZjI, Ze6, ZjL, ZjK, ZlT, ZlS, Zmp, decide_eq_true, decide_eq_false, wF1, wF2, wF3, wF4, Zj, ZnY, Ztt, Ztu, Ztv, Ztw, Ztx, Zty, Ztr, Zts, Zqp, Zqq, Zqr, Zn8, Zqs, Zqt, Zqu, ZtB, ZtC, ZtD, ZtE, Zn9, Zob, Zoc, ZqA, ZqB, ZqC, Zod, Zoe, ZlR, Zog, Zoh, ZjG, ZqO, ZqP, ZqQ, ZqR, id, roB, kpR, cond_true, cond_false, at0, at1, at2, at3, gTp, gCs, gNl, gNm, List.set_cons_zero, List.set_cons_succ, List.getElem?_cons_zero, List.getElem?_cons_succ, List.length_cons, List.length_nil, List.length_append, List.length_map, List.map_cons, List.map_nil, List.cons_append, List.nil_append, List.append_assoc, List.append_nil, List.replicate_succ, List.replicate_zero, Option.join_some, Option.isSome_some, Zgy, ZeE, ZbQ, ZkA, ZqK, Zoi, Zoj, ZB, Zip, ZqL, ZtJ, ZqM, Zom, ZqN, Zon, Zoo, Zop, Zoq, Zor, Zos, Zot, Zou, Zov, Zow, Zox, Zoy, Zoz, ZoA, true_and, and_true, Bool.not_true, Bool.not_false, decide_true, decide_false, Nat.reduceAdd, Nat.reduceLeDiff, Nat.reduceLT, Nat.add_zero, Nat.zero_add, Int.reducePow, Int.reduceToNat, Int.reduceNeg, Int.reduceMod, Int.reduceDiv, Int.reduceAdd, Int.reduceSub, Int.reduceMul, Int.cast_ofNat_Int, Int.reduceEq, Int.reduceLT, Int.reduceLE, $ls,*])
set_option hygiene true
section
namespace CC
open PySem PySem.Spec L2 DL
section
variable {Q:D->Sto->Prop}{E:Str->Sto->Prop}{M:Sto}{a b c d i:Int}{n:Nat}{rs:List Pt}
theorem Zbz (ha: -(18446744073709551616) < a/\a < 18446744073709551616)(hb: -(18446744073709551616) < b/\b < 18446744073709551616):wO (F_crossed [pr a b,pr c d] M) Q E=Q (.int (a * d - b * c)) M:=by
 simp![F_crossed,Za9]
theorem ZbA (ha: -(18446744073709551616) < a/\a < 18446744073709551616)(hb: -(18446744073709551616) < b/\b < 18446744073709551616):wO (F_law_cross [pr a b,pr c d] M) Q E=Q (.int (a * d - b * c)) M:=Zbz ha hb
theorem ZaZ (h:M[n]?=some (.lst (prs rs)))(hi:0<=i/\i < rs.length):wO (F_following [.ref n,.int i] M) Q E=Q (pr (cy rs (i + 1)).1 (cy rs (i + 1)).2) M:=by
 have e:=ZaW (i:=i + 1) (m:=rs.length) (by omega)
 simp![F_following,ZaX,h,ZbO,Zcs]
theorem Z7 {rs:List Pt}{i:Nat}(h:i < (prs rs).length):(prs rs)[i]=pr (cy rs i).1 (cy rs i).2:=by
 have h':i < rs.length:=by rw[ZB] at h;exact h
 rw[Zcu h']
 simp[prs]
theorem Nr.big {b:Int}{rs:List Pt}(h:Nr b rs)(hb:b<=18446744073709551615)(hn:rs≠[])(i:Int):(-(18446744073709551616) < (cy rs i).1/\(cy rs i).1 < 18446744073709551616)/\(-(18446744073709551616) < (cy rs i).2/\(cy rs i).2 < 18446744073709551616):=by
 have:=Nr.cy h hn i
 omega
theorem Zc3 (h:M[n]?=some (.lst (prs rs)))(hs:Smo rs)(hb:Nr 18446744073709551615 rs)(k:Q .non M):wO (F_unspanned [.ref n] M) Q E:=by
 simp![F_unspanned,Zau];refine ZeF (fun i ρ M'=>M'=M/\ ∃ x y,ρ=[some (.ref n),x,y]) h ⟨rfl,_,_,rfl⟩ (fun i ρ M' hI=>by rw[hI.1];exact h) ?_ ?_
 ·rintro i ρ M' hi ⟨rfl,x,y,rfl⟩
  have b1:=Nr.big hb (by decide) hs.ne i
  have o1:=hs.one i
  have hi':i < rs.length:=by rw[ZB] at hi;exact hi
  rw[Z7];simp![ZW,ZaZ h,Zbz];unfold X at o1;rw[o1];simp![Zj];exact ⟨_,_,rfl⟩
 ·rintro ρ M' ⟨rfl,x,y,rfl⟩
  simp![Zj];exact k
theorem ZeK (h:M[n]?=some (.lst (prs rs)))(hs:Smo rs)(hb:Nr 18446744073709551615 rs)(k:Q .non M):wO (F_ask_smooth [.ref n] M) Q E:=by
 simp![F_ask_smooth,ZaB];refine Zc3 h hs hb ?_
 simp![Zj];exact k
theorem Zo4 {i j:Int}(hi:0<=i/\i < 10 ^ 60)(hj:0<=j/\j < 10 ^ 60):Z4 i j:=Zgn 200 200 (show i.natAbs < 2 ^ 200 by omega) (show j.natAbs < 2 ^ 200 by omega) (by decide) (by decide)
theorem ZeL {ns:List Int}{k:Nat}(q: ∀ c:Int,0<=c->Q (.int c) M):wO (F_law_cell_at [.rol (ns.map D.int),.int k] M) Q E:=by
 have tail: ∀ v:Int,0<=v->Q (.int v) M:=q
 simp![F_law_cell_at,Zbk];refine brS (fun h1=> ?_) (fun h1=> ?_)
 ·have h2:k < ns.length:=by simpa using h1
  simp![ZjE h2];obtain ⟨c,hc,c0⟩: ∃ c:Int,ns[k] % 1000000000000000000000000000000000000000000000000000000000000=c/\0<=c:=⟨_,rfl,by omega⟩
  rw[hc];refine brS (fun h1=> ?_) (fun h1=> ?_)
  ·simp![Zj]
   rw[ZfY (Zo4 (by omega) (by omega))]
   simp![Zj];exact q _ (by omega)
  ·simp![Zj]
   exact q _ c0
 ·obtain ⟨c,hc,c0⟩: ∃ c:Int,0=c/\0<=c:=⟨_,rfl,by omega⟩
  rw[hc];simp![Zj];rw[ZfY (Zo4 (by omega) (by omega))]
  simp![Zj];exact q _ (by omega)
noncomputable def tf (w m:Int)(p:Pt):Pt:=if w=0 then (p.1 + m * p.2,p.2) else if w=1 then (p.1,p.2 + m * p.1) else if w=2 then (0 - p.2,p.1) else p
theorem ZsO {w m:Int}(p q:Pt):X (tf w m p) (tf w m q)=X p q:=by
 unfold tf X
 split
 ·grind
 ·split
  ·grind
  ·split
   ·grind
   ·rfl
theorem Zc4 {xs:List Int}:ZbI (nts xs)=some xs:=by
 induction xs with
 |nil=>rfl
 |cons x r ih=>show (match ZbI (nts r) with | some bs=>some (x :: bs) | none=>none)=_;rw[ih]
theorem ZiH {xs:List Int}{v b:Int}(h:xs.max?=some v)(hv:v<=b): ∀ x∈xs,x<=b:=by
 intro x hx;exact Int.le_trans ((List.max?_le_iff h).mp (Int.le_refl v) x hx) hv
theorem Zb4 {m:Nat}{M:Sto}{ss:List Pt}{ρ:Ro}{Q:D->Sto->Prop}(k:Nat)(hk:k=0\/k=1)(h:M[m]?=some (.lst (prs ss)))(hl:ss.length<=1000)(q:Q (.ref M.length) (M ++ [.lst (nts ((List.range ss.length).map fun (i:Nat)=>(if k=0 then (cy ss i).1.natAbs else (cy ss i).2.natAbs:Int)))])):
  kCo (gTp (gCs (gNm 0) (gCs (gNm 1) gNl))) (fun _ M=> .ok true M) (Zl bAbs (Zc (Zg k) aNil)) 2 [] ρ Q (.sto m) M:=by
 refine Zms (fun ρ=> ∃ x y,ρ=[x,y]) (fun (i:Nat)=> .int (if k=0 then (cy ss i).1.natAbs else (cy ss i).2.natAbs:Int)) h (by rw[ZB];omega) ⟨_,_,rfl⟩ ?_ (by rw[Zfa,ZB];exact q)
 rintro i hi ρ L ⟨x,y,rfl⟩
 rw[Z7]
 rcases hk with rfl | rfl
 ·simp![Zj]
  exact ⟨⟨_,_,rfl⟩,rfl⟩
 ·simp![Zj]
  exact ⟨⟨_,_,rfl⟩,rfl⟩
theorem Zl1 {c:Int}(h:M[n]?=some (.lst (prs rs)))(hs:Smo rs)(hb:Nr 200 rs)(hl:rs.length<=1000)
  (q: ∀ ss m M',(∀ i j:Int,X (cy ss i) (cy ss j)=X (cy rs i) (cy rs j))->Smo ss->Nr 200 ss->ss.length=rs.length->M'[m]?=some (.lst (prs ss))->M.length<=M'.length->(∀ k,k < M.length->M'[k]?=M[k]?)->Q (.ref m) M'):wO (F_law_turn [.ref n,.int c] M) Q E:=by
 simp![F_law_turn,Zba];refine ZcY (fun i ρ M'=> ∃ ss m c x1 x2 x3 x4 x5 x6,ρ=[some (.ref m),some (.int c),x1,x2,x3,x4,x5,x6]/\(∀ i j:Int,X (cy ss i) (cy ss j)=X (cy rs i) (cy rs j))/\Smo ss/\Nr 200 ss/\ss.length=rs.length/\M'[m]?=some (.lst (prs ss))/\M.length<=M'.length/\(∀ k,k < M.length->M'[k]?=M[k]?)) ⟨rs,n,c,_,_,_,_,_,_,rfl,fun _ _=>rfl,hs,hb,rfl,h,Nat.le_refl _,fun _ _=>rfl⟩ ?_ ?_
 ·rintro i ρ M1 hi ⟨ss,m,c,x1,x2,x3,x4,x5,x6,rfl,s0,s1,s2,s3,s4,s5,s6⟩
  have hm:=ZJ s4
  simp![Zan];refine Zmr (fun ρ M'=>M'=M1/\ ∃ u:Int,(-9<=u/\u<=9)/\ρ=[some (D.ref m),some (D.int c),some (D.int (0 + ↑i)),some (D.int u),x3,x4,x5,x6]) ?_ ?_
  ·refine brS (fun _=> ?_) (fun _=> ?_)
   ·simp![Zj]
    exact ⟨_,⟨by omega,by omega⟩,rfl⟩
   ·simp![Zj]
    exact ⟨_,⟨by omega,by omega⟩,rfl⟩
  rintro _ M1 ⟨rfl,u,hu,rfl⟩
  simp![Zj];generalize c % 4=w;have hm1:(M1 ++ [SO.lst []])[m]?=some (.lst (prs ss)):=by rw[List.getElem?_append_left hm];exact s4
  refine ZcZ (fun i ρ M'=>M'=M1 ++ [.lst (prs ((ss.map (tf w u)).take i))]/\ ∃ y x x',ρ=[some (D.ref m),some (D.int (c / 3040)),y,some (D.int u),some (D.int w),some (D.ref M1.length),x,x']) hm1 ⟨by simp[prs],_,_,_,rfl⟩ (fun i ρ M' hI=>by rw[hI.1,List.getElem?_append_left hm];exact s4) ?_ ?_
  ·rintro i ρ M' hi ⟨rfl,y,x,x',rfl⟩
   rw[Z7];rw[ZB] at hi;have b1:=Nr.cy s2 s1.ne i
   have tk:prs ((ss.map (tf w u)).take i) ++ [pr (tf w u (cy ss i)).1 (tf w u (cy ss i)).2]=prs ((ss.map (tf w u)).take (i + 1)):=by
    rw[List.take_succ,List.getElem?_map,List.getElem?_eq_getElem hi,<- ZdQ,Zcu hi]
    rfl
   have tl:((ss.map (tf w u)).take i).length < 10000000:=by simp;omega
   have fin: ∀ a b:Int,tf w u (cy ss i)=(a,b)->M1 ++ [.lst (prs ((ss.map (tf w u)).take i ++ [(a,b)]))]=M1 ++ [.lst (prs ((ss.map (tf w u)).take (i + 1)))]:=by
    intro a b e;rw[e] at tk;rw[<- ZdT,tk]
   simp![Zam];refine brS (fun h1=> ?_) (fun h1=> ?_)
   ·simp![tl]
    exact ⟨fin _ _ (by rw[tf,if_pos h1]),_,_,_,rfl⟩
   simp![Zj];refine brS (fun h2=> ?_) (fun h2=> ?_)
   ·simp![tl]
    exact ⟨fin _ _ (by rw[tf,if_neg h1,if_pos h2]),_,_,_,rfl⟩
   simp![Zj];refine brS (fun h3=> ?_) (fun h3=> ?_)
   ·simp![tl]
    exact ⟨fin _ _ (by rw[tf,if_neg h1,if_neg h2,if_pos h3]),_,_,_,rfl⟩
   ·simp![tl]
    exact ⟨fin _ _ (by rw[tf,if_neg h1,if_neg h2,if_neg h3]),_,_,_,rfl⟩
  ·rintro ρ M' ⟨rfl,y,x,x',rfl⟩
   rw[List.take_of_length_le (by simp[ZB])]
   have e1:Smo (ss.map (tf w u)):=s1.map ZsO
   have e0: ∀ i j:Int,X (cy (ss.map (tf w u)) i) (cy (ss.map (tf w u)) j)=X (cy rs i) (cy rs j):=fun i j=>by rw[Zdp s1.ne,Zdp s1.ne,ZsO,s0]
   have e2:(ss.map (tf w u)).length=rs.length:=by simp;exact s3
   generalize ss.map (tf w u)=ts at *;have t4:(M1 ++ [SO.lst (prs ts)])[M1.length]?=some (.lst (prs ts)):=by simp
   have l2:(M1 ++ [SO.lst (prs ts)]).length=M1.length + 1:=by simp
   have k2: ∀ k,k < M1.length->(M1 ++ [SO.lst (prs ts)])[k]?=M1[k]?:=fun k hk=>List.getElem?_append_left hk
   generalize M1 ++ [SO.lst (prs ts)]=M2 at *;simp![Zj];refine Zb4 0 (.inl rfl) t4 (by omega) ?_
   generalize hA:((List.range ts.length).map fun (i:Nat)=>(if 0=0 then (cy ts i).1.natAbs else (cy ts i).2.natAbs:Int))=A
   have lA:A.length=ts.length:=by subst hA;simp
   simp![Zj];refine Zb4 1 (.inr rfl) (by rw[List.getElem?_append_left (by omega)];exact t4) (by omega) ?_
   generalize hB:((List.range ts.length).map fun (i:Nat)=>(if 1=0 then (cy ts i).1.natAbs else (cy ts i).2.natAbs:Int))=B
   have lB:B.length=ts.length:=by subst hB;simp
   simp![Zj];refine ⟨by omega,?_⟩
   obtain ⟨v,hv⟩: ∃ v,(A ++ B).max?=some v:=by
    cases e:(A ++ B).max? with
    |some v=>exact ⟨v,rfl⟩
    |none=>
     rw[List.max?_eq_none_iff] at e
     have h0:(A ++ B).length=0:=by rw[e];rfl
     have:=e1.len
     rw[List.length_append] at h0;omega
   simp![Ze6,Zc4,hv];have hx:=fun b (hb:v<=b)=>ZiH hv hb
   refine brS (fun h=> ?_) (fun h=> ?_)
   ·simp![Zj]
    have nr:Nr 200 ts:=by
     intro p hp;obtain ⟨k,hk,rfl⟩:=List.getElem_of_mem hp
     have a1:=hx 200 h (cy ts k).1.natAbs (by
      rw[List.mem_append];left;subst hA;exact List.mem_map.mpr ⟨k,List.mem_range.mpr hk,rfl⟩)
     have a2:=hx 200 h (cy ts k).2.natAbs (by
      rw[List.mem_append];right;subst hB;exact List.mem_map.mpr ⟨k,List.mem_range.mpr hk,rfl⟩)
     rw[Zcu hk] at a1 a2;omega
    exact ⟨ts,_,_,_,_,_,_,_,_,rfl,e0,e1,nr,e2,by rw[List.getElem?_append_left (by omega)];exact t4,by omega,fun k hk=>by rw[List.getElem?_append_left (by omega),k2 k (by omega)];exact s6 k hk⟩
   ·simp![Zj]
    exact ⟨ss,_,_,_,_,_,_,_,_,rfl,s0,s1,s2,s3,by rw[List.getElem?_append_left (by omega),k2 _ hm];exact s4,by omega,fun k hk=>by rw[List.getElem?_append_left (by omega),k2 k (by omega)];exact s6 k hk⟩
 ·rintro ρ M1 ⟨ss,m,c,x1,x2,x3,x4,x5,x6,rfl,s0,s1,s2,s3,s4,s5,s6⟩
  simp![Zj];exact q ss m M1 s0 s1 s2 s3 s4 s5 s6
theorem Zo5 {c:Int}(h:M[n]?=some (.lst (prs rs)))(hs:Smo rs)(hb:Nr 200 rs)(hl:rs.length<=1000)
  (q: ∀ ss m M',Smo ss->Nr 200 ss->ss.length=rs.length->M'[m]?=some (.lst (prs ss))->M.length<=M'.length->(∀ k,k < M.length->M'[k]?=M[k]?)->Q (.ref m) M'):wO (F_law_turn [.ref n,.int c] M) Q E:=
 Zl1 h hs hb hl fun ss m M' _ a b c d e f=>q ss m M' a b c d e f
theorem Zc5 {w a b:Pt}{p q:Int}(h1:X a w=p)(h2:X w b=q):in1 w a b=if 0<=p/\0 < q then 1 else 0:=by unfold in1;rw[h1,h2]
theorem Zc6 {w a b:Pt}{p q:Int}(h1:X a w=p)(h2:X w b=q):in2 w a b=if 0 < p/\0<=q then 1 else 0:=by unfold in2;rw[h1,h2]
theorem Zue:Fan [(1,0),(0,1),(-1,-1)]:=by
 rintro ⟨x,y⟩ hw
 have hw': ¬ (x=0/\y=0):=fun z=>hw (by rw[z.1,z.2])
 have a1:X (1,0) (x,y)=y:=by simp[X]
 have a2:X (0,1) (x,y)= -x:=by simp[X]
 have a3:X (-1,-1) (x,y)=x - y:=by simp[X];omega
 have b1:X (x,y) (0,1)=x:=by simp[X]
 have b2:X (x,y) (-1,-1)=y - x:=by simp[X];omega
 have b3:X (x,y) (1,0)= -y:=by simp[X]
 simp only[cyc,List.take_succ_cons,List.take_zero,List.cons_append,List.nil_append,cc];rw[Zc5 a1 b1,Zc5 a2 b2,Zc5 a3 b3,Zc6 a1 b1,Zc6 a2 b2,Zc6 a3 b3];clear a1 a2 a3 b1 b2 b3 hw
 constructor
 all_goals
  repeat' split
  all_goals omega
theorem Zuf (f:Int):Fan [(1,0),(0,1),(-1,f),(0,-1)]:=by
 rintro ⟨x,y⟩ hw
 have hw': ¬ (x=0/\y=0):=fun z=>hw (by rw[z.1,z.2])
 have h0:x=0->x * f=0:=fun z=>by rw[z,Int.zero_mul]
 have a1:X (1,0) (x,y)=y:=by simp[X]
 have a2:X (0,1) (x,y)= -x:=by simp[X]
 have a3:X (-1,f) (x,y)= -y - x * f:=by unfold X;simp only;grind
 have a4:X (0,-1) (x,y)=x:=by simp[X]
 have b1:X (x,y) (0,1)=x:=by simp[X]
 have b2:X (x,y) (-1,f)=x * f + y:=by unfold X;simp only;grind
 have b3:X (x,y) (0,-1)= -x:=by simp[X]
 have b4:X (x,y) (1,0)= -y:=by simp[X]
 simp only[cyc,List.take_succ_cons,List.take_zero,List.cons_append,List.nil_append,cc];rw[Zc5 a1 b1,Zc5 a2 b2,Zc5 a3 b3,Zc5 a4 b4,Zc6 a1 b1,Zc6 a2 b2,Zc6 a3 b3,Zc6 a4 b4];clear a1 a2 a3 a4 b1 b2 b3 b4 hw;generalize x * f=z at *
 constructor
 all_goals
  repeat' split
  all_goals omega
theorem Zug:Smo [(1,0),(0,1),(-1,-1)]:=by
 refine ⟨by decide,Zc0 (P:=fun a b=>X a b=1) (by decide) ?_,Zue⟩
 intro i h0 h1
 have:i=0\/i=1\/i=2:=by simp at h1;omega
 rcases this with rfl | rfl | rfl<;>rfl
theorem Zuh (f:Int):Smo [(1,0),(0,1),(-1,f),(0,-1)]:=by
 refine ⟨by simp,Zc0 (P:=fun a b=>X a b=1) (by simp) ?_,Zuf f⟩
 intro i h0 h1
 have:i=0\/i=1\/i=2\/i=3:=by simp at h1;omega
 rcases this with rfl | rfl | rfl | rfl<;>simp[X,cy]
theorem Zf3 {c t:Int}(hc:0<=c)(ht:3<=t/\t<=1000)(q: ∀ ss m M',Smo ss->Nr 200 ss->ss.length<=t->M'[m]?=some (.lst (prs ss))->M.length<=M'.length->(∀ k,k < M.length->M'[k]?=M[k]?)->Q (.ref m) M'):wO (F_law_smooth [.int c,.int t] M) Q E:=by
 simp![F_law_smooth,Zby];have r0:=Int.emod_nonneg c (show t - 2≠0 by omega)
 have r1:=Int.emod_lt_of_pos c (show 0 < t - 2 by omega)
 have d0:0<=c / (t - 2):=Int.ediv_nonneg hc (by omega)
 generalize c % (t - 2)=r at *;generalize c / (t - 2)=c1 at *;refine ZoG (fun k M'=>M'=(M ++ [SO.lst [D.tup [D.int 1,D.int 0],D.tup [D.int 0,D.int 1],D.tup [D.int (-1),D.int (-1)]]])/\(k=true->3 < 3 + r)) ?_ ?_
 ·refine brO (fun h=> ?_) (fun h=> ?_)
  ·simp![Zj]
   exact fun _=>h
  ·simp![Zj]
   exact fun z=>by cases z
 rintro k _ ⟨rfl,hk⟩
 simp![Zj];refine Zmr (fun ρ M'=> ∃ ss m x4,ρ=[some (D.int c1),some (D.int t),some (D.int (3 + r)),some (D.ref m),x4,none,none,none,none,none]/\Smo ss/\Nr 200 ss/\(ss.length:Int)<=3 + r/\M'[m]?=some (.lst (prs ss))/\M.length<=M'.length/\(∀ k,k < M.length->M'[k]?=M[k]?)) ?_ ?_
 ·refine Zq7 (fun h=> ?_) (fun h=> ?_)
  ·have h3:=hk h
   simp![Zj];obtain ⟨z,hz,z0⟩: ∃ z:Int,c1 / 512 % 4=z/\(z=0\/z=1\/z=2\/z=3):=⟨_,rfl,by omega⟩
   rw[hz];obtain ⟨f,hf,f0⟩: ∃ f:Int,atI [D.int 3,D.int 4,D.int 6,D.int 40] z=some (.int f)/\(0 < f/\f<=40):=by
    rcases z0 with rfl | rfl | rfl | rfl
    ·exact ⟨3,rfl,by decide,by decide⟩
    ·exact ⟨4,rfl,by decide,by decide⟩
    ·exact ⟨6,rfl,by decide,by decide⟩
    ·exact ⟨40,rfl,by decide,by decide⟩
   simp![hf];have g0:=Int.emod_nonneg (c1 / 4) (show f≠0 by omega)
   have g1:=Int.emod_lt_of_pos (c1 / 4) (show 0 < f by omega)
   generalize c1 / 4 % f=far at *;refine ⟨[(1,0),(0,1),(-1,far),(0,-1)],_,_,rfl,Zuh far,?_,by simp;omega,?_,by omega,?_⟩
   ·intro p hp
    simp at hp
    rcases hp with rfl | rfl | rfl | rfl<;>simp<;>omega
   ·rw[ZeE]
    rfl
   ·intro k hk
    rw[ZbQ hk]
  ·simp![Zj]
   refine ⟨[(1,0),(0,1),(-1,-1)],_,_,rfl,Zug,?_,by simp;omega,?_,by omega,?_⟩
   ·intro p hp
    simp at hp
    rcases hp with rfl | rfl | rfl<;>simp
   ·rw[Zgy]
    rfl
   ·intro k hk
    rw[ZbQ hk]
 rintro _ M1 ⟨ss,m,x4,rfl,s1,s2,s3,s4,s5,s6⟩
 have hl3:=s1.len
 simp![s4];refine ⟨by omega,?_⟩
 refine ZcY (fun i ρ M'=> ∃ tt m c x4 x5 x6 x7 x8 x9,ρ=[some (D.int c),some (D.int t),some (D.int (3 + r)),some (D.ref m),x4,x5,x6,x7,x8,x9]/\0<=c/\Smo tt/\Nr 200 tt/\tt.length<=ss.length + i/\M'[m]?=some (.lst (prs tt))/\M.length<=M'.length/\(∀ k,k < M.length->M'[k]?=M[k]?)) ?_ ?_ ?_
 ·exact ⟨ss,m,_,_,_,_,_,_,_,rfl,by omega,s1,s2,by omega,s4,s5,s6⟩
 ·rintro i ρ M2 hi ⟨tt,m,c,x4,x5,x6,x7,x8,x9,rfl,c0,t1,t2,t3,t4,t5,t6⟩
  have tl:=t1.len
  have hm:=ZJ t4
  simp![ZaY,t4];obtain ⟨a,ha,a0⟩: ∃ a:Nat,c % (tt.length:Int)=a/\a < tt.length:=by
   have:=ZaW (i:=c) (m:=tt.length) (by omega)
   exact ⟨(c % (tt.length:Int)).toNat,by omega,this.1⟩
  rw[ha];have e1:=ZaW (i:=(a:Int) + 1) (m:=tt.length) (by omega)
  simp![t4,ZbO,Zcs];have b1:=Nr.cy t2 t1.ne a
  have b2:=Nr.cy t2 t1.ne (a + 1)
  have sm:=t1.ins a0
  have nr:=fun h=>Nr.ins (k:=a) (p:=((cy tt a).1 + (cy tt (a + 1)).1,(cy tt a).2 + (cy tt (a + 1)).2)) t2 h
  generalize hx:(cy tt a).1 + (cy tt (a + 1)).1=x at *;generalize hy:(cy tt a).2 + (cy tt (a + 1)).2=y at *;refine ZoG (fun k M'=>M'=M2/\(k=true->(-200<=x/\x<=200)/\ -200<=y/\y<=200)) ?_ ?_
  ·refine brO (fun h=> ?_) (fun h=> ?_)
   ·simp![Zj]
    intro h2
    have:=of_decide_eq_true h2
    omega
   ·simp![Zj]
    exact fun z=>by cases z
  rintro k M2 ⟨rfl,hk⟩
  simp![Zj];refine Zq7 (fun h=> ?_) (fun h=> ?_)
  ·have le:((a:Int) + 1).toNat=a + 1:=by omega
   simp![t4,le,ZdR,ZdS];refine ⟨by rw[List.length_take];omega,by rw[List.length_take,List.length_drop];omega,ins tt a (x,y),_,_,_,_,_,_,_,_,rfl,by omega,sm,nr (hk h),by rw[Zfd a0];omega,?_,by omega,?_⟩
   ·rw[ZeE]
    rfl
   ·intro k hk
    rw[ZbQ (by omega)]
    exact t6 k hk
  ·simp![Zj]
   exact ⟨tt,_,_,_,_,_,_,_,_,rfl,by omega,t1,t2,by omega,t4,t5,t6⟩
 ·rintro ρ M2 ⟨tt,m,c,x4,x5,x6,x7,x8,x9,rfl,c0,t1,t2,t3,t4,t5,t6⟩
  simp![Zj];refine Zo5 t4 t1 t2 (by omega) ?_
  intro uu m' M3 u1 u2 u3 u4 u5 u6;have ul:=u1.len
  have hm':=ZJ u4
  simp![u4];obtain ⟨a,ha,a0⟩: ∃ a:Nat,c / 1000000000000 % (uu.length:Int)=a/\a < uu.length:=by
   have:=ZaW (i:=c / 1000000000000) (m:=uu.length) (by omega)
   exact ⟨(c / 1000000000000 % (uu.length:Int)).toNat,by omega,this.1⟩
  rw[ha];have le:(a:Int).toNat=a:=by omega
  simp![u4,le,ZdR,ZdS,ZdQ];refine ⟨by rw[List.length_take,List.length_drop];omega,?_⟩
  refine q (uu.drop a ++ uu.take a) _ _ (u1.rot (by omega)) (Nr.rot u2) (by rw[List.length_append,List.length_take,List.length_drop];omega) (by rw[ZeE];rfl) (by rw[List.length_append];omega) (fun k hk=> ?_)
  rw[ZbQ (by omega),u6 k (by omega),t6 k hk]
end
end CC
end
section
namespace DL
noncomputable def T (rs:List Pt)(i:Int):Int:=0 - X (cy rs (i - 1)) (cy rs (i + 1))
noncomputable def Zbb (rs:List Pt):List Int:=(List.range rs.length).map fun (i:Nat)=>T rs i
section
variable {rs:List Pt}{k:Nat}{p:Pt}{j:Int}
theorem ZaC:(Zbb rs).length=rs.length:=by simp[Zbb]
end
end DL
namespace CC
open PySem PySem.Spec L2 DL
section
variable {Q:D->Sto->Prop}{E:Str->Sto->Prop}{M:Sto}{a b c d i:Int}{n:Nat}{rs:List Pt}
theorem ZkE (h:M[n]?=some (.lst (prs rs)))(hn:0 < rs.length)(hl:rs.length<=1000)(hb:Nr 18446744073709551615 rs)(q:Q (.ref M.length) (M ++ [.lst (nts (Zbb rs))])):wO (F_law_tags [.ref n] M) Q E:=by
 have ne:rs≠[]:=by intro z;rw[z] at hn;simp at hn
 have hm:=ZJ h
 simp![F_law_tags,Zci,h];refine ⟨by omega,?_⟩
 rw[show ((rs.length:Int)).toNat=rs.length by omega]
 refine ZsN (fun ρ=> ∃ x,ρ=[x,some (.ref n),some (.int rs.length)]) (fun (i:Nat)=> .int (T rs i)) (by omega) ⟨_,rfl⟩ ?_ (by rw[Zfa];exact q)
 rintro i hi ρ L ⟨x,rfl⟩
 have e1:=ZaW (i:=(i:Int) + 1) (m:=rs.length) (by omega)
 have b1:=Nr.big hb (by decide) ne (i - 1)
 simp![h,ZbO,Zcs,ZbA];exact ⟨⟨_,rfl⟩,rfl⟩
end
end CC
end
section
namespace DL
noncomputable def del (rs:List Pt)(k:Nat):List Pt:=rs.take k ++ rs.drop (k + 1)
section
variable {rs:List Pt}{k:Nat}{p:Pt}{j:Int}
theorem nbr (hs:Smo rs)(i:Int):(cy rs (i - 1)).1 + (cy rs (i + 1)).1=0 - T rs i * (cy rs i).1/\(cy rs (i - 1)).2 + (cy rs (i + 1)).2=0 - T rs i * (cy rs i).2:=by
 have o1:=hs.one (i - 1)
 have o2:=hs.one i
 rw[show i - 1 + 1=i by omega] at o1
 unfold T X at *
 constructor<;>grind
theorem Zo6 (p q:Pt):X p q=0 - X q p:=by unfold X;grind
theorem Zl2 (hs:Smo rs)(i:Int):(cy rs i=((cy rs (i - 1)).1 + (cy rs (i + 1)).1,(cy rs (i - 1)).2 + (cy rs (i + 1)).2)) ↔ T rs i= -1:=by
 obtain ⟨n1,n2⟩:=nbr hs i
 rw[n1,n2];have o2:=hs.one i
 constructor
 ·intro e
  generalize cy rs i=v at *;generalize cy rs (i + 1)=w at *;obtain ⟨v1,v2⟩:=v
  obtain ⟨w1,w2⟩:=w
  simp only[Prod.mk.injEq,X] at *;obtain ⟨e1,e2⟩:=e
  have:(T rs i + 1) * (v1 * w2 - v2 * w1)=0:=by grind
  rw[o2] at this;omega
 ·intro e
  rw[e]
  apply Prod.ext<;>simp
theorem Zc7 (hk:k < rs.length):(del rs k).length=rs.length - 1:=by simp[del];omega
theorem Zdq (hk:k < rs.length)(h0:0<=j)(h1:j < rs.length - 1):cy (del rs k) j=if j < k then cy rs j else cy rs (j + 1):=by
 have hL:=Zc7 hk
 rw[ZbJ (by rw[hL];omega)]
 unfold del;rw[List.getD_eq_getElem?_getD]
 by_cases c1:j < k
 ·rw[if_pos c1,ZbJ (by omega),List.getD_eq_getElem?_getD,List.getElem?_append_left (by simp;omega),List.getElem?_take_of_lt (by omega)]
 ·have hl:(rs.take k).length=k:=by simp;omega
  rw[if_neg c1,ZbJ (by omega),List.getD_eq_getElem?_getD,List.getElem?_append_right (by rw[hl];omega),hl,List.getElem?_drop]
  congr 2
  omega
theorem Zfe (hk:k < rs.length)(hn:3<=rs.length)(hj:j=rs.length - 1):cy (del rs k) j=if k=0 then cy rs (rs.length + 1) else cy rs rs.length:=by
 have hL:=Zc7 hk
 have e:=Zdo (rs:=del rs k) (i:=j)
 rw[hL] at e;rw[<- e,show j - ((rs.length - 1:Nat):Int)=0 by omega,Zdq hk (by omega) (by omega)]
 by_cases c:k=0
 ·rw[if_neg (by omega),if_pos c,<- Zct (rs:=rs) (i:=0 + 1)]
  exact congrArg _ (by omega)
 ·rw[if_pos (by omega),if_neg c,<- Zct (rs:=rs) (i:=0)]
  exact congrArg _ (by omega)
end
end DL
end
section
namespace DL
noncomputable def nm (p:Pt):Int:=p.1 * p.1 + p.2 * p.2
end DL
namespace DL
section
variable {rs:List Pt}{k:Nat}
theorem ZiI {f:Pt->Pt->Nat}{a b p:Pt}{L R Y:List Pt}(e:R ++ L=b :: (Y ++ [a]))(hf:f a b=f a p + f p b):cyc f (L ++ R)=cyc f (L ++ p :: R):=by
 rw[Zch L R,e,Zch L,List.cons_append,e];simp only[Zb3,List.cons_append,cc];have e1:b :: (Y ++ [a] ++ [p])=(b :: Y) ++ a :: [p]:=by simp
 have e2:b :: (Y ++ [a] ++ [b])=(b :: Y) ++ a :: [b]:=by simp
 rw[e1,e2,Zc1 (b :: Y) a [p],Zc1 (b :: Y) a [b]];simp only[cc];omega
theorem Smo.del (h:Smo rs)(hk:k < rs.length)(h4:4<=rs.length)(ht:T rs k= -1):Smo (del rs k):=by
 have hL:=Zc7 hk
 have sm:=(Zl2 h k).mpr ht
 refine ⟨by omega,?_,?_⟩
 ·refine Zc0 (P:=fun a b=>X a b=1) (by omega) ?_
  intro j h0 h1;rw[hL] at h1;have xk:X (cy rs (k - 1)) (cy rs (k + 1))=1:=by unfold T at ht;omega
  rw[Zdq hk h0 (by omega)]
  by_cases c:j + 1 < rs.length - 1
  ·rw[Zdq hk (by omega) (by omega)]
   by_cases c1:j + 1 < k
   ·rw[if_pos (by omega),if_pos c1];exact h.one j
   ·by_cases c2:j + 1=k
    ·rw[if_pos (by omega),if_neg c1,show j=(k:Int) - 1 by omega,show (k:Int) - 1 + 1 + 1=k + 1 by omega]
     exact xk
    ·rw[if_neg (by omega),if_neg c1];exact h.one (j + 1)
  ·have jE:j + 1=rs.length - 1:=by omega
   rw[Zfe hk (by omega) jE]
   by_cases c0:k=0
   ·subst c0
    rw[if_neg (by omega),if_pos rfl,show j + 1=((0:Nat):Int) - 1 + rs.length by omega,Zct,show (rs.length:Int) + 1=((0:Nat):Int) + 1 + rs.length by omega,Zct]
    exact xk
   ·rw[if_neg c0]
    by_cases c2:j + 1=k
    ·rw[if_pos (by omega),show j=(k:Int) - 1 by omega,show (rs.length:Int)=k + 1 by omega]
     exact xk
    ·rw[if_neg (by omega),show j + 1=(rs.length:Int) - 1 by omega]
     have:=h.one (rs.length - 1)
     rw[show (rs.length:Int) - 1 + 1=rs.length by omega] at this
     exact this
 ·intro w hw
  obtain ⟨L,p,R,e,hl⟩: ∃ L a R,rs=L ++ a :: R/\L.length=k:=⟨rs.take k,rs[k],rs.drop (k + 1),by rw[List.getElem_cons_drop,List.take_append_drop],by simp;omega⟩
  have ed:DL.del rs k=L ++ R:=by
   unfold DL.del;rw[e,<- hl,List.take_append,List.drop_append,List.take_of_length_le (by omega),List.drop_eq_nil_of_le (by omega)]
   simp
  have lr:(R ++ L).length=rs.length - 1:=by rw[e];simp;omega
  obtain ⟨b,Y,a,hY⟩: ∃ b Y a,R ++ L=b :: (Y ++ [a]):=by
   match hRL:R ++ L,lr with
   | [],lr=>simp at lr;omega
   |b :: r,lr=>
    have:r≠[]:=by intro z;rw[z] at lr;simp at lr;omega
    exact ⟨b,r.dropLast,r.getLast this,by rw[List.dropLast_concat_getLast]⟩
  have hr:=h.rot (k:=k) (by omega)
  have er:rs.drop k ++ rs.take k=p :: (R ++ L):=by
   rw[e,<- hl,List.take_append,List.drop_append,List.take_of_length_le (by omega),List.drop_eq_nil_of_le (by omega)]
   simp
  have c0:cy rs k=p:=by rw[e,<- hl];exact ZjR
  have cb:cy rs (k + 1)=b:=by
   have:=Zf2 (rs:=rs) (k:=k) (i:=1) (by omega)
   rw[er,hY] at this;rw[show (k:Int) + 1=1 + k by omega,<- this]
   exact Zo2 (L:=[]) (a:=p) (b:=b)
  have ca:cy rs (k - 1)=a:=by
   have:=Zf2 (rs:=rs) (k:=k) (i:= -1) (by omega)
   rw[er,hY] at this;rw[show (k:Int) - 1= -1 + k by omega,<- this,<- Zct]
   have:=ZjR (L:=p :: b :: Y) (a:=a) (R:=[])
   rw[show (-1:Int) + ((p :: b :: (Y ++ [a])).length:Nat)=((p :: b :: Y).length:Nat) by simp;omega]
   simpa using this
  rw[c0,ca,cb] at sm;rw[ed,ZiI (p:=p) hY (by rw[sm];exact ZiD),ZiI (p:=p) hY (by rw[sm];exact ZiE),<- e]
  exact h.fan w hw
end
end DL
end
section
namespace CE
open PySem PySem.Spec L2 DL
noncomputable def Za9:Sv:=(ZM (e2 dSub (e2 dMul (e2 dIx (Zg 0) (eC (.int 0))) (e2 dIx (Zg 1) (eC (.int 1)))) (e2 dMul (e2 dIx (Zg 0) (eC (.int 1))) (e2 dIx (Zg 1) (eC (.int 0))))))
noncomputable def F_crossed:List D->Sto->Out D:=fnF Za9 2 0
noncomputable def ZaX:Sv:=(ZM (e2 dIx (Zg 0) (e2 dMod (e2 dAdd (Zg 1) (eC (.int 1))) (Zl bLen (Zc (Zg 0) aNil)))))
noncomputable def F_following:List D->Sto->Out D:=fnF ZaX 2 0
noncomputable def ZW:Sv:=(sIf (tv (e2 dNe (Zl F_crossed (Zc (Zg 2) (Zc (Zl F_following (Zc (Zg 0) (Zc (Zg 1) aNil))) aNil))) (eC (.int 1)))) (ZM (Zg 1)) sNil)
noncomputable def Zau:Sv:=(Zz (ZdF (gTp (gCs (gNm 1) (gCs (gNm 2) gNl))) (iEn (Zc (Zg 0) aNil)) ZW)
 (ZM (eC .non)))
noncomputable def F_unspanned:List D->Sto->Out D:=fnF Zau 1 2
noncomputable def ZaB:Sv:=(Zz (ZN (gNm 1) (Zl F_unspanned (Zc (Zg 0) aNil)))
 (sIf (tv (e2 dIsNot (Zg 1) (eC .non))) (ZbW (PySem.Str.ofString "NotSmooth") (Zc (eFs (ZbY (eC (.str (PySem.Str.ofString "ray "))) (ZbY (eFm (Zg 1)) (ZbY (eC (.str (PySem.Str.ofString " does not cross the next one in 1"))) jNil)))) aNil)) sNil))
noncomputable def F_ask_smooth:List D->Sto->Out D:=fnF ZaB 1 1
noncomputable def Zc8:Sv:=(Zz (ZcC (Zl F_ask_smooth (Zc (Zg 0) aNil)))
 (ZM (ZaQ (iR1 (Zc (Zl bLen (Zc (Zg 0) aNil)) aNil)) 1 [0] (gNm 0) (fun _ M=> .ok true M) (Zl F_crossed (Zc (Zl F_following (Zc (Zg 1) (Zc (Zg 0) aNil))) (Zc (e2 dIx (Zg 1) (e2 dSub (Zg 0) (eC (.int 1)))) aNil))))))
noncomputable def F_numbers:List D->Sto->Out D:=fnF Zc8 1 0
noncomputable def Zae:Sv:=(sIf (Zcd (tv (e2 dLt (Zg 1) (eC (.int 0)))) (tv (e2 dGe (Zg 1) (Zl bLen (Zc (Zg 0) aNil))))) (ZbW (PySem.Str.ofString "NoPlace") (Zc (eFs (ZbY (eC (.str (PySem.Str.ofString "a place is from 0 to "))) (ZbY (eFm (e2 dSub (Zl bLen (Zc (Zg 0) aNil)) (eC (.int 1)))) jNil))) aNil)) sNil)
noncomputable def F_ask_place:List D->Sto->Out D:=fnF Zae 2 0
noncomputable def Za0:Sv:=(Zz (ZN (gNm 2) (Zl F_numbers (Zc (Zg 0) aNil)))
 (Zz (ZcC (Zl F_ask_place (Zc (Zg 0) (Zc (Zg 1) aNil))))
 (Zz (sIf (Zcd (tv (e2 dNe (e2 dIx (Zg 2) (Zg 1)) (ZeW (eC (.int 1))))) (tv (e2 dLt (Zl bLen (Zc (Zg 0) aNil)) (eC (.int 4))))) (ZbW (PySem.Str.ofString "NoMinus") (Zc (eC (.str (PySem.Str.ofString "a ray of number -1 is taken out, of four rays or more"))) aNil)) sNil)
 (ZM (e2 dAdd (eSl (Zg 0) oNo (oSo (Zg 1))) (eSl (Zg 0) (oSo (e2 dAdd (Zg 1) (eC (.int 1)))) oNo))))))
noncomputable def F_taken_out:List D->Sto->Out D:=fnF Za0 2 1
end CE
end
section
namespace CE
open PySem PySem.Spec L2 DL
theorem ZiJ:F_crossed=CC.F_crossed:=rfl
theorem Zff:F_following=CC.F_following:=rfl
theorem ZeM:F_ask_smooth=CC.F_ask_smooth:=rfl
section
variable {Q:D->Sto->Prop}{E:Str->Sto->Prop}{M:Sto}{a b c d i:Int}{n:Nat}{rs:List Pt}
theorem Zc9 (h:M[n]?=some (.lst (prs rs)))(hs:Smo rs)(hl:rs.length<=1000000)(hb:Nr 18446744073709551615 rs)(q:Q (.ref M.length) (M ++ [.lst (nts (Zbb rs))])):wO (F_numbers [.ref n] M) Q E:=by
 have hm:=ZJ h
 have hn:=hs.len
 simp![F_numbers,Zc8,ZeM];refine CC.ZeK h hs hb ?_
 simp![h];refine ⟨by omega,?_⟩
 rw[show ((rs.length:Int)).toNat=rs.length by omega]
 refine ZsN (fun ρ=> ∃ x,ρ=[x,some (.ref n)]) (fun (i:Nat)=> .int (T rs i)) (by omega) ⟨_,rfl⟩ ?_ (by rw[Zfa];exact q)
 rintro i hi ρ L ⟨x,rfl⟩
 have b1:=CC.Nr.big hb (by decide) hs.ne (i + 1)
 have hL:(M ++ L)[n]?=some (.lst (prs rs)):=by rw[ZbQ hm];exact h
 simp![Zff,ZiJ,CC.ZaZ hL,h,ZbO,CC.Zbz];refine ⟨⟨_,rfl⟩,?_⟩
 unfold T;rw[<- Zo6];rfl
theorem Zfg {k:Nat}(h:M[n]?=some (.lst (prs rs)))(hs:Smo rs)(hb:Nr 18446744073709551615 rs)(hk:k < rs.length)(hl:rs.length<=1000)(h4:4<=rs.length)(ht:T rs k= -1)(q: ∀ m M',M.length<=m->M'[m]?=some (.lst (prs (del rs k)))->M.length<=M'.length->(∀ k,k < M.length->M'[k]?=M[k]?)->Q (.ref m) M'):wO (F_taken_out [.ref n,.int k] M) Q E:=by
 have hm:=ZJ h
 simp![F_taken_out,Za0];refine Zc9 h hs (by omega) hb ?_
 have ct:cn (Zbb rs) k= -1:=by rw[Zf0 (by rw[ZaC];exact hk),<- ht];simp[Zbb]
 have tl:=ZaC (rs:=rs)
 simp![F_ask_place,Zae,h,ZfZ,tl,ct];have le:((k:Int) + 1).toNat=k + 1:=by omega
 have le2:(k:Int).toNat=k:=by omega
 simp![h,le,le2];refine ⟨by rw[List.length_take,List.length_drop];omega,?_⟩
 exact q _ _ (by omega) (by rw[ZeE];rfl) (by rw[List.length_append];omega) (fun k hk=>by rw[ZbQ hk])
theorem Zfh {k:Nat}(h:M[n]?=some (.lst (prs rs)))(hs:Smo rs)(hb:Nr 18446744073709551615 rs)(hk:k < rs.length)(hl:rs.length<=1000)(ht:T rs k≠ -1\/rs.length < 4)(q:E (PySem.Str.ofString "NoMinus") (M ++ [.lst (nts (Zbb rs))])):wO (F_taken_out [.ref n,.int k] M) Q E:=by
 have hm:=ZJ h
 simp![F_taken_out,Za0];refine Zc9 h hs (by omega) hb ?_
 have ct:cn (Zbb rs) k=T rs k:=by rw[Zf0 (by rw[ZaC];exact hk)];simp[Zbb]
 have tl:=ZaC (rs:=rs)
 simp![F_ask_place,Zae,h,ZfZ,tl,ct];refine ZoG (fun b M'=>b=true/\M'=(M ++ [.lst (nts (Zbb rs))])) ?_ ?_
 ·refine Zr6 (fun z=> ?_) (fun z=> ?_)
  ·simp![Zj]
  ·simp![h]
 ·rintro b _ ⟨rfl,rfl⟩
  simp![Zj];exact q
end
end CE
end
section
namespace CF
open PySem PySem.Spec L2 DL CC
noncomputable def Za5:Sv:=(Zz (ZN (gNm 4) (e2 dAdd (eSl (Zg 1) oNo (oSo (Zg 3))) (eSl (Zg 1) (oSo (e2 dAdd (Zg 3) (eC (.int 1)))) oNo)))
 (Zz (ZN (gNm 5) (Zl F_law_cross (Zc (e2 dIx (Zg 1) (e2 dSub (Zg 3) (eC (.int 1)))) (Zc (e2 dIx (Zg 1) (e2 dMod (e2 dAdd (Zg 3) (eC (.int 1))) (Zg 2))) aNil))))
 (sIf (ZbG (tv (e2 dGt (Zg 2) (eC (.int 3)))) (tv (e2 dGt (Zg 5) (eC (.int 1))))) (ZM (Zg 4)) sNil)))
noncomputable def ZbR:Sv:=(Zz (ZN (gNm 1) (Zl F_law_smooth (Zc (e2 dDiv (Zg 0) (eC (.int 3))) (Zc (eC (.int 9)) aNil))))
 (Zz (ZN (gNm 2) (Zl bLen (Zc (Zg 1) aNil)))
 (Zz (sIf (tv (e2 dGt (e2 dMod (Zg 0) (eC (.int 3))) (eC (.int 0)))) (ZbM (gNm 3) (Zc (Zg 2) aNil) Za5) sNil)
 (ZM (ZcJ (Zc (Z1 (Zc (eC (.int 1)) (Zc (eC (.int 0)) aNil))) (Zc (Z1 (Zc (eC (.int 0)) (Zc (eC (.int 1)) aNil))) (Zc (Z1 (Zc (e2 dSub (ZeW (eC (.int 1))) (e2 dMod (e2 dDiv (Zg 0) (eC (.int 3))) (eC (.int 5)))) (Zc (e2 dSub (ZeW (eC (.int 2))) (e2 dMod (e2 dDiv (Zg 0) (eC (.int 3))) (eC (.int 5)))) aNil))) aNil))))))))
noncomputable def F_law_rough:List D->Sto->Out D:=fnF ZbR 1 5
end CF
end
section
namespace CF
open PySem PySem.Spec L2 DL
section
variable {Q:D->Sto->Prop}{E:Str->Sto->Prop}{M:Sto}{a b c d i:Int}{n:Nat}{rs:List Pt}
noncomputable def Rgh (rs:List Pt):Prop:= ∃ i:Nat,i < rs.length/\X (cy rs i) (cy rs (i + 1))≠1
theorem Rgh.ne (h:Rgh rs):rs≠[]:=by
 obtain ⟨i,hi,_⟩:=h
 intro z;rw[z] at hi
 simp at hi
theorem Zfi (h:M[n]?=some (.lst (prs rs)))(hs:Rgh rs)(hb:Nr 18446744073709551615 rs)(k: ∀ j:Nat,j < rs.length->Q (.int j) M):wO (CC.F_unspanned [.ref n] M) Q E:=by
 simp![CC.F_unspanned,CC.Zau];refine ZeF (fun i ρ M'=>M'=M/\(∃ x y,ρ=[some (.ref n),x,y])/\ ∀ j:Nat,j < i->X (cy rs j) (cy rs (j + 1))=1) h ⟨rfl,⟨_,_,rfl⟩,by intro j hj;omega⟩ (fun i ρ M' hI=>by rw[hI.1];exact h) ?_ ?_
 ·rintro i ρ M hi ⟨rfl,⟨x,y,rfl⟩,hj⟩
  have b1:=CC.Nr.big hb (by decide) hs.ne i
  have hi':i < rs.length:=by rw[ZB] at hi;exact hi
  rw[CC.Z7];simp![CC.ZW,CC.ZaZ h,CC.Zbz];refine Zmq (fun z=> ?_) (fun z=> ?_)
  ·simp![Zj]
   exact k i hi'
  ·simp![Zj]
   refine ⟨⟨_,_,rfl⟩,fun j hj'=> ?_⟩
   by_cases c:j=i
   ·subst c;exact z
   ·exact hj j (by omega)
 ·rintro ρ M ⟨rfl,⟨x,y,rfl⟩,hj⟩
  obtain ⟨i,hi,hx⟩:=hs
  exact absurd (hj i (by rw[ZB];exact hi)) hx
theorem Zl3 {k:Nat}(hs:Smo rs)(hk:k < rs.length)(h4:3 < rs.length)(hx:X (cy rs (k - 1)) (cy rs (k + 1)) > 1):Rgh (del rs k):=by
 have dL:=Zc7 hk
 by_cases c:k=0
 ·subst c
  refine ⟨rs.length - 2,by omega,?_⟩
  have e1:cy (del rs 0) ((rs.length - 2:Nat):Int)=cy rs ((0:Nat) - 1:Int):=by
   rw[Zdq hk (by omega) (by omega),if_neg (by omega),<- Zct (rs:=rs) (i:=((0:Nat) - 1:Int))]
   exact congrArg _ (by omega)
  have e2:cy (del rs 0) (((rs.length - 2:Nat):Int) + 1)=cy rs ((0:Nat) + 1:Int):=by
   rw[Zfe hk (by omega) (by omega),if_pos rfl,<- Zct (rs:=rs) (i:=((0:Nat) + 1:Int))]
   exact congrArg _ (by omega)
  rw[e1,e2];omega
 ·refine ⟨k - 1,by omega,?_⟩
  have e1:cy (del rs k) ((k - 1:Nat):Int)=cy rs ((k:Int) - 1):=by
   rw[Zdq hk (by omega) (by omega),if_pos (by omega)]
   exact congrArg _ (by omega)
  have e2:cy (del rs k) (((k - 1:Nat):Int) + 1)=cy rs ((k:Int) + 1):=by
   by_cases c2:k=rs.length - 1
   ·rw[Zfe hk (by omega) (by omega),if_neg c]
    exact congrArg _ (by omega)
   ·rw[Zdq hk (by omega) (by omega),if_neg (by omega)]
    exact congrArg _ (by omega)
  rw[e1,e2];omega
theorem Nr.del {b:Int}{k:Nat}(h:Nr b rs):Nr b (del rs k):=fun p hp=>h p (by
 rcases List.mem_append.mp hp with z | z
 ·exact List.mem_of_mem_take z
 ·exact List.mem_of_mem_drop z)
theorem Zl4 {c:Int}(hc:0<=c)(q: ∀ ss m M',M.length<=m->Rgh ss->Nr 200 ss->3<=ss.length->ss.length<=14->M'[m]?=some (.lst (prs ss))->M.length<=M'.length->(∀ k,k < M.length->M'[k]?=M[k]?)->Q (.ref m) M'):wO (F_law_rough [.int c] M) Q E:=by
 simp![F_law_rough,ZbR];refine CC.Zf3 (by omega) (by decide) ?_
 intro ss m M1 s1 s2 s3 s4 s5 s6;have hm:=ZJ s4
 have sl:=s1.len
 simp![s4];refine Zmr (fun ρ M'=>(∃ x1 x2 x3 x4 x5,ρ=[some (.int c),x1,x2,x3,x4,x5])/\M.length<=M'.length/\(∀ k,k < M.length->M'[k]?=M[k]?)) ?_ ?_
 ·refine brS (fun z=> ?_) (fun z=> ?_)
  ·simp![Zj]
   refine ⟨by omega,?_⟩
   rw[show ((ss.length:Int)).toNat=ss.length by omega]
   refine ZcY (fun i ρ M'=>(∃ x1 x2 x3,ρ=[some (.int c),some (.ref m),some (.int ss.length),x1,x2,x3])/\M'[m]?=some (.lst (prs ss))/\M.length<=M'.length/\(∀ k,k < M.length->M'[k]?=M[k]?)) ⟨⟨_,_,_,rfl⟩,s4,s5,s6⟩ ?_ ?_
   ·rintro k ρ M2 hk ⟨⟨x1,x2,x3,rfl⟩,t4,t5,t6⟩
    have hm:=ZJ t4
    rw[show (0:Int) + (k:Int)=k by omega]
    have e1:=ZaW (i:=(k:Int) + 1) (m:=ss.length) (by omega)
    have b1:=Nr.cy s2 s1.ne ((k:Int) - 1)
    have le:((k:Int) + 1).toNat=k + 1:=by omega
    have le2:(k:Int).toNat=k:=by omega
    simp![Za5,t4,le,le2,ZbO,Zcs,CC.ZbA];refine ⟨by rw[List.length_take,List.length_drop];omega,?_⟩
    refine ZoG (fun b M'=>M'=M2 ++ [.lst (prs (ss.take k)),.lst (prs (ss.drop (k + 1))),.lst (prs (ss.take k ++ ss.drop (k + 1)))]/\(b=true->3 < ss.length/\X (cy ss (k - 1)) (cy ss (k + 1)) > 1)) ?_ ?_
    ·refine brO (fun z=> ?_) (fun z=> ?_)
     ·simp![Zj]
      exact fun u=>⟨by omega,of_decide_eq_true u⟩
     ·simp![Zj]
      exact fun u=>by cases u
    rintro b _ ⟨rfl,hb⟩
    simp![Zj];refine Zq7 (fun z=> ?_) (fun z=> ?_)
    ·simp![Zj]
     obtain ⟨h4,hx⟩:=hb z
     have dl:=Zc7 hk
     exact q (del ss k) _ _ (by omega) (Zl3 s1 hk h4 hx) (Nr.del s2) (by omega) (by omega) (by rw[ZeE];rfl) (by rw[List.length_append];omega) (fun j hj=>by rw[ZbQ (by omega)];exact t6 j hj)
    ·simp![Zj]
     exact ⟨⟨_,_,_,rfl⟩,t4,by omega,fun j hj=>by rw[ZbQ (by omega)];exact t6 j hj⟩
   ·rintro ρ M2 ⟨⟨x1,x2,x3,rfl⟩,t4,t5,t6⟩
    exact ⟨⟨_,_,_,_,_,rfl⟩,t5,t6⟩
  ·simp![Zj]
   exact ⟨⟨_,_,_,_,_,rfl⟩,s5,s6⟩
 ·rintro _ M2 ⟨⟨x1,x2,x3,x4,x5,rfl⟩,t5,t6⟩
  simp![Zj];obtain ⟨z,hz,z0,z1⟩: ∃ z:Int,c / 3 % 5=z/\0<=z/\z < 5:=⟨_,rfl,by omega,by omega⟩
  rw[hz];refine q [(1,0),(0,1),(-1 - z,-2 - z)] _ _ (by omega) ⟨2,by simp,?_⟩ ?_ (by simp) (by simp) (by rw[Zgy];rfl) (by rw[List.length_append];omega) (fun j hj=>by rw[ZbQ (by omega)];exact t6 j hj)
  ·simp[cy,X]
   omega
  ·intro p hp
   simp at hp
   rcases hp with rfl | rfl | rfl<;>simp<;>omega
end
end CF
end
section
namespace DL
open PySem PySem.Spec L2 DL
section
variable {M:Sto}
theorem Zo7 {k:Nat}{a b:Str}:eqF (k + 1) M (.str a) (.str b)=some (a == b):=rfl
end
end DL
end
section
namespace CB
open PySem PySem.Spec L2 DL
end CB
end
section
namespace DL
noncomputable def hj (t b:Int):List Int:=if h:0 < b then -((-t) / b) :: hj b (-((-t) / b) * b - t) else []
termination_by b.toNat
decreasing_by
 have h1:=Int.emod_nonneg (-t) (show b≠0 by omega)
 have h2:=Int.emod_lt_of_pos (-t) h
 have h3:=Int.emod_add_mul_ediv (-t) b
 rw[Int.neg_mul,Int.mul_comm];omega
end DL
namespace CB
open PySem PySem.Spec L2 DL
section
variable {Q:D->Sto->Prop}{E:Str->Sto->Prop}{M:Sto}{a b c d i:Int}{n m:Nat}{u v w:Pt}
noncomputable abbrev Bd (b:Int)(p:Pt):Prop:=(-b<=p.1/\p.1<=b)/\ -b<=p.2/\p.2<=b
structure Fb (u v w:Pt):Prop where
 one:X u w=1
 lo:0<=X w v
 hi:X w v < X u v
theorem Fb.uniq {w w':Pt}(h:Fb u v w)(k:Fb u v w'):w=w':=by
 obtain ⟨h1,a1,a2⟩:=h
 obtain ⟨h2,b1,b2⟩:=k
 have e1:w'.1=X w' w * u.1 + w.1/\w'.2=X w' w * u.2 + w.2:=by unfold X at *;constructor<;>grind
 have e2:X w' v=X w' w * X u v + X w v:=by
  have:X w' v=X (X w' w * u.1 + w.1,X w' w * u.2 + w.2) v:=by rw[<- e1.1,<- e1.2]
  rw[this];unfold X
  simp only
  grind
 generalize X w' w=k at *;have k0:k=0:=by
  apply Classical.byContradiction
  intro c
  by_cases p:1<=k
  ·have:1 * X u v<=k * X u v:=Int.mul_le_mul_of_nonneg_right p (by omega)
   omega
  ·have:k * X u v<=(-1) * X u v:=Int.mul_le_mul_of_nonneg_right (by omega) (by omega)
   omega
 rw[k0] at e1
 apply Prod.ext<;>omega
noncomputable def btw:Pt->Pt->List Int->List Pt
 |_,_,[]=>[]
 |a,r,k :: ks=>r :: btw r (k * r.1 - a.1,k * r.2 - a.2) ks
end
end CB
end
section
namespace CB
open PySem PySem.Spec L2 DL
section
variable {Q:D->Sto->Prop}{E:Str->Sto->Prop}{M:Sto}{a b c d i:Int}{n m:Nat}{u v w:Pt}
noncomputable def Ch:List Pt->Prop
 |a :: b :: r=>X a b=1/\Ch (b :: r)
 |_=>True
noncomputable def Tr (a b d:Pt):Prop:= ∃ k:Int,2<=k/\a.1 + d.1=k * b.1/\a.2 + d.2=k * b.2
noncomputable def Cv:List Pt->Prop
 |a :: b :: d :: r=>Tr a b d/\Cv (b :: d :: r)
 |_=>True
end
section
variable {u v w:Pt}
end
end CB
end
section
namespace CA
open PySem PySem.Spec L2 DL
end CA
end
section
namespace CA
open PySem PySem.Spec L2 DL
section
variable {Q:D->Sto->Prop}{E:Str->Sto->Prop}{M:Sto}{a b c d i:Int}{n m:Nat}{rs:List Pt}
end
end CA
end
section
namespace CY
open PySem PySem.Spec L2 DL CA
end CY
end
section
namespace CY
open PySem PySem.Spec L2 DL
section
variable {Q:D->Sto->Prop}{E:Str->Sto->Prop}{M:Sto}{n m:Nat}{rs:List Pt}
end
end CY
end
section
namespace CR
open PySem PySem.Spec L2 DL
noncomputable def ZaS:Sv:=(ZM (Zaz (Zdg "int" (Zg 0)) (Zgm (Zdg "bool" (Zg 0)))))
noncomputable def F_is_whole:List D->Sto->Out D:=fnF ZaS 1 0
noncomputable def ZaD:Sv:=(Zgo 2 3 (Zc (Zg 3) (Zc (e2 dMod (Zg 2) (Zg 3)) aNil)))
noncomputable def Za4:Sv:=(Zz (Zgo 2 3 (Zc (Zl bAbs (Zc (Zg 0) aNil)) (Zc (Zl bAbs (Zc (Zg 1) aNil)) aNil)))
 (Zz (sWh (tv (e2 dNe (Zg 3) (eC (.int 0)))) ZaD)
 (ZM (Zg 2))))
noncomputable def F_greatest_divisor:List D->Sto->Out D:=fnF Za4 2 2
noncomputable def Za1:Sv:=(ZM (Zaz (Zdg "int" (Zg 0)) (Zgm (Zdg "bool" (Zg 0)))))
noncomputable def F_law_whole:List D->Sto->Out D:=fnF Za1 1 0
end CR
end
section
namespace CR
open PySem PySem.Spec L2 DL
noncomputable abbrev rt (q:Rat):D:=pr q.num (q.den:Int)
theorem ZrB:F_greatest_divisor=FGcd:=rfl
section
variable {Q:D->Sto->Prop}{E:Str->Sto->Prop}{M:Sto}{k l:Nat}{p q:Rat}
end
end CR
end
section
namespace CH
open PySem PySem.Spec L2 DL CA CR
end CH
end
section
namespace CH
open PySem PySem.Spec L2 DL
open CR (rt)
section
variable {Q:D->Sto->Prop}{E:Str->Sto->Prop}{M:Sto}{n:Nat}
end
end CH
end
section
namespace CS
open PySem PySem.Spec L2 DL CC CR
end CS
end
section
namespace CS
open PySem PySem.Spec L2 DL
open CR (rt)
section
variable {Q:D->Sto->Prop}{E:Str->Sto->Prop}{M:Sto}{k l:Nat}{p q:Rat}
end
end CS
end
section
namespace CN
open PySem PySem.Spec L2 DL
open CE (F_numbers)
open CC (F_following)
end CN
end
section
namespace CN
open PySem PySem.Spec L2 DL
open CR (rt)
noncomputable def cq (hs:List Rat)(i:Int):Rat:=hs.getD (i % hs.length).toNat 0
section
variable {Q:D->Sto->Prop}{E:Str->Sto->Prop}{M:Sto}{k l:Nat}{p q:Rat}{n m:Nat}{rs:List Pt}{hs:List Rat}{i:Int}
end
end CN
end
section
namespace CN
open PySem PySem.Spec L2 DL
open CR (rt)
section
variable {Q:D->Sto->Prop}{E:Str->Sto->Prop}{M:Sto}{k l:Nat}{p q:Rat}{n m:Nat}{rs:List Pt}{hs:List Rat}{i:Int}
end
end CN
end
section
namespace CN
open PySem PySem.Spec L2 DL
open CR (rt)
noncomputable def sm (f:Int->Rat):Nat->Rat
 |0=>0
 |n + 1=>sm f n + f n
end CN
end
section
namespace CU
open PySem PySem.Spec L2 DL
open CC (F_ask_smooth)
end CU
end
section
namespace CU
open PySem PySem.Spec L2 DL
open CR (rt)
open CN CS
noncomputable def thr (rs:List Pt)(hs:List Rat):Rat × Rat:=(cq hs 0 * (cy rs 1).2 - cq hs 1 * (cy rs 0).2,cq hs 1 * (cy rs 0).1 - cq hs 0 * (cy rs 1).1)
noncomputable abbrev rp (m:Rat × Rat):D:= .tup [rt m.1,rt m.2]
section
variable {Q:D->Sto->Prop}{E:Str->Sto->Prop}{M:Sto}{k l:Nat}{p q:Rat}{n m o:Nat}{rs:List Pt}{hs xs ys:List Rat}{i:Int}
theorem ZjS (h1:M[n]?=some (.lst (prs rs))){ss:List Pt}(h2:M[m]?=some (.lst (prs ss))):eqF (k + 3) M (.ref n) (.ref m)=some (decide (rs=ss)):=by
 rw[Zol h1 h2,Zok]
 by_cases e:rs=ss
 ·subst e;simp
 ·rw[decide_eq_false e]
  split<;>rfl
theorem ZsP {ds:List D}(h:M[n]?=some (.lst ds)):wO (bTup [.ref n] M) Q E=Q (.tup ds) M:=by
 unfold bTup ZpF;simp only[ZdB,h,wO]
end
end CU
end
section
namespace CV
open PySem PySem.Spec L2 DL
open CR (rt)
open CN CU CS
noncomputable def Kp (M M':Sto):Prop:=M.length<=M'.length/\ ∀ j < M.length,M'[j]?=M[j]?
section
variable {M M' M1 M2:Sto}{o:SO}{j:Nat}
theorem Kp.get (k:Kp M M')(h:M[j]?=some o):M'[j]?=some o:=(k.2 _ (ZJ h)).trans h
theorem Kp.refl:Kp M M:=⟨Nat.le_refl _,fun _ _=>rfl⟩
theorem Kp.trans (a:Kp M M1)(b:Kp M1 M2):Kp M M2:=⟨Nat.le_trans a.1 b.1,fun j h=>(b.2 j (Nat.lt_of_lt_of_le h a.1)).trans (a.2 j h)⟩
theorem Kp.app {L:Sto}:Kp M (M ++ L):=⟨by simp,fun j h=>ZbQ h⟩
theorem Kp.set (a:Kp M M1)(h:M.length<=j):Kp M (M1.set j o):=⟨by rw[List.length_set];exact a.1,fun i hi=>by rw[List.getElem?_set_ne (by omega)];exact a.2 i hi⟩
end
section
variable {Q:D->Sto->Prop}{E:Str->Sto->Prop}{M:Sto}{k l:Nat}{p q:Rat}{n m o:Nat}{rs:List Pt}{hs xs ys zs u v:List Rat}{i:Int}{f:Ev}{ρ:Ro}{mu mv N:Nat}
end
end CV
end
section
namespace CW
open PySem PySem.Spec L2 DL
open CC (F_law_tags)
open CE (F_numbers F_taken_out)
end CW
end
section
namespace CW
open PySem PySem.Spec L2 DL
open CV
section
variable {Q:D->Sto->Prop}{E:Str->Sto->Prop}{M:Sto}{n m:Nat}{rs:List Pt}
end
end CW
end
section
namespace CB
open PySem PySem.Spec L2 DL
noncomputable def fbv (u v:Pt):Pt:= @dite _ (∃ w,Fb u v w) (Classical.propDecidable _) (fun h=>h.choose) (fun _=>(0,0))
noncomputable def seg (u v:Pt):List Pt:=u :: btw u (fbv u v) (hj (X u v) (X (fbv u v) v))
noncomputable def ZrC:List Pt->List Pt
 |a :: b :: r=>seg a b ++ ZrC (b :: r)
 |_=>[]
noncomputable def lrd (rs:List Pt):List Pt:=ZrC (rs ++ rs.take 1)
end CB
end
section
namespace CL
open PySem PySem.Spec L2 DL
open CC (F_following)
end CL
end
section
namespace CL
open PySem PySem.Spec L2 DL
open CV CB
section
variable {Q:D->Sto->Prop}{E:Str->Sto->Prop}{M:Sto}{n:Nat}
end
end CL
end
section
namespace TW
open DL
noncomputable def nx (b:Int)(p q:Pt):Pt:=(0 - b * q.1 - p.1,0 - b * q.2 - p.2)
noncomputable def run (p q:Pt):List Int->Pt × Pt
 | []=>(p,q)
 |b :: bs=>run q (nx b p q) bs
noncomputable def ew (p q:Pt):Nat:=in1 (1,0) p q + in1 (-1,0) p q
noncomputable def st (a:Pt):Int:=if 0 < a.2\/(a.2=0/\a.1 < 0) then 1 else 0
end TW
end
section
namespace TW
open DL
section
variable {rs:List Pt}
noncomputable def Zui (rs:List Pt):Int->Nat->List Int
 |_,0=>[]
 |i,k + 1=>T rs (i + 1) :: Zui rs (i + 1) k
noncomputable def sf (f:Pt->Pt->Nat)(rs:List Pt):Int->Nat->Nat
 |_,0=>0
 |i,k + 1=>f (cy rs i) (cy rs (i + 1)) + sf f rs (i + 1) k
theorem ZrD {f:Pt->Pt->Nat}(hn:rs≠[]): ∀ (k i:Nat),i + k=rs.length->cc f ((rs ++ rs.take 1).drop i)=sf f rs i k:=by
 have l0:0 < rs.length:=List.length_pos_iff.mpr hn
 have ga: ∀ i:Nat,i<=rs.length->(rs ++ rs.take 1)[i]?=some (cy rs i):=by
  intro i hi
  by_cases c:i < rs.length
  ·rw[List.getElem?_append_left c,ZbJ (by omega),Zb2 (by omega),List.getElem?_eq_getElem c]
   simp
  ·have:i=rs.length:=by omega
   subst this;rw[List.getElem?_append_right (Nat.le_refl _),Nat.sub_self,<- Zdo,Int.sub_self,ZbJ (by omega),Zb2 (by omega)]
   rw[List.getElem?_take_of_lt (by decide),List.getElem?_eq_getElem (by omega)]
   simp
 have lch:(rs ++ rs.take 1).length=rs.length + 1:=by simp;omega
 have dr: ∀ i:Nat,i<=rs.length->(rs ++ rs.take 1).drop i=cy rs i :: (rs ++ rs.take 1).drop (i + 1):=by
  intro i hi;rw[List.drop_eq_getElem_cons (by omega)]
  have:=ga i hi
  rw[List.getElem?_eq_getElem (by omega)] at this
  rw[Option.some.inj this]
 intro k
 induction k with
 |zero=>
  intro i hi;rw[dr i (by omega),List.drop_eq_nil_of_le (by omega)]
  rfl
 |succ k ih=>
  intro i hi
  have:=ih (i + 1) (by omega)
  rw[dr i (by omega)]
  rw[dr (i + 1) (by omega)] at this ⊢
  rw[cc,this,sf];rfl
theorem Zf4 {f:Pt->Pt->Nat}(hn:rs≠[]):cyc f rs=sf f rs 0 rs.length:=by
 have:=ZrD (f:=f) hn rs.length 0 (by omega)
 exact this
end
end TW
end
section
end
section
namespace CT
open PySem PySem.Spec L2 DL
end CT
end
section
namespace CT
open PySem PySem.Spec L2 DL
open CV TW
noncomputable def Sm (L:List Int):Prop:= ∀ b∈L,-(1152921504606846976)<=b/\b<=1152921504606846976
section
variable {Q:D->Sto->Prop}{E:Str->Sto->Prop}{M:Sto}{n m:Nat}{L:List Int}
noncomputable def Zo8 (L:List Int):Prop:= ∀ b∈L,-1000000<=b/\b<=1000000
theorem Zo8.sm (h:Zo8 L):Sm L:=fun b hb=>by have:=h b hb;omega
noncomputable def Cl (L:List Int):Prop:=run (1,0) (0,1) L=((1,0),(0,1))
noncomputable instance (L:List Int):Decidable (Cl L):=by unfold Cl;infer_instance
end
end CT
end
section
namespace CT
open PySem PySem.Spec L2 DL
open CV
open TW (nx)
section
variable {Q:D->Sto->Prop}{E:Str->Sto->Prop}{M:Sto}{n m:Nat}{L:List Int}
end
end CT
end
section
namespace DL
open CB (Bd)
section
variable {rs:List Pt}{k:Nat}
theorem ZjT {f:Pt->Pt->Nat}(hl:rs≠[])(h:cyc f rs=0)(i:Int):f (cy rs i) (cy rs (i + 1))=0:=by
 have l0:rs.length≠0:=fun z=>hl (List.length_eq_zero_iff.mp z)
 refine Zc0 (P:=fun a b=>f a b=0) l0 ?_ i
 intro i h0 h1;rw[TW.Zf4 hl] at h
 have: ∀ (k:Nat) (j:Int),TW.sf f rs j k=0-> ∀ m:Nat,m < k->f (cy rs (j + m)) (cy rs (j + m + 1))=0:=by
  intro k
  induction k with
  |zero=>intro j _ m hm;omega
  |succ k ih=>
   intro j h m hm;rw[TW.sf] at h;cases m with
   |zero=>
    rw[show j + ((0:Nat):Int)=j by omega]
    omega
   |succ m=>
    have:=ih (j + 1) (by omega) m (by omega)
    rw[show j + ((m + 1:Nat):Int)=j + 1 + m by omega]
    exact this
 have:=this rs.length 0 h i.toNat (by omega)
 rw[show (0:Int) + (i.toNat:Nat)=i by omega] at this
 exact this
theorem Zfj {f:Pt->Pt->Nat}(hl:rs≠[])(h: ∀ i:Int,f (cy rs i) (cy rs (i + 1))=0):cyc f rs=0:=by
 rw[TW.Zf4 hl]
 have: ∀ (k:Nat) (j:Int),TW.sf f rs j k=0:=by
  intro k
  induction k with
  |zero=>intro j;rfl
  |succ k ih=>intro j;rw[TW.sf,h,ih]
 exact this _ _
noncomputable def nxp (a b:Pt):Nat:=if 0 < X a b then 0 else 1
theorem ZrE {a b:Pt}(h:nxp a b=0):0 < X a b:=by
 unfold nxp at h
 split at h
 ·assumption
 ·omega
theorem Zo9 {a b:Pt}(h:0 < X a b):nxp a b=0:=by unfold nxp;rw[if_pos h]
structure Rn (rs:List Pt):Prop where
 len:3<=rs.length
 ps:cyc nxp rs=0
 gc: ∀ p∈rs,Int.gcd p.1 p.2=1
 fan:Fan rs
theorem Rn.ne (h:Rn rs):rs≠[]:=by
 intro z
 have:=h.len
 rw[z] at this
 simp at this
theorem Rn.pos (h:Rn rs)(i:Int):0 < X (cy rs i) (cy rs (i + 1)):=ZrE (ZjT h.ne h.ps i)
theorem ZrF {a b:Pt}(h:X a b=1):Int.gcd a.1 a.2=1/\Int.gcd b.1 b.2=1:=by
 unfold X at h
 constructor
 ·have d1:((Int.gcd a.1 a.2:Nat):Int) ∣ a.1 * b.2 - a.2 * b.1:=Int.dvd_sub (Int.dvd_mul_of_dvd_left (Int.gcd_dvd_left _ _)) (Int.dvd_mul_of_dvd_left (Int.gcd_dvd_right _ _))
  rw[h] at d1;exact Nat.eq_one_of_dvd_one (Int.natCast_dvd_natCast.mp d1)
 ·have d1:((Int.gcd b.1 b.2:Nat):Int) ∣ a.1 * b.2 - a.2 * b.1:=Int.dvd_sub (Int.dvd_mul_of_dvd_right (Int.gcd_dvd_right _ _)) (Int.dvd_mul_of_dvd_right (Int.gcd_dvd_left _ _))
  rw[h] at d1;exact Nat.eq_one_of_dvd_one (Int.natCast_dvd_natCast.mp d1)
theorem Zpa {p:Pt}(h:p∈rs): ∃ i:Int,p=cy rs i:=by
 obtain ⟨L,R,rfl⟩:=List.append_of_mem h
 exact ⟨L.length,ZjR.symm⟩
theorem Smo.rn (h:Smo rs):Rn rs:=by
 refine ⟨h.len,Zfj h.ne fun i=>Zo9 (by rw[h.one i];decide),fun p hp=> ?_,h.fan⟩
 obtain ⟨i,rfl⟩:=Zpa hp
 exact (ZrF (h.one i)).1
end
end DL
end
section
namespace CZ
open PySem PySem.Spec L2 DL
section
variable {Q:D->Sto->Prop}{E:Str->Sto->Prop}{M:Sto}{n m:Nat}{rs:List Pt}
end
end CZ
end
section
namespace DL
open TW
open CT (Cl)
section
variable {rs us:List Pt}
theorem Zda:(List.range us.length).map (fun (j:Nat)=>cy us j)=us:=by
 apply List.ext_getElem
 ·simp
 ·intro i h1 h2
  simp[Zcu h2]
end
end DL
end
section
namespace CB
open DL
section
variable {u v w:Pt}
noncomputable def kl:List Pt->List Int
 |a :: b :: d :: r=>X a d :: kl (b :: d :: r)
 |_=>[]
theorem Xvv (p:Pt):X p p=0:=by unfold X;grind
theorem ZrG: ∀ (r:List Pt) (a b:Pt) (v:Pt),Ch (a :: b :: r)->Cv (a :: b :: r)->(b :: r).getLast (by simp)=v->0<=X b v/\X b v < X a v
 | [],a,b,v,h,_,e=>by
  have:b=v:=e
  subst this;rw[Xvv,h.1];omega
 |c :: r,a,b,v,h,k,e=>by
  have ih:=ZrG r b c v h.2 k.2 (by rw[<- e];simp[List.getLast_cons])
  obtain ⟨m,m2,e1,e2⟩:=k.1
  have ex:X a v + X c v=m * X b v:=by unfold X;grind
  have:2 * X b v<=m * X b v:=Int.mul_le_mul_of_nonneg_right m2 (by omega)
  omega
theorem Zl5 {t b k c:Int}(hb:0 < b)(h0:0<=c)(h1:c < b)(e:t + c=k * b): -((-t) / b)=k:=by
 have: -t=c + b * (-k):=by grind
 rw[this,Int.add_mul_ediv_left _ _ (by omega),Int.ediv_eq_zero_of_lt h0 h1]
 omega
theorem only: ∀ (ws:List Pt) (u v w:Pt),Ch (u :: (ws ++ [v]))->Cv (u :: (ws ++ [v]))->Fb u v w->ws=btw u w (hj (X u v) (X w v))/\kl (u :: (ws ++ [v]))=hj (X u v) (X w v)
 | [],u,v,w,h,k,f=>by
  have h1:X u v=1:=h.1
  have l:=f.lo
  have l2:=f.hi
  have w0:X w v=0:=by omega
  rw[w0];unfold hj;rw[dif_neg (by decide)]
  exact ⟨rfl,rfl⟩
 |x :: ws,u,v,w,h,k,f=>by
  have hl:(x :: (ws ++ [v])).getLast (by simp)=v:=by simp[List.getLast_cons]
  have d:=ZrG (ws ++ [v]) u x v h k hl
  have fx:Fb u v x:=⟨h.1,d.1,d.2⟩
  have ew:=fx.uniq f
  subst ew;obtain ⟨y,R,eR⟩: ∃ y R,ws ++ [v]=y :: R:=by
   cases ws with
   |nil=>exact ⟨v,[],rfl⟩
   |cons y R=>exact ⟨y,R ++ [v],rfl⟩
  have h':Ch (x :: y :: R):=by rw[<- eR];exact h.2
  have kk:Cv (u :: x :: y :: R):=by rw[<- eR];exact k
  have hl2:(y :: R).getLast (by simp)=v:=by
   have:(ws ++ [v]).getLast (by simp)=v:=by simp
   simpa [eR] using this
  have d2:=ZrG R x y v h' kk.2 hl2
  obtain ⟨m,m2,e1,e2⟩:=kk.1
  have ex:X u v + X y v=m * X x v:=by unfold X;grind
  have hc:=Zl5 (by omega) d2.1 d2.2 ex
  have ey:(m * x.1 - u.1,m * x.2 - u.2)=y:=by apply Prod.ext<;>simp only<;>omega
  have m3:X u y=m:=by
   have:=h.1
   rw[<- ey];unfold X at *
   simp only
   grind
  have fy:Fb x v y:=⟨h'.1,d2.1,d2.2⟩
  have ih:=only ws x v y (by rw[eR];exact h') (by rw[eR];exact kk.2) fy
  have ej:hj (X u v) (X x v)=m :: hj (X x v) (X y v):=by
   rw[hj,dif_pos (by omega),hc]
   congr 2
   omega
  rw[ej]
  constructor
  ·rw[btw,ey,<- ih.1]
  ·show kl (u :: x :: (ws ++ [v]))=_
   rw[eR,kl,m3,<- eR,ih.2]
end
end CB
end
section
namespace CD
open PySem PySem.Spec L2 DL
open CC (F_ask_smooth)
end CD
end
section
namespace CD
open PySem PySem.Spec L2 DL
open CV
open CB (Bd)
open CR (rt)
section
variable {Q:D->Sto->Prop}{E:Str->Sto->Prop}{M:Sto}{n m p:Nat}{rs:List Pt}{a b c d:Int}{ρ:Ro}{k:Nat}{xs:List D}{tg:Tg}{f:Ev}
noncomputable abbrev tb (a b c d:Int):SO:= .lst [.int a,.int b,.int c,.int d]
end
end CD
end
section
namespace CD
open PySem PySem.Spec L2 DL
open CV
open CB (Bd)
open CR (rt)
noncomputable def sg {α:Type}(neg:Bool)(k:Nat)(L:List α):List α:=(if neg then L.reverse else L).drop k ++ (if neg then L.reverse else L).take k
section
variable {Q:D->Sto->Prop}{E:Str->Sto->Prop}{M:Sto}{n m p:Nat}{rs:List Pt}{a b c d:Int}{ρ:Ro}{k:Nat}{xs:List D}{tg:Tg}{f:Ev}
end
end CD
end
section
namespace CD
open PySem PySem.Spec L2 DL
open CV CN CU CS
open CR (rt)
section
variable {Q:D->Sto->Prop}{E:Str->Sto->Prop}{M:Sto}{n m k l:Nat}{rs:List Pt}{p q:Rat}{xs:List Rat}{ms:List (Rat × Rat)}
end
end CD
end
section
namespace DL
open TW
open CN (cq)
section
variable {rs:List Pt}{hs:List Rat}
end
end DL
end
section
namespace CO
open PySem PySem.Spec L2 DL
open CC (F_following)
end CO
end
section
namespace CO
open PySem PySem.Spec L2 DL
open CV CN CU CS CD
open CR (rt)
section
variable {Q:D->Sto->Prop}{E:Str->Sto->Prop}{M:Sto}{n m p:Nat}{rs us:List Pt}{hs:List Int}
end
end CO
end
section
end
section
end
section
end
section
end
section
end
section
namespace CQ
open PySem PySem.Spec L2 DL
end CQ
end
section
namespace CQ
open PySem PySem.Spec L2 DL
open CV
open CB (Bd)
open CD (sg tb)
section
variable {Q:D->Sto->Prop}{E:Str->Sto->Prop}{M:Sto}{n m p:Nat}{rs:List Pt}{a b c d:Int}
end
end CQ
end
section
namespace CQ
open PySem PySem.Spec L2 DL
open CV
open CB (Bd)
open CD (sg tb)
section
variable {Q:D->Sto->Prop}{E:Str->Sto->Prop}{M:Sto}{n m p:Nat}{rs:List Pt}{a b c d:Int}
end
end CQ
end
section
namespace CQ
open PySem PySem.Spec L2 DL
open CV
open CB (Bd)
open CD (sg tb)
section
variable {Q:D->Sto->Prop}{E:Str->Sto->Prop}{M:Sto}{n m p:Nat}{rs:List Pt}{a b c d:Int}
end
end CQ
end
section
namespace CQ
open PySem PySem.Spec L2 DL
open CV
open CB (Bd)
open CD (sg tb)
section
variable {Q:D->Sto->Prop}{E:Str->Sto->Prop}{M:Sto}{n m p:Nat}{rs:List Pt}{a b c d:Int}
end
end CQ
end
section
namespace CB
open PySem PySem.Spec L2 DL
open CD (sg)
section
variable {a b c d:Int}{u v w:Pt}{rs:List Pt}
end
end CB
end
section
namespace CX
open PySem PySem.Spec L2 DL
open CE (F_numbers)
open CC (F_following)
end CX
end
section
namespace CX
open PySem PySem.Spec L2 DL
open CV
open CB (Bd lrd)
noncomputable def ltP:List Pt->List Pt->Bool
 | [],[]=>false
 | [],_ :: _=>true
 |_ :: _,[]=>false
 |x :: xs,y :: ys=>if x=y then ltP xs ys else HT.Zbf [x.1,x.2] [y.1,y.2]
section
variable {Q:D->Sto->Prop}{E:Str->Sto->Prop}{M:Sto}{n m p:Nat}{rs ls:List Pt}
end
end CX
end
section
namespace CX
open PySem PySem.Spec L2 DL
open CV
open CB (Bd lrd)
section
variable {Q:D->Sto->Prop}{E:Str->Sto->Prop}{M:Sto}{n m p:Nat}{rs ls:List Pt}
noncomputable def mkr (rs ls:List Pt):List Pt:=(List.range ls.length).map fun (i:Nat)=>(T ls i,if cy ls i∈rs then 1 else 0)
end
end CX
end
section
namespace CX
open PySem PySem.Spec L2 DL
open CV
open CB (Bd lrd)
noncomputable def onw (L:List Pt)(i:Nat):List Pt:=L.drop i ++ L.take i
noncomputable def rdg (L:List Pt)(i:Nat)(b:Bool):List Pt:=if b then (onw L i).take 1 ++ ((onw L i).drop 1).reverse else onw L i
noncomputable def bsd (ls:List Pt)(i:Nat)(b:Bool):Pt:=if b then cy ls ((i:Int) - 1) else cy ls ((i:Int) + 1)
noncomputable def Bst (lo:Nat)(L ls:List Pt)(S:Nat->Bool->Prop)(v3 v4:D)(M:Sto):Prop:=(v3= .non/\v4= .non/\ ∀ i b,¬ S i b)\/ ∃ i b o,(S i b/\lo<=o)/\v3= .ref o/\v4= .tup [pr (cy ls (i:Nat)).1 (cy ls (i:Nat)).2,pr (bsd ls i b).1 (bsd ls i b).2]/\M[o]?=some (.lst (prs (rdg L i b)))/\ ∀ i' b',S i' b'->ltP (rdg L i' b') (rdg L i b)=false
theorem Bst.congr {lo:Nat}{L ls:List Pt}{S S':Nat->Bool->Prop}{v3 v4:D}{M:Sto}(h: ∀ i b,S i b ↔ S' i b)(k:Bst lo L ls S v3 v4 M):Bst lo L ls S' v3 v4 M:=by
 rcases k with ⟨h1,h2,h3⟩ | ⟨i,b,o,h1,h2,h3,h4,h5⟩
 ·exact .inl ⟨h1,h2,fun i b k=>h3 i b ((h i b).mpr k)⟩
 ·exact .inr ⟨i,b,o,⟨(h i b).mp h1.1,h1.2⟩,h2,h3,h4,fun i' b' k=>h5 i' b' ((h i' b').mpr k)⟩
section
variable {Q:D->Sto->Prop}{E:Str->Sto->Prop}{M:Sto}{n m p:Nat}{rs ls L:List Pt}{N B C:Ro->Sto->Prop}{R:D->Sto->Prop}
end
end CX
end
section
namespace CX
open PySem PySem.Spec L2 DL
open CB (Bd lrd ZrC seg)
open CD (sg)
section
variable {rs ls L L' O:List Pt}
noncomputable def fn (L:List Pt)(x s:Int):List Pt:=(List.range L.length).map fun (t:Nat)=>cy L (x + s * t)
noncomputable def sn (b:Bool):Int:=if b then -1 else 1
end
end CX
end
section
namespace CX
open PySem PySem.Spec L2 DL
open CB (Bd lrd)
open CV
open CD (sg)
section
variable {M:Sto}{n:Nat}{rs cs ls L L':List Pt}
end
end CX
end
section
namespace CP
open PySem PySem.Spec L2 DL
open CC (F_crossed)
end CP
end
section
namespace CP
open PySem PySem.Spec L2 DL
open CB (Bd lrd)
open CV CX
open CD (sg)
open CC (F_crossed Za9)
section
variable {Q:D->Sto->Prop}{E:Str->Sto->Prop}{M:Sto}{n m p:Nat}{rs cs ls L:List Pt}{N B C:Ro->Sto->Prop}{R:D->Sto->Prop}
noncomputable def kp (p:Pt):List Int:=[p.1,p.2]
noncomputable def up (l:List Int):Pt:=(l.getD 0 0,l.getD 1 0)
noncomputable def sp (rs:List Pt):List Pt:=(ST.srt (rs.map kp)).map up
theorem Zf5: ∀ rs:List Pt,ksD (prs rs)=some (rs.map kp)
 | []=>rfl
 |x :: r=>by
  have:=Zf5 r
  show ksD (pr x.1 x.2 :: prs r)=_
  rw[ksD,this];rfl
theorem Zl6:(ST.srt (rs.map kp)).map tupD=prs (sp rs):=by
 have h: ∀ l∈ST.srt (rs.map kp),tupD l=pr (up l).1 (up l).2:=fun l hl=>by
  obtain ⟨x,-,rfl⟩:=List.mem_map.mp ((ST.ZdM _).mem_iff.mp hl)
  rfl
 rw[List.map_congr_left h];unfold sp prs;rw[List.map_map];rfl
theorem ZjU (h:M[n]?=some (.lst (prs rs)))(hl:rs.length < 64):bSrt [.ref n] M= .ok (.ref M.length) (M ++ [.lst (prs (sp rs))]):=by
 simp only[bSrt,h,Zh9,ZB,Zf5,if_pos hl,Zl6]
theorem pb {x y:Int}(hx: -200<=x/\x<=200)(hy: -200<=y/\y<=200): -40000<=x * y/\x * y<=40000:=by
 have:(x * y).natAbs<=200 * 200:=by rw[Int.natAbs_mul];exact Nat.mul_le_mul (by omega) (by omega)
 omega
noncomputable def Bs (rs:List Pt)(i:Nat)(b:Bool):Prop:=i < (lrd rs).length/\ ∀ i' b',i' < (lrd rs).length->ltP (rdg (mkr rs (lrd rs)) i' b') (rdg (mkr rs (lrd rs)) i b)=false
noncomputable def ZrH (rs cs:List Pt):Prop:= ∀ i b i' b',Bs rs i b->Bs cs i' b'->rdg (mkr rs (lrd rs)) i b=rdg (mkr cs (lrd cs)) i' b'
theorem ZrH.symm (h:ZrH rs cs):ZrH cs rs:=fun i b i' b' h1 h2=>(h i' b' i b h2 h1).symm
end
end CP
end
section
end
section
end
section
end
section
namespace CG
open PySem PySem.Spec L2 DL
open CC (F_crossed F_following)
open CR (F_is_whole F_greatest_divisor F_law_whole)
noncomputable def Zb5:Sv:=(ZM (Zaz (Zdg "tuple" (Zg 0)) (Zaz (e2 dEq (Zl bLen (Zc (Zg 0) aNil)) (eC (.int 2))) (Zaz (Zl F_is_whole (Zc (e2 dIx (Zg 0) (eC (.int 0))) aNil)) (Zl F_is_whole (Zc (e2 dIx (Zg 0) (eC (.int 1))) aNil))))))
noncomputable def F_is_pair:List D->Sto->Out D:=fnF Zb5 1 0
noncomputable def ZdU:Sv:=(ZM (Zl F_greatest_divisor (Zc (e2 dIx (Zg 0) (eC (.int 0))) (Zc (e2 dIx (Zg 0) (eC (.int 1))) aNil))))
noncomputable def F_common:List D->Sto->Out D:=fnF ZdU 1 0
noncomputable def ZdV:Sv:=(ZM (Zaz (Zl F_is_pair (Zc (Zg 0) aNil)) (e2 dEq (Zl F_common (Zc (Zg 0) aNil)) (eC (.int 1)))))
noncomputable def F_is_ray:List D->Sto->Out D:=fnF ZdV 1 0
noncomputable def Za2:Sv:=(ZM (Znb (e2 dEq (Zg 0) (Z1 (Zc (eC (.int 1)) (Zc (eC (.int 0)) aNil)))) (Zaz (e2 dLt (e2 dIx (Zg 0) (eC (.int 1))) (eC (.int 0))) (e2 dLt (eC (.int 0)) (e2 dIx (Zg 1) (eC (.int 1)))))))
noncomputable def F_met_direction:List D->Sto->Out D:=fnF Za2 2 0
noncomputable def Zao:Sv:=(sIf (Zab (tv (Zl F_is_ray (Zc (Zg 2) aNil)))) (Zbj (PySem.Str.ofString "NoRound") (Zc (eC (.str (PySem.Str.ofString "ray"))) (Zc (Zg 1) aNil))) sNil)
noncomputable def Zap:Sv:=(sIf (tv (e2 dLe (Zl F_crossed (Zc (Zg 2) (Zc (Zl F_following (Zc (Zg 0) (Zc (Zg 1) aNil))) aNil))) (eC (.int 0)))) (Zbj (PySem.Str.ofString "NoRound") (Zc (eC (.str (PySem.Str.ofString "wedge"))) (Zc (Zg 1) aNil))) sNil)
noncomputable def ZaE:Sv:=(Zz (sIf (Zcd (Zab (tv (Zdg "list" (Zg 0)))) (tv (e2 dLt (Zl bLen (Zc (Zg 0) aNil)) (eC (.int 3))))) (Zbj (PySem.Str.ofString "NoRound") (Zc (eC (.str (PySem.Str.ofString "round"))) (Zc (eC (.int 0)) aNil))) sNil)
 (Zz (ZdF (gTp (gCs (gNm 1) (gCs (gNm 2) gNl))) (iEn (Zc (Zg 0) aNil)) Zao)
 (Zz (ZdF (gTp (gCs (gNm 1) (gCs (gNm 2) gNl))) (iEn (Zc (Zg 0) aNil)) Zap)
 (sIf (tv (e2 dGt (Zl bLen (Zc (ZaQ (iEn (Zc (Zg 0) aNil)) 2 [0] (gTp (gCs (gNm 0) (gCs (gNm 1) gNl))) (tv (Zl F_met_direction (Zc (Zg 1) (Zc (Zl F_following (Zc (Zg 2) (Zc (Zg 0) aNil))) aNil)))) (Zg 0)) aNil)) (eC (.int 1)))) (Zbj (PySem.Str.ofString "NoRound") (Zc (eC (.str (PySem.Str.ofString "turns"))) (Zc (eC (.int 0)) aNil))) sNil))))
noncomputable def F_look_round:List D->Sto->Out D:=fnF ZaE 1 2
end CG
end
section
namespace CG
open PySem PySem.Spec L2 DL
open CB (Bd)
open CV (Kp)
open CC (F_following)
noncomputable abbrev NR:Str:=PySem.Str.ofString "NoRound"
noncomputable def met (a b:Pt):Bool:=decide (a=(1,0)) || (decide (a.2 < 0) && decide (0 < b.2))
theorem Zpb {a b:Pt}(g:Int.gcd a.1 a.2=1)(x:0 < X a b):(if met a b then 1 else 0)=in1 (1,0) a b:=by
 have e1:X a (1,0)=0 - a.2:=by unfold X;simp only;omega
 have e2:X (1,0) b=b.2:=by unfold X;simp only;omega
 unfold in1 met;rw[e1,e2]
 by_cases c:a.2=0
 ·have ga:a.1=1\/a.1= -1:=by
   rw[c,Int.gcd_zero_right] at g;omega
  unfold X at x;rw[c] at x
  rcases ga with h | h
  ·have ea:a=(1,0):=Prod.ext h c
   rw[h] at x;rw[ea]
   simp
   omega
  ·have ea:a≠(1,0):=fun z=>by rw[z] at h;simp at h
   rw[h] at x
   have: ¬ (0 < b.2):=by omega
   simp[ea,this]
 ·have ea:a≠(1,0):=fun z=>c (by rw[z])
  by_cases c2:a.2 < 0
  ·by_cases c3:0 < b.2
   ·simp[c2,c3];omega
   ·simp[ea,c3]
  ·have: ¬ (0<=0 - a.2):=by omega
   simp[ea,c2]
   omega
noncomputable def Zd3 (rs:List Pt):Nat:=((List.range rs.length).filter fun (i:Nat)=>met (cy rs i) (cy rs (i + 1))).length
section
variable {Q:D->Sto->Prop}{E:Str->Sto->Prop}{N B C:Ro->Sto->Prop}{R:D->Sto->Prop}{M M':Sto}{m:Nat}{rs:List Pt}{u v:Pt}{d:D}
theorem Zbo {m:Nat}{xs:List D}(h:M[m]?=some (.lst xs)):ZaA M (.ref m)=some "list":=by simp[ZaA,kd,h]
theorem Zpc:wO (F_is_pair [pr u.1 u.2] M) Q E=Q (.bl true) M:=by
 simp![F_is_pair,Zb5,CR.F_is_whole,CR.ZaS]
theorem Zpd (q:Q (.bl (decide (Int.gcd u.1 u.2=1))) M):wO (F_is_ray [pr u.1 u.2] M) Q E:=by
 simp![F_is_ray,ZdV,Zpc];simp![F_common,ZdU,CR.ZrB];rw[ZnX];simp![Zj];have e:decide (((Int.gcd u.1 u.2:Nat):Int)=1)=decide (Int.gcd u.1 u.2=1):=decide_eq_decide.mpr (by omega)
 rw[e];exact q
theorem ZrI (q:Q (.bl (met u v)) M):wO (F_met_direction [pr u.1 u.2,pr v.1 v.2] M) Q E:=by
 unfold met at q;simp![F_met_direction,Za2];refine brO (fun z=> ?_) (fun z=> ?_)
 ·simp![Zj]
  have e:u=(1,0):=z
  rw[decide_eq_true e,Bool.true_or] at q;exact q
 ·simp![Zj]
  have e: ¬ u=(1,0):=z
  rw[decide_eq_false e,Bool.false_or] at q;refine brO (fun z2=> ?_) (fun z2=> ?_)
  ·simp![Zj]
   rw[decide_eq_true z2,Bool.true_and] at q;exact q
  ·simp![Zj]
   rw[decide_eq_false z2,Bool.false_and] at q;exact q
theorem ZkF {i:Nat}(h:i<=2000000):((i:Int)).natAbs.log2 < 1000:=by
 rw[Int.natAbs_natCast]
 by_cases c:i=0
 ·rw[c];decide
 ·exact Nat.lt_of_lt_of_le ((Nat.log2_lt c).mpr (show i < 2 ^ 21 by omega)) (by decide)
theorem Zl7 {x y:Option D}(h:M[m]?=some (.lst (prs rs)))(hl:3<=rs.length/\rs.length<=2000000)(hb: ∀ p∈rs,Bd 1000000 p)(hg: ∀ p∈rs,Int.gcd p.1 p.2=1)
  (h1: ∀ i:Nat,i < rs.length->(∀ j:Nat,j < i->0 < X (cy rs j) (cy rs (j + 1)))-> ¬ 0 < X (cy rs i) (cy rs (i + 1))->E NR (M ++ [.lst [.str (PySem.Str.ofString "wedge"),.int i]]))
  (h2:(∀ i:Nat,i < rs.length->0 < X (cy rs i) (cy rs (i + 1)))->1 < Zd3 rs-> ∀ M',Kp M M'->E NR (M' ++ [.lst [.str (PySem.Str.ofString "turns"),.int 0]]))
  (h3:(∀ i:Nat,i < rs.length->0 < X (cy rs i) (cy rs (i + 1)))->Zd3 rs<=1-> ∀ M',Kp M M'->Q .non M'):
  wS ((Zz (ZdF (gTp (gCs (gNm 1) (gCs (gNm 2) gNl))) (iEn (Zc (Zg 0) aNil)) Zap)
   (sIf (tv (e2 dGt (Zl bLen (Zc (ZaQ (iEn (Zc (Zg 0) aNil)) 2 [0] (gTp (gCs (gNm 0) (gCs (gNm 1) gNl))) (tv (Zl F_met_direction (Zc (Zg 1) (Zc (Zl F_following (Zc (Zg 2) (Zc (Zg 0) aNil))) aNil)))) (Zg 0)) aNil)) (eC (.int 1)))) (Zbj (PySem.Str.ofString "NoRound") (Zc (eC (.str (PySem.Str.ofString "turns"))) (Zc (eC (.int 0)) aNil))) sNil)) [some (.ref m),x,y] M) (Zmp Q) Q (fun _ _=>False) (fun _ _=>False) E:=by
 have ne:rs≠[]:=by intro z;rw[z] at hl;simp at hl
 simp![Zj];refine ZeF (fun i ρ M'=>M'=M/\(∃ x y,ρ=[some (.ref m),x,y])/\ ∀ j:Nat,j < i->0 < X (cy rs j) (cy rs (j + 1))) h ⟨rfl,⟨_,_,rfl⟩,fun j hj=>by omega⟩ (fun i ρ M' hI=>by rw[hI.1];exact h) ?_ ?_
 ·rintro i ρ M' hi ⟨e,⟨x,y,rfl⟩,hj⟩
  rw[e];clear e M';rw[ZB] at hi;rw[CC.Z7];have b1:=hb _ (ZaN (i:=(i:Int)) ne)
  have cw: ∀ {Q:D->Sto->Prop} {E:Str->Sto->Prop},wO (CC.F_crossed [pr (cy rs i).1 (cy rs i).2,pr (cy rs (i + 1)).1 (cy rs (i + 1)).2] M) Q E=Q (.int (X (cy rs i) (cy rs (i + 1)))) M:=CC.ZbA (by unfold Bd at b1;omega) (by unfold Bd at b1;omega)
  simp![Zap,CC.ZaZ h,cw];refine brS (fun z=> ?_) (fun z=> ?_)
  ·refine ZcM ?_
   simp![Zf1];exact ⟨⟨by decide +kernel,ZkF (by omega)⟩,h1 i hi hj (by omega)⟩
  ·simp![Zj]
   refine ⟨⟨_,_,rfl⟩,fun j hj'=> ?_⟩
   by_cases c:j < i
   ·exact hj j c
   ·have:j=i:=by omega
    subst this;omega
 rintro ρ M' ⟨e,⟨x,y,rfl⟩,hj⟩
 rw[e];clear e M';rw[ZB] at hj;simp![Zj];show wO (Zcp (.enu m) _ _ _ M.length (cnt (.enu m) M) 0 _ (M ++ [.lst []])) _ _
 have hln:((prs rs).mapIdx fun (k:Nat) d=>D.tup [.int k,d]).length=rs.length:=by simp[ZB]
 have lm:=ZJ h
 refine ZeB (xs:=(prs rs).mapIdx fun (k:Nat) d=>D.tup [.int k,d]) (fun i ρ M'=>(∃ x y,ρ=[x,y,some (.ref m)])/\M'=M ++ [.lst (((List.range i).filter fun (i:Nat)=>met (cy rs i) (cy rs (i + 1))).map fun (i:Nat)=>D.int i)]) _ 0 _ _ (by simp) (by rw[Ze8 h,hln,ZB];omega) ⟨⟨_,_,rfl⟩,rfl⟩ (fun i ρ M' hi hI=> ?_) ?_ ?_
 ·rw[hI.2,Zir (by rw[ZbQ lm];exact h),List.getElem?_mapIdx]
 ·rintro i ρ M' hi ⟨⟨x,y,rfl⟩,rfl⟩
  have hi':i < rs.length:=by rw[hln] at hi;exact hi
  have hM:(M ++ [SO.lst (((List.range i).filter fun (i:Nat)=>met (cy rs i) (cy rs (i + 1))).map fun (i:Nat)=>D.int i)])[m]?=some (.lst (prs rs)):=by rw[ZbQ lm];exact h
  rw[List.getElem_mapIdx,CC.Z7];simp![CC.ZaZ hM];refine ZrI ?_
  simp![Zj];refine br (fun z=> ?_) (fun z=> ?_)
  ·simp![Zj]
   have l1:((List.range i).filter fun (i:Nat)=>met (cy rs i) (cy rs (i + 1))).length<=i:=by
    have:=List.length_filter_le (fun (i:Nat)=>met (cy rs i) (cy rs (i + 1))) (List.range i)
    rw[List.length_range] at this;exact this
   refine ⟨by omega,?_⟩
   rw[List.range_succ,List.filter_append,List.map_append]
   simp[List.filter_cons,z]
  ·refine ⟨⟨_,_,rfl⟩,?_⟩
   rw[List.range_succ,List.filter_append]
   simp[List.filter_cons,z]
 ·rintro ρ M' ⟨-,rfl⟩
  rw[hln];have hlen:(((List.range rs.length).filter fun (i:Nat)=>met (cy rs i) (cy rs (i + 1))).map fun (i:Nat)=>D.int i).length=Zd3 rs:=by rw[List.length_map];rfl
  have t:(M ++ [SO.lst (((List.range rs.length).filter fun (i:Nat)=>met (cy rs i) (cy rs (i + 1))).map fun (i:Nat)=>D.int i)])[M.length]?=some (.lst (((List.range rs.length).filter fun (i:Nat)=>met (cy rs i) (cy rs (i + 1))).map fun (i:Nat)=>D.int i)):=by simp
  have K1:Kp M (M ++ [SO.lst (((List.range rs.length).filter fun (i:Nat)=>met (cy rs i) (cy rs (i + 1))).map fun (i:Nat)=>D.int i)]):=Kp.app
  generalize M ++ [SO.lst (((List.range rs.length).filter fun (i:Nat)=>met (cy rs i) (cy rs (i + 1))).map fun (i:Nat)=>D.int i)]=M1 at *
  generalize ((List.range rs.length).filter fun (i:Nat)=>met (cy rs i) (cy rs (i + 1))).map (fun (i:Nat)=>D.int i)=L at *
  show kA1 _ _ _ _ (.ref M.length) M1
  simp![t];rw[hlen];refine brS (fun z=> ?_) (fun z=> ?_)
  ·refine ZcM ?_
   simp![Zf1];exact ⟨⟨by decide +kernel,by decide +kernel⟩,h2 hj (by omega) M1 K1⟩
  ·simp![Zj]
   exact h3 hj (by omega) M1 K1
theorem Zpe (h:M[m]?=some (.lst (prs rs)))(hl:3<=rs.length/\rs.length<=2000000)(hb: ∀ p∈rs,Bd 1000000 p)(hg: ∀ p∈rs,Int.gcd p.1 p.2=1)
  (h1: ∀ i:Nat,i < rs.length->(∀ j:Nat,j < i->0 < X (cy rs j) (cy rs (j + 1)))-> ¬ 0 < X (cy rs i) (cy rs (i + 1))->E NR (M ++ [.lst [.str (PySem.Str.ofString "wedge"),.int i]]))
  (h2:(∀ i:Nat,i < rs.length->0 < X (cy rs i) (cy rs (i + 1)))->1 < Zd3 rs-> ∀ M',Kp M M'->E NR (M' ++ [.lst [.str (PySem.Str.ofString "turns"),.int 0]]))
  (h3:(∀ i:Nat,i < rs.length->0 < X (cy rs i) (cy rs (i + 1)))->Zd3 rs<=1-> ∀ M',Kp M M'->Q .non M'):wO (F_look_round [.ref m] M) Q E:=by
 have ne:rs≠[]:=by intro z;rw[z] at hl;simp at hl
 simp![F_look_round,ZaE,Zbo h,h];refine ZeF (fun i ρ M'=>M'=M/\ ∃ x y,ρ=[some (.ref m),x,y]) h ⟨rfl,_,_,rfl⟩ (fun i ρ M' hI=>by rw[hI.1];exact h) ?_ ?_
 ·rintro i ρ M' hi ⟨e,x,y,rfl⟩
  rw[e];clear e M';rw[ZB] at hi;rw[CC.Z7];simp![Zao];refine Zpd ?_
  rw[hg _ (ZaN ne),decide_eq_true rfl];simp![Zj];exact ⟨_,_,rfl⟩
 rintro ρ M' ⟨e,x,y,rfl⟩
 rw[e];clear e M';exact Zl7 h hl hb hg h1 h2 h3
end
end CG
end
section
namespace CJ
open PySem PySem.Spec L2 DL
open CC (F_law_cross)
open CR (F_law_whole)
end CJ
end
section
namespace CJ
open PySem PySem.Spec L2 DL
open CB (Bd)
open CV (Kp)
open CG (met Zd3 NR)
noncomputable def ZsQ (M:Sto)(x:D):Prop:= ∃ t,ZaA M x=some t/\(Zco t "int"=false\/t="bool")
noncomputable def Odd (M:Sto)(d:D):Prop:=(∃ t,ZaA M d=some t/\Zco t "tuple"=false)\/ ∃ xs,d= .tup xs/\(xs.length≠2\/ ∃ x y,xs=[x,y]/\(ZsQ M x\/(∃ i,x= .int i)/\ZsQ M y))
noncomputable def El (M:Sto)(d:D):Option Pt->Prop
 |some p=>d=pr p.1 p.2/\Bd 5000 p
 |none=>Odd M d
noncomputable def Zl8 (o:Option Pt):Bool:=match o with | some p=>decide (Int.gcd p.1 p.2=1) | none=>false
inductive Res:List (Option Pt)->Option (Str × Nat)->Prop where
 |ray {L:List (Option Pt)} (i:Nat) (h:i < L.length):(∀ j (hj:j < L.length),j < i->Zl8 L[j]=true)->Zl8 L[i]=false->Res L (some (PySem.Str.ofString "ray",i))
 |wedge {rs:List Pt} (i:Nat) (h:i < rs.length):(∀ p∈rs,Int.gcd p.1 p.2=1)->(∀ j:Nat,j < i->0 < X (cy rs j) (cy rs (j + 1)))-> ¬ 0 < X (cy rs i) (cy rs (i + 1))->Res (rs.map some) (some (PySem.Str.ofString "wedge",i))
 |turns {rs:List Pt}:(∀ p∈rs,Int.gcd p.1 p.2=1)->(∀ j:Nat,j < rs.length->0 < X (cy rs j) (cy rs (j + 1)))->1 < Zd3 rs->Res (rs.map some) (some (PySem.Str.ofString "turns",0))
 |fine {rs:List Pt}:(∀ p∈rs,Int.gcd p.1 p.2=1)->(∀ j:Nat,j < rs.length->0 < X (cy rs j) (cy rs (j + 1)))->Zd3 rs<=1->Res (rs.map some) none
theorem least {p:Nat->Prop}: ∀ n,p n-> ∃ m,p m/\ ∀ j,j < m-> ¬ p j:=by
 intro n
 induction n using Nat.strongRecOn with
 |ind n ih=>
  intro h
  by_cases c: ∃ j,j < n/\p j
  ·obtain ⟨j,a,b⟩:=c
   exact ih j a b
  ·exact ⟨n,h,fun j hj z=>c ⟨j,hj,z⟩⟩
theorem Zf6: ∀ {L:List (Option Pt)},(∀ o∈L,Zl8 o=true)-> ∃ rs:List Pt,L=rs.map some/\ ∀ p∈rs,Int.gcd p.1 p.2=1
 | [],_=>⟨[],rfl,fun p hp=>by simp at hp⟩
 |o :: L,h=>by
  obtain ⟨rs,e,g⟩:=Zf6 (L:=L) fun x hx=>h x (by simp[hx])
  have:=h o (by simp)
  cases o with
  |none=>cases this
  |some p=>
   refine ⟨p :: rs,by rw[e];rfl,fun q hq=> ?_⟩
   rcases List.mem_cons.mp hq with rfl | hq
   ·exact of_decide_eq_true this
   ·exact g q hq
theorem Res.ex (L:List (Option Pt)): ∃ r,Res L r:=by
 by_cases c: ∃ i,∃ h:i < L.length,Zl8 L[i]=false
 ·obtain ⟨n,hn⟩:=c
  obtain ⟨i,⟨hi,e⟩,hm⟩:=least (p:=fun i=> ∃ h:i < L.length,Zl8 L[i]=false) n hn
  refine ⟨_,.ray i hi (fun j hj hlt=> ?_) e⟩
  cases z:Zl8 L[j] with
  |true=>rfl
  |false=>exact absurd ⟨hj,z⟩ (hm j hlt)
 ·obtain ⟨rs,rfl,g⟩:=Zf6 (L:=L) fun o ho=>by
   obtain ⟨i,hi,rfl⟩:=List.getElem_of_mem ho
   cases z:Zl8 L[i] with
   |true=>rfl
   |false=>exact absurd ⟨i,hi,z⟩ c
  by_cases c2: ∃ i:Nat,i < rs.length/\ ¬ 0 < X (cy rs i) (cy rs (i + 1))
  ·obtain ⟨n,hn⟩:=c2
   obtain ⟨i,⟨hi,e⟩,hm⟩:=least (p:=fun (i:Nat)=>i < rs.length/\ ¬ 0 < X (cy rs i) (cy rs (i + 1))) n hn
   refine ⟨_,.wedge i hi g (fun j hj=> ?_) e⟩
   exact Classical.byContradiction fun z=>hm j hj ⟨by omega,z⟩
  ·have pos: ∀ j:Nat,j < rs.length->0 < X (cy rs j) (cy rs (j + 1)):=fun j hj=>Classical.byContradiction fun z=>c2 ⟨j,hj,z⟩
   by_cases c3:1 < Zd3 rs
   ·exact ⟨_,.turns g pos c3⟩
   ·exact ⟨_,.fine g pos (by omega)⟩
section
variable {Q:D->Sto->Prop}{E:Str->Sto->Prop}{N B C:Ro->Sto->Prop}{R:D->Sto->Prop}{M M':Sto}{m:Nat}{rs:List Pt}{u v:Pt}{d:D}{o:Option Pt}{ds:List D}{L:List (Option Pt)}{r:Option (Str × Nat)}
noncomputable def sm (f:Int->Nat)(a:Int):Nat->Nat
 |0=>0
 |k + 1=>sm f a k + f (a + k)
end
end CJ
end
section
namespace DL
open PySem PySem.Spec L2
open CV (Kp)
noncomputable def tre (M:Sto):Nat->D->Option PyData
 |0,_=>none
 |k + 1,d=>match d with
  | .non=>some .none
  | .bl b=>some (.bool b)
  | .int i=>some (.int i)
  | .str x=>some (.str x)
  | .tup xs=>(ZaH (tre M k) xs).map .tuple
  | .ref n=>(match M[n]? with | some (.lst xs)=>(ZaH (tre M k) xs).map .list | none=>none)
  |_=>none
section
variable {M M' N:Sto}{k:Nat}{d:D}{t:PyData}
theorem Zf7 {f g:D->Option PyData}(h: ∀ d t,f d=some t->g d=some t): ∀ (xs:List D) (ts:List PyData),ZaH f xs=some ts->ZaH g xs=some ts
 | [],ts,e=>e
 |x :: r,ts,e=>by
  unfold ZaH at e ⊢
  split at e
  ·rename_i a b e1 e2
   rw[h x a e1,Zf7 h r b e2];exact e
  ·cases e
theorem ZR {f:D->Option PyData}: ∀ {xs:List D} {ts:List PyData},ZaH f xs=some ts ↔ xs.length=ts.length/\ ∀ i (h:i < xs.length) (h':i < ts.length),f xs[i]=some ts[i]
 | [],[]=>by simp[ZaH]
 | [],t :: ts=>by simp[ZaH]
 |x :: r,[]=>by
  unfold ZaH
  constructor
  ·intro e
   split at e<;>cases e
  ·rintro ⟨e,_⟩
   cases e
 |x :: r,t :: ts=>by
  unfold ZaH
  constructor
  ·intro e
   split at e
   ·rename_i a b e1 e2
    cases e
    obtain ⟨l,g⟩:=ZR.mp e2
    refine ⟨by rw[List.length_cons,List.length_cons,l],fun i h h'=> ?_⟩
    cases i with
    |zero=>exact e1
    |succ i=>exact g i (by simpa using h) (by simpa using h')
   ·cases e
  ·rintro ⟨l,g⟩
   have e1:=g 0 (by simp) (by simp)
   have e2:ZaH f r=some ts:=ZR.mpr ⟨by simpa using l,fun i h h'=>g (i + 1) (by simp;omega) (by simp;omega)⟩
   simp only[List.getElem_cons_zero] at e1;rw[e1,e2]
noncomputable def Poi:SO:= .lst [.fn (PySem.Str.ofString "")]
theorem ZkG {x:Str}:tre M k (.fn x)=none:=by cases k<;>rfl
theorem Zfk (h: ∀ (j:Nat) o,M[j]?=some o->o≠Poi->N[j]?=some o): ∀ (k:Nat) (d:D) (t:PyData),tre M k d=some t->tre N k d=some t
 |0,_,_,e=>e
 |k + 1,d,t,e=>by
  have ih:=Zf7 (Zfk h k)
  have mp: ∀ {c:List PyData->PyData} {xs:List D},(ZaH (tre M k) xs).map c=some t->(ZaH (tre N k) xs).map c=some t:=fun {c xs} e=>by
   obtain ⟨ts,e1,e2⟩:=Option.map_eq_some_iff.mp e
   rw[ih xs ts e1,<- e2];rfl
  cases d with
  |tup xs=>exact mp e
  |ref j=>
   change (match M[j]? with | some (.lst xs)=>(ZaH (tre M k) xs).map PyData.list | none=>none)=some t at e
   show (match N[j]? with | some (.lst xs)=>(ZaH (tre N k) xs).map PyData.list | none=>none)=some t
   cases em:M[j]? with
   |none=>rw[em] at e;cases e
   |some o=>
    cases o with
    |lst xs=>
     rw[em] at e;have ne:SO.lst xs≠Poi:=fun z=>by
      cases z
      change (ZaH (tre M k) [.fn (PySem.Str.ofString "")]).map PyData.list=some t at e
      have z:ZaH (tre M k) [.fn (PySem.Str.ofString "")]=none:=by rw[ZaH,ZkG]
      rw[z] at e;cases e
     rw[h j _ em ne];exact mp e
  |_=>exact e
theorem ZiK (h:Kp M N)(e:tre M k d=some t):tre N k d=some t:=Zfk (fun j o z _=>h.get z) k d t e
noncomputable def poi (P:Nat->Bool)(M:Sto):Sto:=M.mapIdx fun i o=>if P i=true then Poi else o
theorem Zf8 {P:Nat->Bool}{j:Nat}:(poi P M)[j]?=M[j]?.map fun o=>if P j=true then Poi else o:=by unfold poi;rw[List.getElem?_mapIdx]
theorem Zpf (M:Sto):poi (fun _=>false) M=M:=by
 apply List.ext_getElem?
 intro j;rw[Zf8];cases M[j]?<;>rfl
theorem ZdW {P P':Nat->Bool}(hp: ∀ (j:Nat),P' j=true->P j=true\/M[j]?=none)(h: ∀ (j:Nat) o,P j=false->M[j]?=some o->M'[j]?=some o)(e:tre (poi P M) k d=some t):tre (poi P' M') k d=some t:=by
 refine Zfk (fun j o z ne=> ?_) k d t e
 rw[Zf8] at z ⊢;cases em:M[j]? with
 |none=>rw[em] at z;cases z
 |some o'=>
  rw[em] at z;simp only[Option.map_some,Option.some.injEq] at z
  by_cases c:P j=true
  ·rw[if_pos c] at z
   exact absurd z.symm ne
  ·rw[if_neg c] at z
   subst z;have c': ¬ P' j=true:=fun q=>by
    rcases hp j q with q | q
    ·exact c q
    ·rw[em] at q;cases q
   rw[h j _ (by simpa using c) em]
   simp only[Option.map_some,if_neg c']
theorem Zdb {i:Int}(e:tre M k d=some (.int i)):d= .int i:=by
 cases k with
 |zero=>cases e
 |succ k=>
  cases d with
  |int j=>cases e;rfl
  |tup xs=>obtain ⟨_,_,z⟩:=Option.map_eq_some_iff.mp e;cases z
  |ref n=>
   change (match M[n]? with | some (.lst xs)=>(ZaH (tre M k) xs).map PyData.list | none=>none)=_ at e
   cases em:M[n]? with
   |none=>rw[em] at e;cases e
   |some o=>cases o with | lst xs=>rw[em] at e;obtain ⟨_,_,z⟩:=Option.map_eq_some_iff.mp e;cases z
  |_=>cases e
theorem ZdX {i:Bool}(e:tre M k d=some (.bool i)):d= .bl i:=by
 cases k with
 |zero=>cases e
 |succ k=>
  cases d with
  |bl j=>cases e;rfl
  |tup xs=>obtain ⟨_,_,z⟩:=Option.map_eq_some_iff.mp e;cases z
  |ref n=>
   change (match M[n]? with | some (.lst xs)=>(ZaH (tre M k) xs).map PyData.list | none=>none)=_ at e
   cases em:M[n]? with
   |none=>rw[em] at e;cases e
   |some o=>cases o with | lst xs=>rw[em] at e;obtain ⟨_,_,z⟩:=Option.map_eq_some_iff.mp e;cases z
  |_=>cases e
theorem Zfl {i:Str}(e:tre M k d=some (.str i)):d= .str i:=by
 cases k with
 |zero=>cases e
 |succ k=>
  cases d with
  |str j=>cases e;rfl
  |tup xs=>obtain ⟨_,_,z⟩:=Option.map_eq_some_iff.mp e;cases z
  |ref n=>
   change (match M[n]? with | some (.lst xs)=>(ZaH (tre M k) xs).map PyData.list | none=>none)=_ at e
   cases em:M[n]? with
   |none=>rw[em] at e;cases e
   |some o=>cases o with | lst xs=>rw[em] at e;obtain ⟨_,_,z⟩:=Option.map_eq_some_iff.mp e;cases z
  |_=>cases e
theorem Zcj {ts:List PyData}(e:tre M k d=some (.tuple ts)): ∃ l xs,k=l + 1/\d= .tup xs/\ZaH (tre M l) xs=some ts:=by
 cases k with
 |zero=>cases e
 |succ k=>
  cases d with
  |tup xs=>obtain ⟨us,z1,z⟩:=Option.map_eq_some_iff.mp e;cases z;exact ⟨k,xs,rfl,rfl,z1⟩
  |ref n=>
   change (match M[n]? with | some (.lst xs)=>(ZaH (tre M k) xs).map PyData.list | none=>none)=_ at e
   cases em:M[n]? with
   |none=>rw[em] at e;cases e
   |some o=>cases o with | lst xs=>rw[em] at e;obtain ⟨_,_,z⟩:=Option.map_eq_some_iff.mp e;cases z
  |_=>cases e
theorem ZdY {ts:List PyData}(e:tre M k d=some (.list ts)): ∃ l n xs,k=l + 1/\d= .ref n/\M[n]?=some (.lst xs)/\ZaH (tre M l) xs=some ts:=by
 cases k with
 |zero=>cases e
 |succ k=>
  cases d with
  |tup xs=>obtain ⟨us,z1,z⟩:=Option.map_eq_some_iff.mp e;cases z
  |ref n=>
   change (match M[n]? with | some (.lst xs)=>(ZaH (tre M k) xs).map PyData.list | none=>none)=_ at e
   cases em:M[n]? with
   |none=>rw[em] at e;cases e
   |some o=>cases o with | lst xs=>rw[em] at e;obtain ⟨us,z1,z⟩:=Option.map_eq_some_iff.mp e;cases z;exact ⟨k,n,xs,rfl,rfl,em,z1⟩
  |_=>cases e
theorem Zck {l:Nat}{xs:List D}{ts:List PyData}(e:ZaH (tre M l) xs=some ts):tre M (l + 1) (.tup xs)=some (.tuple ts):=by
 show (ZaH (tre M l) xs).map PyData.tuple=_
 rw[e];rfl
theorem Zcl {l n:Nat}{xs:List D}{ts:List PyData}(h:M[n]?=some (.lst xs))(e:ZaH (tre M l) xs=some ts):tre M (l + 1) (.ref n)=some (.list ts):=by
 show (match M[n]? with | some (.lst xs)=>(ZaH (tre M l) xs).map PyData.list | none=>none)=_
 rw[h];show (ZaH (tre M l) xs).map PyData.list=_
 rw[e];rfl
theorem Zfm {f:D->D->Option Bool}{g:D->Option PyData}(h: ∀ a b t,g a=some t->g b=some t->f a b=some true): ∀ {xs ys:List D} {ts:List PyData},ZaH g xs=some ts->ZaH g ys=some ts->eqL f xs ys=some true
 | [],[],_,_,_=>rfl
 | [],y :: ys,ts,e1,e2=>by
  cases e1
  have:=(ZR.mp e2).1
  cases this
 |x :: xs,[],ts,e1,e2=>by
  cases e2
  have:=(ZR.mp e1).1
  cases this
 |x :: xs,y :: ys,ts,e1,e2=>by
  unfold ZaH at e1 e2
  split at e1
  ·rename_i a b a1 a2
   cases e1
   split at e2
   ·rename_i a' b' b1 b2
    cases e2
    have e3:=h x y a a1 b1
    have e4:=Zfm h a2 b2
    unfold eqL;rw[e3,e4];rfl
   ·cases e2
  ·cases e1
theorem ZiL: ∀ {k:Nat} {a b:D} {t:PyData} (j:Nat),tre M k a=some t->tre M k b=some t->eqF (k + j) M a b=some true
 |0,_,_,_,_,e,_=>by cases e
 |k + 1,a,b,t,j,e1,e2=>by
  have ih: ∀ a b t,tre M k a=some t->tre M k b=some t->eqF (k + j) M a b=some true:=fun a b t x y=>ZiL j x y
  rw[show k + 1 + j=(k + j) + 1 by omega]
  cases t with
  |none=>
   have n1:a= .non:=by
    cases a with
    |non=>rfl
    |tup xs=>obtain ⟨_,_,z⟩:=Option.map_eq_some_iff.mp e1;cases z
    |ref n=>
     change (match M[n]? with | some (.lst xs)=>(ZaH (tre M k) xs).map PyData.list | none=>none)=_ at e1
     cases em:M[n]? with
     |none=>rw[em] at e1;cases e1
     |some o=>cases o with | lst xs=>rw[em] at e1;obtain ⟨_,_,z⟩:=Option.map_eq_some_iff.mp e1;cases z
    |_=>cases e1
   have n2:b= .non:=by
    cases b with
    |non=>rfl
    |tup xs=>obtain ⟨_,_,z⟩:=Option.map_eq_some_iff.mp e2;cases z
    |ref n=>
     change (match M[n]? with | some (.lst xs)=>(ZaH (tre M k) xs).map PyData.list | none=>none)=_ at e2
     cases em:M[n]? with
     |none=>rw[em] at e2;cases e2
     |some o=>cases o with | lst xs=>rw[em] at e2;obtain ⟨_,_,z⟩:=Option.map_eq_some_iff.mp e2;cases z
    |_=>cases e2
   subst n1 n2;rfl
  |int i=>
   rw[Zdb e1,Zdb e2];show some (i == i)=some true
   simp
  |bool i=>
   rw[ZdX e1,ZdX e2];show some (i == i)=some true
   simp
  |str i=>
   rw[Zfl e1,Zfl e2];show some (i == i)=some true
   simp
  |tuple ts=>
   obtain ⟨l,xs,rfl',rfl,h1⟩:=Zcj e1
   obtain ⟨l',ys,rfl'',rfl,h2⟩:=Zcj e2
   cases rfl'
   cases rfl''
   exact Zfm ih h1 h2
  |list ts=>
   obtain ⟨l,m,xs,rfl',rfl,hm,h1⟩:=ZdY e1
   obtain ⟨l',n,ys,rfl'',rfl,hn,h2⟩:=ZdY e2
   cases rfl'
   cases rfl''
   show (match kd M (.ref m),kd M (.ref n) with | some a,some b=>eqK (eqF (k + j) M) a b | _,_=>none)=some true
   simp only[kd,hm,hn];show (if xs.length=ys.length then eqL (eqF (k + j) M) xs ys else some false)=some true
   rw[if_pos ((ZR.mp h1).1.trans (ZR.mp h2).1.symm)];exact Zfm ih h1 h2
  |_=>
   exfalso
   cases a with
   |tup xs=>obtain ⟨_,_,z⟩:=Option.map_eq_some_iff.mp e1;cases z
   |ref n=>
    change (match M[n]? with | some (.lst xs)=>(ZaH (tre M k) xs).map PyData.list | none=>none)=_ at e1
    cases em:M[n]? with
    |none=>rw[em] at e1;cases e1
    |some o=>cases o with | lst xs=>rw[em] at e1;obtain ⟨_,_,z⟩:=Option.map_eq_some_iff.mp e1;cases z
   |_=>cases e1
end
end DL
end
section
end
section
end
section
end
section
end
section
namespace K68
open CC (Zbk F_law_cell_at Zam Zan Zba F_law_turn ZaY Zby F_law_smooth Zc2 F_law_cross Zci F_law_tags ZaX F_following Za9 F_crossed ZW Zau F_unspanned ZaB F_ask_smooth Zae F_ask_place)
open CR (Za1 F_law_whole ZaS F_is_whole ZaD Za4 F_greatest_divisor)
open CG (Zb5 F_is_pair ZdU F_common ZdV F_is_ray Za2 F_met_direction Zao Zap ZaE F_look_round)
open CE (Zc8 F_numbers Za0 F_taken_out)
open CF (Za5 ZbR F_law_rough)
open PySem PySem.Spec L2 DL
noncomputable abbrev Zcv:Stmt:=Zjd (top 3) 0
structure Txt (K:PySem.W.Frag) (mg:Str->Option Value):Prop extends Bs mg where
 gl: ∀ c v,PySem.W.nsIn K mainGlobals c=some (some v)->mg c=some v
 d:Dfs K top tab
 in_NoRound: ∃ f fd,IniOk K "NoRound" "NoRound.__init__" Zcv f fd
 ct_NoRound:ZhE K "NoRound" [PySem.Str.ofString "NoRound"]=true
 ex_NotSmooth:Zmn K "NotSmooth"=true
 ex_NoPlace:Zmn K "NoPlace"=true
 ex_NoMinus:Zmn K "NoMinus"=true
 cu_NoPlace__NoMinus:Ze5 K "NoPlace" "NoMinus" [PySem.Str.ofString "NoPlace",PySem.Str.ofString "NoMinus"]=true
section
variable {P:Program}{w:World}{K:PySem.W.Frag}{mg:Str->Option Value}{base:Heap}
theorem Zl9:FnScope N3 N3 (Zy Zcv):=⟨rfl,rfl,rfl,by decide +kernel,rfl,by decide +kernel,by decide +kernel⟩
theorem ZdZ {f C:Addr}{fd:FuncData}(J:IniOk K "NoRound" "NoRound.__init__" Zcv f fd)(gl: ∀ c v,PySem.W.nsIn K mainGlobals c=some (some v)->mg c=some v)(hE:ExF K C f):FnOk P w K mg base (CXE P w) 1 f fd N3 (spI C):=
 ZlF (k:=0) (a:=PySem.Str.ofString "no round: ") (b:=PySem.Str.ofString " ") J.fn Zl9 (by decide +kernel) (by decide +kernel) fun cdv A outer s H E=>Zdx (ZgX (ZjA J.bs gl rfl hE rfl (Or.inl rfl) (Zqm rfl rfl (Or.inl rfl) (Or.inl rfl)))) (Zdx (ZlC hE hE.fw rfl (Or.inl rfl) rfl (Or.inl rfl)) (ZgW (ZlD hE hE.fa rfl (Or.inl rfl) rfl (Or.inl rfl))))
theorem Zuj {K:PySem.W.Frag}{fI c t:Nat}{m:Str}(lI:K.lookup fI=some ⟨.type "function",none,.func (PySem.W.fnOf "__init__" "NoRound.__init__" (Zbg Zcv) (ZaF Zcv) (Zy Zcv) .none .none .none (.str m t) none (.ref c) .none),#[]⟩)(cI:PySem.W.codeIn K (.ref c) "NoRound.__init__"=true)(kI:PySem.W.keepIn K (.ref fI)=true)(xI:Zie K "NoRound" fI=true)(bI:ZfV K "RayError"=true): ∃ f fd,IniOk K "NoRound" "NoRound.__init__" Zcv f fd:=
 have RI:=Zj7 (st:=Zcv) lI cI kI
 ⟨fI,_,xI,RI,bI,RI.binds (ps:=N3) fun _ _ _ _ _ _=>ZrW fun _ _ _=>rfl⟩
noncomputable def Zb6:Sv:=(Zz (ZN (gNm 6) (ZaQ (iEn (Zc (Zl F_law_tags (Zc (Zg 3) aNil)) aNil)) 2 [] (gTp (gCs (gNm 0) (gCs (gNm 1) gNl))) (tv (e2 dEq (Zg 1) (ZeW (eC (.int 1))))) (Zg 0)))
 (sIf (ZbG (tv (e2 dGt (Zl bLen (Zc (Zg 3) aNil)) (Zg 4))) (tv (e2 dNe (Zg 6) (ZcJ aNil)))) (Zz (ZN (gNm 7) (e2 dIx (Zg 6) (e2 dMod (Zg 1) (Zl bLen (Zc (Zg 6) aNil)))))
 (Zz (ZN (gNm 1) (e2 dDiv (Zg 1) (eC (.int 7))))
 (Zz (ZcC (ZhI mApp (Zg 2) (Zc (Zg 7) aNil)))
 (ZN (gNm 3) (e2 dAdd (eSl (Zg 3) oNo (oSo (Zg 7))) (eSl (Zg 3) (oSo (e2 dAdd (Zg 7) (eC (.int 1)))) oNo)))))) sNil))
noncomputable def Zdr:Sv:=(Zz (ZN (gNm 2) (ZcJ aNil))
 (Zz (ZN (gNm 3) (Zl bList (Zc (Zg 0) aNil)))
 (Zz (ZN (gNm 4) (e2 dAdd (eC (.int 3)) (Zl bInt (Zc (e2 dGt (e2 dMod (Zg 1) (eC (.int 3))) (eC (.int 0))) aNil))))
 (Zz (ZN (gNm 1) (e2 dDiv (Zg 1) (eC (.int 3))))
 (Zz (ZbM (gNm 5) (Zc (Zl bLen (Zc (Zg 0) aNil)) aNil) Zb6)
 (ZM (Z1 (Zc (Zg 2) (Zc (Zg 3) aNil)))))))))
noncomputable def F_law_walk:List D->Sto->Out D:=fnF Zdr 2 6
noncomputable def Zbc:Sv:=(Zz (ZN (gNm 4) (e2 dMod (Zg 3) (eC (.int 12))))
 (Zz (ZN (gNm 3) (e2 dDiv (Zg 3) (eC (.int 12))))
 (Zz (ZN (gNm 5) (e2 dMod (Zg 3) (e2 dAdd (Zl bLen (Zc (Zg 1) aNil)) (eC (.int 1)))))
 (Zz (sIf (tv (e2 dEq (Zg 4) (eC (.int 0)))) (ZM (Z1 (Zc (Zg 0) (Zc (e2 dAdd (e2 dAdd (eSl (Zg 1) oNo (oSo (Zg 5))) (ZcJ (Zc (e2 dSub (e2 dMod (e2 dDiv (Zg 3) (eC (.int 20))) (eC (.int 5))) (eC (.int 1))) aNil))) (eSl (Zg 1) (oSo (Zg 5)) oNo)) (Zc (Zg 2) aNil))))) sNil)
 (Zz (sIf (tv (e2 dEq (Zg 4) (eC (.int 1)))) (ZM (Z1 (Zc (Zg 0) (Zc (e2 dAdd (eSl (Zg 1) oNo (oSo (Zg 5))) (eSl (Zg 1) (oSo (e2 dAdd (Zg 5) (eC (.int 1)))) oNo)) (Zc (Zg 2) aNil))))) sNil)
 (Zz (sIf (tv (e2 dEq (Zg 4) (eC (.int 2)))) (ZM (Z1 (Zc (Zg 0) (Zc (Zg 1) (Zc (e2 dAdd (eSl (Zg 2) (oSo (eC (.int 1))) oNo) (eSl (Zg 2) oNo (oSo (eC (.int 1))))) aNil))))) sNil)
 (Zz (sIf (tv (e2 dEq (Zg 4) (eC (.int 3)))) (ZM (Z1 (Zc (Zg 0) (Zc (Zg 1) (Zc (eSl (Zg 2) (oSo (eC (.int 1))) oNo) aNil))))) sNil)
 (Zz (sIf (tv (e2 dEq (Zg 4) (eC (.int 4)))) (ZM (Z1 (Zc (Zg 0) (Zc (Zg 1) (Zc (e2 dAdd (Zg 2) (ZcJ (Zc (Z1 (Zc (eC (.int 1)) (Zc (eC (.int 1)) aNil))) aNil))) aNil))))) sNil)
 (Zz (sIf (tv (e2 dEq (Zg 4) (eC (.int 5)))) (ZM (Z1 (Zc (Zg 0) (Zc (eSl (Zg 1) oNo (oSo (ZeW (eC (.int 1))))) (Zc (Zg 0) aNil))))) sNil)
 (Zz (sIf (tv (e2 dEq (Zg 4) (eC (.int 6)))) (ZM (Z1 (Zc (Zg 0) (Zc (ZaQ (iSq (Zg 1)) 1 [] (gNm 0) (fun _ M=> .ok true M) (e2 dIx (ZcJ (Zc (eC (.bl true)) (Zc (eC (.bl false)) aNil))) (Zl bInt (Zc (e2 dEq (Zg 0) (eC (.int 0))) aNil)))) (Zc (Zg 2) aNil))))) sNil)
 (Zz (sIf (tv (e2 dEq (Zg 4) (eC (.int 7)))) (ZM (Z1 (Zc (Zg 0) (Zc (Zl bTup (Zc (Zg 1) aNil)) (Zc (Zg 2) aNil))))) sNil)
 (Zz (sIf (tv (e2 dEq (Zg 4) (eC (.int 8)))) (ZM (Z1 (Zc (ZaQ (iSq (Zg 0)) 2 [] (gTp (gCs (gNm 0) (gCs (gNm 1) gNl))) (fun _ M=> .ok true M) (Z1 (Zc (e2 dMul (eC (.int 2)) (Zg 0)) (Zc (Zg 1) aNil)))) (Zc (Zg 1) (Zc (Zg 2) aNil))))) sNil)
 (ZM (Z1 (Zc (Zg 0) (Zc (Zg 1) (Zc (Zg 2) aNil)))))))))))))))))
noncomputable def F_law_spoilt_walk:List D->Sto->Out D:=fnF Zbc 4 2
noncomputable def Zb7:Sv:=(ZM (Zaz (Zdg "tuple" (Zg 0)) (Zaz (e2 dEq (Zl bLen (Zc (Zg 0) aNil)) (eC (.int 2))) (Zaz (Zl F_law_whole (Zc (e2 dIx (Zg 0) (eC (.int 0))) aNil)) (Zl F_law_whole (Zc (e2 dIx (Zg 0) (eC (.int 1))) aNil))))))
noncomputable def F_law_is_pair:List D->Sto->Out D:=fnF Zb7 1 0
noncomputable def ZbB:Sv:=(Zgo 0 1 (Zc (Zg 1) (Zc (e2 dMod (Zg 0) (Zg 1)) aNil)))
noncomputable def Zcw:Sv:=(Zz (ZN (gNm 0) (Zl bAbs (Zc (Zg 0) aNil)))
 (Zz (ZN (gNm 1) (Zl bAbs (Zc (Zg 1) aNil)))
 (Zz (sWh (tv (e2 dGt (Zg 1) (eC (.int 0)))) ZbB)
 (ZM (Zg 0)))))
noncomputable def F_law_common:List D->Sto->Out D:=fnF Zcw 2 0
noncomputable def Zbd:Sv:=(sIf (Zcd (Zab (tv (Zl F_law_is_pair (Zc (Zg 2) aNil)))) (tv (e2 dNe (Zl F_law_common (Zc (e2 dIx (Zg 2) (eC (.int 0))) (Zc (e2 dIx (Zg 2) (eC (.int 1))) aNil))) (eC (.int 1))))) (ZM (eC (.bl false))) sNil)
noncomputable def Zbe:Sv:=(Zz (ZN (gNm 5) (e2 dIx (Zg 0) (Zg 4)))
 (Zz (ZN (gNm 6) (e2 dIx (Zg 0) (e2 dMod (e2 dAdd (Zg 4) (eC (.int 1))) (Zl bLen (Zc (Zg 0) aNil)))))
 (Zz (ZN (gNm 7) (Zl F_law_cross (Zc (Zg 5) (Zc (Zg 6) aNil))))
 (Zz (sIf (Zcd (tv (e2 dLe (Zg 7) (eC (.int 0)))) (ZbG (tv (Zg 1)) (tv (e2 dNe (Zg 7) (eC (.int 1)))))) (ZM (eC (.bl false))) sNil)
 (sIf (Zcd (ZbG (tv (e2 dEq (e2 dIx (Zg 5) (eC (.int 1))) (eC (.int 0)))) (tv (e2 dGt (e2 dIx (Zg 5) (eC (.int 0))) (eC (.int 0))))) (ZbG (tv (e2 dGt (Zl F_law_cross (Zc (Zg 5) (Zc (Z1 (Zc (eC (.int 1)) (Zc (eC (.int 0)) aNil))) aNil))) (eC (.int 0)))) (tv (e2 dGt (Zl F_law_cross (Zc (Z1 (Zc (eC (.int 1)) (Zc (eC (.int 0)) aNil))) (Zc (Zg 6) aNil))) (eC (.int 0)))))) (ZN (gNm 3) (e2 dAdd (Zg 3) (eC (.int 1)))) sNil)))))
noncomputable def Za6:Sv:=(Zz (sIf (Zcd (Zab (tv (Zdg "list" (Zg 0)))) (tv (e2 dLt (Zl bLen (Zc (Zg 0) aNil)) (eC (.int 3))))) (ZM (eC (.bl false))) sNil)
 (Zz (Zlg (gNm 2) (Zg 0) Zbd)
 (Zz (ZN (gNm 3) (eC (.int 0)))
 (Zz (ZbM (gNm 4) (Zc (Zl bLen (Zc (Zg 0) aNil)) aNil) Zbe)
 (ZM (e2 dEq (Zg 3) (eC (.int 1))))))))
noncomputable def F_law_is_round:List D->Sto->Out D:=fnF Za6 2 6
noncomputable def Z8:Sv:=(Zz (sIf (Zcd (Zab (tv (Zl F_law_whole (Zc (Zg 4) aNil)))) (Zcd (Zab (tv (Zaz (e2 dLe (eC (.int 0)) (Zg 4)) (e2 dLt (Zg 4) (Zl bLen (Zc (Zg 3) aNil)))))) (tv (e2 dEq (Zl bLen (Zc (Zg 3) aNil)) (eC (.int 3)))))) (ZM (eC (.bl false))) sNil)
 (Zz (sIf (tv (e2 dNe (e2 dIx (Zl F_law_tags (Zc (Zg 3) aNil)) (Zg 4)) (ZeW (eC (.int 1))))) (ZM (eC (.bl false))) sNil)
 (ZN (gNm 3) (e2 dAdd (eSl (Zg 3) oNo (oSo (Zg 4))) (eSl (Zg 3) (oSo (e2 dAdd (Zg 4) (eC (.int 1)))) oNo)))))
noncomputable def Zav:Sv:=(Zz (sIf (Zcd (Zab (tv (Zl F_law_is_round (Zc (Zg 0) (Zc (eC (.bl true)) aNil))))) (Zab (tv (Zdg "list" (Zg 1))))) (ZM (eC (.bl false))) sNil)
 (Zz (ZN (gNm 3) (Zl bList (Zc (Zg 0) aNil)))
 (Zz (Zlg (gNm 4) (Zg 1) Z8)
 (ZM (Zaz (e2 dLe (Zl bLen (Zc (Zg 3) aNil)) (eC (.int 4))) (Zaz (Zdg "list" (Zg 2)) (Zaz (e2 dEq (Zg 3) (Zg 2)) (Zl F_law_is_round (Zc (Zg 2) (Zc (eC (.bl true)) aNil))))))))))
noncomputable def F_law_walk_stands:List D->Sto->Out D:=fnF Zav 3 2
noncomputable def ZK (F_law_copy:List D->Sto->Out D):Sv:=(Zz (sIf (tv (Zdg "list" (Zg 0))) (ZM (ZaQ (iSq (Zg 0)) 1 [] (gNm 0) (fun _ M=> .ok true M) (Zl F_law_copy (Zc (Zg 0) aNil)))) sNil)
 (Zz (sIf (tv (Zdg "tuple" (Zg 0))) (ZM (Zl bTup (Zc (ZaQ (iSq (Zg 0)) 1 [] (gNm 0) (fun _ M=> .ok true M) (Zl F_law_copy (Zc (Zg 0) aNil))) aNil))) sNil)
 (ZM (Zg 0))))
noncomputable def F_law_copy_0:List D->Sto->Out D:=fnF (Zz sBad (Zz sBad sBad)) 1 0
noncomputable def F_law_copy_1:List D->Sto->Out D:=fnF (ZK F_law_copy_0) 1 0
noncomputable def F_law_copy_2:List D->Sto->Out D:=fnF (ZK F_law_copy_1) 1 0
noncomputable def F_law_copy_3:List D->Sto->Out D:=fnF (ZK F_law_copy_2) 1 0
noncomputable def F_law_copy:List D->Sto->Out D:=fnF (ZK F_law_copy_3) 1 0
noncomputable def Zds:Sv:=(Zz (ZeA (ZcC (Zl F_look_round (Zc (Zg 0) aNil))) [PySem.Str.ofString "NoRound"] [false] (ZM (eC (.bl false))))
 (ZM (eC (.bl true))))
noncomputable def F_is_round:List D->Sto->Out D:=fnF Zds 1 0
noncomputable def Zdc:Sv:=(ZM (Zaz (Zl F_is_round (Zc (Zg 0) aNil)) (e2 dIs (Zl F_unspanned (Zc (Zg 0) aNil)) (eC .non))))
noncomputable def F_is_smooth:List D->Sto->Out D:=fnF Zdc 1 0
noncomputable def ZaI:Sv:=(Zz (sIf (Zab (tv (Zl F_is_whole (Zc (Zg 4) aNil)))) (ZM (eC (.bl false))) sNil)
 (ZeA (ZN (gNm 3) (Zl F_taken_out (Zc (Zg 3) (Zc (Zg 4) aNil)))) [PySem.Str.ofString "NoPlace",PySem.Str.ofString "NoMinus"] [false,false,false,true,false] (ZM (eC (.bl false)))))
noncomputable def Zbl:Sv:=(Zz (sIf (Zcd (Zab (tv (Zl F_is_smooth (Zc (Zg 0) aNil)))) (Zcd (Zab (tv (Zdg "list" (Zg 1)))) (Zab (tv (Zl F_is_round (Zc (Zg 2) aNil)))))) (ZM (eC (.bl false))) sNil)
 (Zz (ZN (gNm 3) (Zg 0))
 (Zz (Zlg (gNm 4) (Zg 1) ZaI)
 (ZM (Zaz (e2 dEq (Zg 3) (Zg 2)) (e2 dLe (Zl bLen (Zc (Zg 2) aNil)) (eC (.int 4))))))))
noncomputable def F_walk_stands:List D->Sto->Out D:=fnF Zbl 3 2
noncomputable def ZeN:Sv:=(ZM (e2 dEq (Zl bAbs (Zc (Zl F_crossed (Zc (Zg 0) (Zc (Zg 1) aNil))) aNil)) (eC (.int 1))))
noncomputable def F_spanned:List D->Sto->Out D:=fnF ZeN 2 0
noncomputable def ZbC:Sv:=(Zz (sIf (Zcd (Zab (tv (Zdg "tuple" (Zg 0)))) (tv (e2 dNe (Zl bLen (Zc (Zg 0) aNil)) (eC (.int 2))))) (ZM (eC (.bl false))) sNil)
 (ZM (Zaz (Zl F_is_pair (Zc (e2 dIx (Zg 0) (eC (.int 0))) aNil)) (Zaz (Zl F_is_pair (Zc (e2 dIx (Zg 0) (eC (.int 1))) aNil)) (Zl F_spanned (Zc (e2 dIx (Zg 0) (eC (.int 0))) (Zc (e2 dIx (Zg 0) (eC (.int 1))) aNil)))))))
noncomputable def F_is_turning:List D->Sto->Out D:=fnF ZbC 1 0
noncomputable def Zf9:Sv:=(Zz (ZN (gTp (gCs (gTp (gCs (gNm 2) (gCs (gNm 3) gNl))) (gCs (gTp (gCs (gNm 4) (gCs (gNm 5) gNl))) gNl))) (Zg 0))
 (Zz (ZN (gTp (gCs (gNm 6) (gCs (gNm 7) gNl))) (Zg 1))
 (ZM (Z1 (Zc (e2 dAdd (e2 dMul (Zg 2) (Zg 6)) (e2 dMul (Zg 3) (Zg 7))) (Zc (e2 dAdd (e2 dMul (Zg 4) (Zg 6)) (e2 dMul (Zg 5) (Zg 7))) aNil))))))
noncomputable def F_turned:List D->Sto->Out D:=fnF Zf9 2 6
noncomputable def ZaJ:Sv:=(Zz (sIf (Zcd (Zab (tv (Zl F_is_round (Zc (Zg 0) aNil)))) (Zcd (Zab (tv (Zl F_is_round (Zc (Zg 1) aNil)))) (Zab (tv (Zl F_is_turning (Zc (Zg 2) aNil)))))) (ZM (eC (.bl false))) sNil)
 (ZM (e2 dEq (Zl bSrt (Zc (ZaQ (iSq (Zg 0)) 1 [2] (gNm 0) (fun _ M=> .ok true M) (Zl F_turned (Zc (Zg 1) (Zc (Zg 0) aNil)))) aNil)) (Zl bSrt (Zc (Zg 1) aNil)))))
noncomputable def F_turning_stands:List D->Sto->Out D:=fnF ZaJ 3 0
noncomputable def Zd0:Sv:=(Zz (sIf (Zcd (Zab (tv (Zdg "tuple" (Zg 0)))) (tv (e2 dLt (Zl bLen (Zc (Zg 0) aNil)) (eC (.int 4))))) (ZM (eC (.bl false))) sNil)
 (Zz (Zgo 1 2 (Zc (e2 dIx (Zg 0) (eC (.int 0))) (Zc (eSl (Zg 0) (oSo (eC (.int 1))) oNo) aNil)))
 (Zz (sIf (ZbG (tv (e2 dEq (Zg 1) (eC (.str (PySem.Str.ofString "walk"))))) (tv (e2 dEq (Zl bLen (Zc (Zg 2) aNil)) (eC (.int 3))))) (ZM (Zl F_walk_stands (Zc (e2 dIx (Zg 2) (eC (.int 0))) (Zc (e2 dIx (Zg 2) (eC (.int 1))) (Zc (e2 dIx (Zg 2) (eC (.int 2))) aNil))))) sNil)
 (Zz (sIf (ZbG (tv (e2 dEq (Zg 1) (eC (.str (PySem.Str.ofString "turning"))))) (tv (e2 dEq (Zl bLen (Zc (Zg 2) aNil)) (eC (.int 3))))) (ZM (Zl F_turning_stands (Zc (e2 dIx (Zg 2) (eC (.int 0))) (Zc (e2 dIx (Zg 2) (eC (.int 1))) (Zc (e2 dIx (Zg 2) (eC (.int 2))) aNil))))) sNil)
 (Zz (sIf (ZbG (tv (e2 dEq (Zg 1) (eC (.str (PySem.Str.ofString "wedge"))))) (tv (e2 dEq (Zl bLen (Zc (Zg 2) aNil)) (eC (.int 4))))) sBad sNil)
 (Zz (sIf (ZbG (tv (e2 dEq (Zg 1) (eC (.str (PySem.Str.ofString "parting"))))) (tv (e2 dEq (Zl bLen (Zc (Zg 2) aNil)) (eC (.int 4))))) sBad sNil)
 (Zz (sIf (ZbG (tv (e2 dEq (Zg 1) (eC (.str (PySem.Str.ofString "none"))))) (tv (e2 dEq (Zl bLen (Zc (Zg 2) aNil)) (eC (.int 3))))) sBad sNil)
 (ZM (eC (.bl false))))))))))
noncomputable def F_stands:List D->Sto->Out D:=fnF Zd0 1 2
noncomputable def Zb8:Sv:=(Zz (ZN (gNm 4) (Zl F_stands (Zc (Zg 2) aNil)))
 (sIf (Zcd (Zab (tv (Zdg "bool" (Zg 4)))) (Zcd (tv (e2 dNe (Zg 4) (Zg 1))) (tv (e2 dNe (Zg 2) (Zg 0))))) (ZM (eC (.bl false))) sNil))
noncomputable def Zdt:Sv:=(Zz (ZN (gNm 2) (Zl F_law_copy (Zc (Zg 0) aNil)))
 (Zz (ZbM (gNm 3) (Zc (eC (.int 2)) aNil) Zb8)
 (ZM (eC (.bl true)))))
noncomputable def F_law_told:List D->Sto->Out D:=fnF Zdt 2 3
noncomputable def Zbp:Sv:=(Zz (ZN (gTp (gCs (gNm 2) (gCs (gNm 3) gNl))) (Zl F_law_walk (Zc (Zg 0) (Zc (Zg 1) aNil))))
 (Zz (sIf (Zab (tv (Zl F_law_told (Zc (Z1 (Zc (eC (.str (PySem.Str.ofString "walk"))) (Zc (Zg 0) (Zc (Zg 2) (Zc (Zg 3) aNil))))) (Zc (Zl F_law_walk_stands (Zc (Zg 0) (Zc (Zg 2) (Zc (Zg 3) aNil)))) aNil))))) (ZM (eC (.bl false))) sNil)
 (ZM (Zl F_law_told (Zc (Z1 (Zc (eC (.str (PySem.Str.ofString "walk"))) (Zc (Zg 0) (Zc (ZcJ aNil) (Zc (Zg 0) aNil))))) (Zc (Zl F_law_walk_stands (Zc (Zg 0) (Zc (ZcJ aNil) (Zc (Zg 0) aNil)))) aNil))))))
noncomputable def F_law_rough_told:List D->Sto->Out D:=fnF Zbp 2 2
noncomputable def Zb9:Sv:=(Zz (ZN (gNm 1) (Zl F_law_turn (Zc (ZcJ (Zc (Z1 (Zc (eC (.int 1)) (Zc (eC (.int 0)) aNil))) (Zc (Z1 (Zc (eC (.int 0)) (Zc (eC (.int 1)) aNil))) aNil))) (Zc (Zg 0) aNil))))
 (Zz (ZN (gNm 2) (e2 dIx (ZcJ (Zc (eC (.int 1)) (Zc (ZeW (eC (.int 1))) aNil))) (e2 dMod (e2 dDiv (Zg 0) (e2 dPow (eC (.int 10)) (eC (.int 12)))) (eC (.int 2)))))
 (ZM (Z1 (Zc (Z1 (Zc (e2 dMul (Zg 2) (e2 dIx (e2 dIx (Zg 1) (eC (.int 0))) (eC (.int 0)))) (Zc (e2 dIx (e2 dIx (Zg 1) (eC (.int 1))) (eC (.int 0))) aNil))) (Zc (Z1 (Zc (e2 dMul (Zg 2) (e2 dIx (e2 dIx (Zg 1) (eC (.int 0))) (eC (.int 1)))) (Zc (e2 dIx (e2 dIx (Zg 1) (eC (.int 1))) (eC (.int 1))) aNil))) aNil))))))
noncomputable def F_law_turning:List D->Sto->Out D:=fnF Zb9 1 2
noncomputable def ZeO:Sv:=(Zz (ZN (gTp (gCs (gTp (gCs (gNm 2) (gCs (gNm 3) gNl))) (gCs (gTp (gCs (gNm 4) (gCs (gNm 5) gNl))) gNl))) (Zg 0))
 (ZM (Z1 (Zc (e2 dAdd (e2 dMul (Zg 2) (e2 dIx (Zg 1) (eC (.int 0)))) (e2 dMul (Zg 3) (e2 dIx (Zg 1) (eC (.int 1))))) (Zc (e2 dAdd (e2 dMul (Zg 4) (e2 dIx (Zg 1) (eC (.int 0)))) (e2 dMul (Zg 5) (e2 dIx (Zg 1) (eC (.int 1))))) aNil)))))
noncomputable def F_law_led:List D->Sto->Out D:=fnF ZeO 2 4
noncomputable def ZaO:Sv:=(Zz (ZN (gNm 4) (e2 dMod (Zg 3) (eC (.int 14))))
 (Zz (ZN (gNm 3) (e2 dDiv (Zg 3) (eC (.int 14))))
 (Zz (ZN (gTp (gCs (gTp (gCs (gNm 5) (gCs (gNm 6) gNl))) (gCs (gTp (gCs (gNm 7) (gCs (gNm 8) gNl))) gNl))) (Zg 2))
 (Zz (sIf (tv (e2 dEq (Zg 4) (eC (.int 0)))) (ZM (Z1 (Zc (Zg 0) (Zc (Zg 1) (Zc (Z1 (Zc (Z1 (Zc (e2 dAdd (Zg 5) (eC (.int 1))) (Zc (Zg 6) aNil))) (Zc (Z1 (Zc (Zg 7) (Zc (Zg 8) aNil))) aNil))) aNil))))) sNil)
 (Zz (sIf (tv (e2 dEq (Zg 4) (eC (.int 1)))) (ZM (Z1 (Zc (Zg 1) (Zc (Zg 0) (Zc (Zg 2) aNil))))) sNil)
 (Zz (sIf (tv (e2 dEq (Zg 4) (eC (.int 2)))) (ZM (Z1 (Zc (Zg 0) (Zc (eSl (Zg 1) (oSo (eC (.int 1))) oNo) (Zc (Zg 2) aNil))))) sNil)
 (Zz (sIf (tv (e2 dEq (Zg 4) (eC (.int 3)))) (ZM (Z1 (Zc (Zg 0) (Zc (ZaQ (iSq (Zg 1)) 2 [] (gTp (gCs (gNm 0) (gCs (gNm 1) gNl))) (fun _ M=> .ok true M) (Z1 (Zc (e2 dSub (eC (.int 0)) (Zg 0)) (Zc (e2 dSub (eC (.int 0)) (Zg 1)) aNil)))) (Zc (Zg 2) aNil))))) sNil)
 (Zz (sIf (tv (e2 dEq (Zg 4) (eC (.int 4)))) (ZM (Z1 (Zc (Zg 0) (Zc (Zg 1) (Zc (ZcJ (Zc (Z1 (Zc (Zg 5) (Zc (Zg 6) aNil))) (Zc (Z1 (Zc (Zg 7) (Zc (Zg 8) aNil))) aNil))) aNil))))) sNil)
 (Zz (sIf (tv (e2 dEq (Zg 4) (eC (.int 5)))) (ZM (Z1 (Zc (Zg 0) (Zc (Zl bLR (Zc (Zg 1) aNil)) (Zc (Zg 2) aNil))))) sNil)
 (Zz (sIf (tv (e2 dEq (Zg 4) (eC (.int 6)))) (ZM (Z1 (Zc (Zg 0) (Zc (Zg 1) (Zc (Z1 (Zc (Z1 (Zc (e2 dMul (eC (.int 2)) (Zg 5)) (Zc (e2 dMul (eC (.int 2)) (Zg 6)) aNil))) (Zc (Z1 (Zc (Zg 7) (Zc (Zg 8) aNil))) aNil))) aNil))))) sNil)
 (Zz (ZN (gNm 9) (e2 dMod (Zg 3) (Zl bLen (Zc (Zg 0) aNil))))
 (Zz (sIf (tv (e2 dEq (Zg 4) (eC (.int 7)))) (ZM (Z1 (Zc (Zl bLR (Zc (Zg 0) aNil)) (Zc (Zg 1) (Zc (Zg 2) aNil))))) sNil)
 (Zz (sIf (tv (e2 dEq (Zg 4) (eC (.int 8)))) (Zz (ZN (gNm 10) (e2 dMod (e2 dDiv (Zg 3) (eC (.int 64))) (Zl bLen (Zc (Zg 0) aNil))))
 (Zz (ZN (gNm 11) (Zl bList (Zc (Zg 0) aNil)))
 (Zz (ZpI (Zg 11) (Zg 9) (Zg 11) (Zg 10) (Z1 (Zc (e2 dIx (Zg 11) (Zg 10)) (Zc (e2 dIx (Zg 11) (Zg 9)) aNil))))
 (ZM (Z1 (Zc (Zg 11) (Zc (Zg 1) (Zc (Zg 2) aNil)))))))) sNil)
 (Zz (sIf (tv (e2 dEq (Zg 4) (eC (.int 9)))) (Zz (ZN (gNm 12) (Zl F_law_led (Zc (Zg 2) (Zc (e2 dIx (Zg 0) (Zg 9)) aNil))))
 (Zz (ZN (gNm 13) (ZhI mIdx (Zg 1) (Zc (Zg 12) aNil)))
 (ZM (Z1 (Zc (e2 dAdd (e2 dAdd (eSl (Zg 0) oNo (oSo (Zg 9))) (ZcJ (Zc (e2 dIx (Zg 0) (Zg 9)) aNil))) (eSl (Zg 0) (oSo (Zg 9)) oNo)) (Zc (e2 dAdd (e2 dAdd (eSl (Zg 1) oNo (oSo (Zg 13))) (ZcJ (Zc (Zg 12) aNil))) (eSl (Zg 1) (oSo (Zg 13)) oNo)) (Zc (Zg 2) aNil))))))) sNil)
 (Zz (sIf (tv (e2 dEq (Zg 4) (eC (.int 10)))) (ZM (Z1 (Zc (e2 dAdd (eSl (Zg 0) (oSo (Zg 9)) oNo) (eSl (Zg 0) oNo (oSo (Zg 9)))) (Zc (Zg 1) (Zc (Zg 2) aNil))))) sNil)
 (ZM (Z1 (Zc (Zg 0) (Zc (Zg 1) (Zc (Zg 2) aNil))))))))))))))))))))
noncomputable def F_law_spoilt_turning:List D->Sto->Out D:=fnF ZaO 4 10
noncomputable def Z9:Sv:=(Zz (sIf (Zcd (Zab (tv (Zl F_law_is_round (Zc (Zg 0) (Zc (eC (.bl false)) aNil))))) (Zcd (Zab (tv (Zl F_law_is_round (Zc (Zg 1) (Zc (eC (.bl false)) aNil))))) (Zab (tv (Zdg "tuple" (Zg 2)))))) (ZM (eC (.bl false))) sNil)
 (Zz (sIf (Zcd (tv (e2 dNe (Zl bLen (Zc (Zg 2) aNil)) (eC (.int 2)))) (Zcd (Zab (tv (Zl F_law_is_pair (Zc (e2 dIx (Zg 2) (eC (.int 0))) aNil)))) (Zab (tv (Zl F_law_is_pair (Zc (e2 dIx (Zg 2) (eC (.int 1))) aNil)))))) (ZM (eC (.bl false))) sNil)
 (Zz (sIf (tv (e2 dNe (Zl bAbs (Zc (Zl F_law_cross (Zc (e2 dIx (Zg 2) (eC (.int 0))) (Zc (e2 dIx (Zg 2) (eC (.int 1))) aNil))) aNil)) (eC (.int 1)))) (ZM (eC (.bl false))) sNil)
 (ZM (e2 dEq (Zl bSrt (Zc (ZaQ (iSq (Zg 0)) 1 [2] (gNm 0) (fun _ M=> .ok true M) (Zl F_law_led (Zc (Zg 1) (Zc (Zg 0) aNil)))) aNil)) (Zl bSrt (Zc (Zg 1) aNil)))))))
noncomputable def F_law_turning_stands:List D->Sto->Out D:=fnF Z9 3 0
noncomputable def Zd1:Sv:=(Zz (ZN (gNm 2) (Zl F_law_cell_at (Zc (Zg 0) (Zc (Zg 1) aNil))))
 (Zz (ZN (gNm 3) (Zl F_law_cell_at (Zc (Zg 0) (Zc (e2 dAdd (Zg 1) (eC (.int 1))) aNil))))
 (Zz (ZN (gNm 4) (Zl F_law_smooth (Zc (e2 dDiv (Zg 2) (eC (.int 8))) (Zc (e2 dIx (ZcJ (Zc (eC (.int 14)) (Zc (eC (.int 14)) (Zc (eC (.int 14)) (Zc (eC (.int 14)) (Zc (eC (.int 14)) (Zc (eC (.int 14)) (Zc (eC (.int 14)) (Zc (eC (.int 40)) aNil))))))))) (e2 dMod (Zg 2) (eC (.int 8)))) aNil))))
 (Zz (ZN (gTp (gCs (gNm 5) (gCs (gNm 6) gNl))) (Zl F_law_walk (Zc (Zg 4) (Zc (Zg 3) aNil))))
 (Zz (ZN (gNm 7) (Zl F_law_spoilt_walk (Zc (Zg 4) (Zc (Zg 5) (Zc (Zg 6) (Zc (e2 dDiv (Zg 3) (e2 dPow (eC (.int 10)) (eC (.int 9)))) aNil))))))
 (Zz (sIf (Zab (tv (Zl F_law_told (Zc (Z1 (Zc (eC (.str (PySem.Str.ofString "walk"))) (Zc (e2 dIx (Zg 7) (eC (.int 0))) (Zc (e2 dIx (Zg 7) (eC (.int 1))) (Zc (e2 dIx (Zg 7) (eC (.int 2))) aNil))))) (Zc (Zl F_law_walk_stands (Zc (e2 dIx (Zg 7) (eC (.int 0))) (Zc (e2 dIx (Zg 7) (eC (.int 1))) (Zc (e2 dIx (Zg 7) (eC (.int 2))) aNil)))) aNil))))) (ZM (eC (.bl false))) sNil)
 (Zz (sIf (tv (e2 dEq (e2 dMod (e2 dDiv (Zg 2) (eC (.int 5))) (eC (.int 2))) (eC (.int 1)))) (Zz (ZN (gNm 4) (Zl F_law_rough (Zc (e2 dDiv (Zg 2) (eC (.int 10))) aNil)))
 (sIf (Zab (tv (Zl F_law_rough_told (Zc (Zg 4) (Zc (Zg 3) aNil))))) (ZM (eC (.bl false))) sNil)) sNil)
 (Zz (ZN (gNm 8) (Zl F_law_turning (Zc (Zg 3) aNil)))
 (Zz (ZN (gNm 9) (ZaQ (iSq (Zg 4)) 1 [8] (gNm 0) (fun _ M=> .ok true M) (Zl F_law_led (Zc (Zg 1) (Zc (Zg 0) aNil)))))
 (Zz (sIf (tv (e2 dLt (Zl F_law_cross (Zc (e2 dIx (Zg 8) (eC (.int 0))) (Zc (e2 dIx (Zg 8) (eC (.int 1))) aNil))) (eC (.int 0)))) (ZN (gNm 9) (Zl bLR (Zc (Zg 9) aNil))) sNil)
 (Zz (ZN (gNm 10) (e2 dMod (Zg 3) (Zl bLen (Zc (Zg 9) aNil))))
 (Zz (ZN (gNm 9) (e2 dAdd (eSl (Zg 9) (oSo (Zg 10)) oNo) (eSl (Zg 9) oNo (oSo (Zg 10)))))
 (Zz (ZN (gNm 7) (Zl F_law_spoilt_turning (Zc (Zg 4) (Zc (Zg 9) (Zc (Zg 8) (Zc (e2 dDiv (Zg 3) (e2 dPow (eC (.int 10)) (eC (.int 15)))) aNil))))))
 (Zz (ZN (gNm 11) (Zl F_law_turning_stands (Zc (e2 dIx (Zg 7) (eC (.int 0))) (Zc (e2 dIx (Zg 7) (eC (.int 1))) (Zc (e2 dIx (Zg 7) (eC (.int 2))) aNil)))))
 (sIf (Zab (tv (Zl F_law_told (Zc (Z1 (Zc (eC (.str (PySem.Str.ofString "turning"))) (Zc (e2 dIx (Zg 7) (eC (.int 0))) (Zc (e2 dIx (Zg 7) (eC (.int 1))) (Zc (e2 dIx (Zg 7) (eC (.int 2))) aNil))))) (Zc (Zg 11) aNil))))) (ZM (eC (.bl false))) sNil)))))))))))))))
noncomputable def Zpg:Sv:=(Zz (ZdF (gNm 1) (iR3 (Zc (eC (.int 0)) (Zc (Zl bMax (Zc (eC (.int 2)) (Zc (Zl bMin (Zc (Zl bLen (Zc (Zg 0) aNil)) (Zc (eC (.int 16)) aNil))) aNil))) (Zc (eC (.int 2)) aNil)))) Zd1)
 (ZM (eC (.bl true))))
noncomputable def Zfn:List D->Sto->Out D:=fnF Zpg 1 11
variable (T:Txt K mg)
include T
theorem C1:Cal P w K mg base "_law_cell_at" 1 2 F_law_cell_at:=ZO (N:=["_law_script","_law_k","_law_cell","_law_one"]) (T.d.at 36 53) T.gl fun _ _ _ _ _ _ _ nd hr θ=>(Zf (Zs 2 nd Zd)
  (Zf (ZA (Zq ZcN ZcU (Zb 1) (Zo Zk ZG T.b_len PySem.boot_len (Za (Zb 0) Ze))) (Zh (Zs 2 nd (ZI (Zw (Zb 0) (Zb 1)) (ZbU Zd Zd)))) Zm)
  (Zf (ZA (Zq ZcN ZcU (Zb 2) (ZbU Zd Zd)) (Zf (Zs 3 nd (ZI (Z2 (ZD (Zb 2) (Z2 Zd (ZD (Zb 1) Zd))) Zd) (ZbU Zd Zd)))
  (Zh (Zs 2 nd (ZI (ZU (Z2 (Zb 3) (Zb 3)) (ZbU Zd Zd)) (ZbU Zd Zd))))) Zm)
  (Zh (Zn (Zb 2))))))
theorem C2:Cal P w K mg base "_law_turn" 101 2 F_law_turn:=ZO (N:=["_law_rays","_law_cell","_law_k","_law_much","_law_way","_law_new","_law_x","_law_y"]) (T.d.at 38 55) T.gl fun _ _ _ _ _ _ _ nd hr θ=>(Zf (ZbE θ.own T.b_range (Za Zd Ze) (Zp 2 nd) (Zf (Zs 3 nd (Zaq (ZI (ZU (Zb 1) Zd) Zd) Zd))
  (Zf (ZA (Zq (ZC hr.units) ZL (ZI (ZU (Zb 1) Zd) Zd) Zd) (Zh (Zs 3 nd (Zaq (ZI (ZU (Zb 1) Zd) Zd) Zd))) Zm)
  (Zf (Zs 4 nd (ZI (Zb 1) Zd))
  (Zf (Zs 1 nd (ZU (Zb 1) Zd))
  (Zf (Zs 5 nd (Zak Ze))
  (Zf (ZfG θ.own (Zb 0) (Z3 (ZF hr (by decide)) (Zr (Zp 6 nd) (Zr (Zp 7 nd) ZP)) (hlen:=(Zx (Zx (fun _ _ _ h=>ZQ h))))) (Zh (ZA (Zq (ZC hr.units) ZL (Zb 4) Zd) (Zh (Zbv (Zbx (Zb 5) (Zt (Za (ZD (Zb 6) (Z2 (Zb 3) (Zb 7))) (Za (Zb 7) Ze)))))) (Zh (ZA (Zq (ZC hr.units) ZL (Zb 4) Zd) (Zh (Zbv (Zbx (Zb 5) (Zt (Za (Zb 6) (Za (ZD (Zb 7) (Z2 (Zb 3) (Zb 6))) Ze)))))) (Zh (ZA (Zq (ZC hr.units) ZL (Zb 4) Zd) (Zh (Zbv (Zbx (Zb 5) (Zt (Za (Zaq Zd (Zb 7)) (Za (Zb 6) Ze)))))) (Zh (Zbv (Zbx (Zb 5) (Zt (Za (Zb 6) (Za (Zb 7) Ze)))))))))))))
  (Zh (ZA (Zq Zd8 Zeh (Zo (ZhR (ZF hr (by decide))) Zlu T.b_max Zkk (Za (ZD (ZY (ZfK (N:=["_law_x","_law_y"]) (k:=2) (by decide +kernel) rfl (by decide +kernel) rfl) (ZaM (Zb 5)) (fun _ _ _ _=>(Z3 (ZF hr (by decide)) (Zr (Zp 0 (show List.Nodup (["_law_x","_law_y"]:List Str) by decide +kernel)) (Zr (Zp 1 (show List.Nodup (["_law_x","_law_y"]:List Str) by decide +kernel)) ZP)) (hlen:=(Zx (Zx (fun _ _ _ h=>ZQ h)))))) (fun _ _ _ _=>(Or.inl ⟨rfl,rfl⟩)) (fun _ _ _ _=>(Zo Zaw ZbL T.b_abs ZbN (Za (Zb 0) Ze)))) (ZY (ZfK (N:=["_law_x","_law_y"]) (k:=2) (by decide +kernel) rfl (by decide +kernel) rfl) (ZaM (Zb 5)) (fun _ _ _ _=>(Z3 (ZF hr (by decide)) (Zr (Zp 0 (show List.Nodup (["_law_x","_law_y"]:List Str) by decide +kernel)) (Zr (Zp 1 (show List.Nodup (["_law_x","_law_y"]:List Str) by decide +kernel)) ZP)) (hlen:=(Zx (Zx (fun _ _ _ h=>ZQ h)))))) (fun _ _ _ _=>(Or.inl ⟨rfl,rfl⟩)) (fun _ _ _ _=>(Zo Zaw ZbL T.b_abs ZbN (Za (Zb 1) Ze))))) Ze)) Zd) (Zh (Zs 0 nd (Zb 5))) Zm)))))))))
  (Zh (Zn (Zb 0))))
theorem C3:Cal P w K mg base "_law_smooth" 102 2 F_law_smooth:=ZO (N:=["_law_cell","_law_most","_law_count","_law_rays","_law_far","_law_k","_law_at","_law_one","_law_other","_law_more"]) (T.d.at 39 56) T.gl fun _ _ _ _ _ _ _ nd hr θ=>(Zf (Zs 2 nd (ZD Zd (ZI (Zb 0) (Zaq (Zb 1) Zd))))
  (Zf (Zs 0 nd (ZU (Zb 0) (Zaq (Zb 1) Zd)))
  (Zf (Zs 3 nd (Zak (Za (Zt (Za Zd (Za Zd Ze))) (Za (Zt (Za Zd (Za Zd Ze))) (Za (Zt (Za (Zbu Zd) (Za (Zbu Zd) Ze))) Ze)))))
  (Zf (ZA (Zca (Zbm (Zq Zcy ZcA (Zb 2) Zd) (ZaG (Zq Zcy ZcA (ZI (Zb 0) Zd) Zd)))) (Zf (Zs 4 nd (ZI (ZU (Zb 0) Zd) (Zw (Zak (Za Zd (Za Zd (Za Zd (Za Zd Ze))))) (ZI (ZU (Zb 0) Zd) Zd))))
  (Zh (Zs 3 nd (Zak (Za (Zt (Za Zd (Za Zd Ze))) (Za (Zt (Za Zd (Za Zd Ze))) (Za (Zt (Za (Zbu Zd) (Za (Zb 4) Ze))) (Za (Zt (Za Zd (Za (Zbu Zd) Ze))) Ze)))))))) Zm)
  (Zf (Zs 0 nd (ZU (Zb 0) Zd))
  (Zf (ZbE θ.own T.b_range (Za (Zaq (Zb 2) (Zo Zk ZG T.b_len PySem.boot_len (Za (Zb 3) Ze))) Ze) (Zp 5 nd) (Zf (Zs 6 nd (ZI (Zb 0) (Zo Zk ZG T.b_len PySem.boot_len (Za (Zb 3) Ze))))
  (Zf (Zs 0 nd (ZU (Zb 0) Zd))
  (Zf (Zs 7 nd (Zw (Zb 3) (Zb 6)))
  (Zf (Zs 8 nd (Zw (Zb 3) (ZI (ZD (Zb 6) Zd) (Zo Zk ZG T.b_len PySem.boot_len (Za (Zb 3) Ze)))))
  (Zf (Zs 9 nd (Zt (Za (ZD (Zw (Zb 7) Zd) (Zw (Zb 8) Zd)) (Za (ZD (Zw (Zb 7) Zd) (Zw (Zb 8) Zd)) Ze))))
  (Zh (ZA (Zca (Zbm (Zq Zd8 Zeh (Zo Zaw ZbL T.b_abs ZbN (Za (Zw (Zb 9) Zd) Ze)) Zd) (ZaG (Zq Zd8 Zeh (Zo Zaw ZbL T.b_abs ZbN (Za (Zw (Zb 9) Zd) Ze)) Zd)))) (Zh (Zs 3 nd (ZD (ZD (Zai (Zb 3) Zag (Zah (ZD (Zb 6) Zd))) (Zak (Za (Zb 9) Ze))) (Zai (Zb 3) (Zah (ZD (Zb 6) Zd)) Zag)))) Zm))))))))
  (Zf (Zs 3 nd (Zi (C2 T) θ hr (Za (Zb 3) (Za (Zb 0) Ze))))
  (Zf (Zs 6 nd (ZI (ZU (Zb 0) (ZbU Zd Zd)) (Zo Zk ZG T.b_len PySem.boot_len (Za (Zb 3) Ze))))
  (Zh (Zn (ZD (Zai (Zb 3) (Zah (Zb 6)) Zag) (Zai (Zb 3) Zag (Zah (Zb 6))))))))))))))
theorem C4:Cal P w K mg base "_law_cross" 1 2 F_law_cross:=ZO (N:=["_law_one","_law_other"]) (T.d.at 37 54) T.gl fun _ _ _ _ _ _ _ nd hr θ=>(Zh (Zn (Zaq (Z2 (Zw (Zb 0) Zd) (Zw (Zb 1) Zd)) (Z2 (Zw (Zb 0) Zd) (Zw (Zb 1) Zd)))))
theorem C5:Cal P w K mg base "_law_tags" 2 1 F_law_tags:=ZO (N:=["_law_rays","_law_many"]) (T.d.at 40 57) T.gl fun _ _ _ _ _ _ _ nd hr θ=>(Zf (Zs 1 nd (Zo Zk ZG T.b_len PySem.boot_len (Za (Zb 0) Ze)))
  (Zh (Zn (ZY (Zmm (XN:=["_law_rays","_law_many"]) (dn:=(Zy (top 57)).names) (N:=["_law_k","_law_rays","_law_many"]) (k:=1) (fr:=[0,1]) rfl rfl rfl rfl (by decide +kernel)) (Zen T.b_range (Za (Zb 1) Ze)) (fun _ _ _ _=>(Zp 0 (show List.Nodup (["_law_k","_law_rays","_law_many"]:List Str) by decide +kernel))) (fun _ _ _ _=>(Or.inl ⟨rfl,rfl⟩)) (fun _ _ _ _=>(Zaq Zd (Zi (C4 T) Z5 hr (Za (Zw (Zb 1) (Zaq (Zb 0) Zd)) (Za (Zw (Zb 1) (ZI (ZD (Zb 0) Zd) (Zb 2))) Ze)))))))))
theorem C6:Cal P w K mg base "_law_walk" 101 2 F_law_walk:=ZO (N:=["_law_rays","_law_cell","_law_places","_law_here","_law_least","_law_turn_here","_law_some","_law_at"]) (T.d.at 46 63) T.gl fun _ _ _ _ _ _ _ nd hr θ=>(Zf (Zs 2 nd (Zak Ze))
  (Zf (Zs 3 nd (Zac Zbs ZeX T.b_list Zas (Za (Zb 0) Ze)))
  (Zf (Zs 4 nd (ZD Zd (Zac Zd9 Zkf T.b_int ZfH (Za (ZaU Zcy ZcA (ZI (Zb 1) Zd) Zd) Ze))))
  (Zf (Zs 1 nd (ZU (Zb 1) Zd))
  (Zf (ZbE θ.own T.b_range (Za (Zo Zk ZG T.b_len PySem.boot_len (Za (Zb 0) Ze)) Ze) (Zp 5 nd) (Zf (ZhS 6 nd (ZfK (N:=["_law_k","_law_b"]) (k:=2) (by decide +kernel) rfl (by decide +kernel) rfl) (ZcV (hr.hd (by decide)) T.b_enumerate (Za (Zi (C5 T) θ hr (Za (Zb 3) Ze)) Ze)) (fun _ _ _ _=>(Z3 (ZF hr (by decide)) (Zr (Zp 0 (show List.Nodup (["_law_k","_law_b"]:List Str) by decide +kernel)) (Zr (Zp 1 (show List.Nodup (["_law_k","_law_b"]:List Str) by decide +kernel)) ZP)) (hlen:=(Zx (Zx (fun _ _ _ h=>ZQ h)))))) (fun _ _ _ _=>(Or.inr ⟨_,rfl,(Zq (ZC hr.units) ZL (Zb 1) (Zbu Zd))⟩)) (fun _ _ _ _=>(Zb 0)))
  (Zh (ZA (Zca (Zbm (Zq Zcy ZcA (Zo Zk ZG T.b_len PySem.boot_len (Za (Zb 3) Ze)) (Zb 4)) (ZaG (Zq (Zbn hr.units) ZcB (Zb 6) (Zak Ze))))) (Zf (Zs 7 nd (Zw (Zb 6) (ZI (Zb 1) (Zo Zk ZG T.b_len PySem.boot_len (Za (Zb 6) Ze)))))
  (Zf (Zs 1 nd (ZU (Zb 1) Zd))
  (Zf (Zbv (Zbx (Zb 2) (Zb 7)))
  (Zh (Zs 3 nd (ZD (Zai (Zb 3) Zag (Zah (Zb 7))) (Zai (Zb 3) (Zah (ZD (Zb 7) Zd)) Zag))))))) Zm))))
  (Zh (Zn (Zt (Za (Zb 2) (Za (Zb 3) Ze))))))))))
theorem C7:Cal P w K mg base "_law_spoilt_walk" 101 4 F_law_spoilt_walk:=ZO (N:=["_law_rays","_law_places","_law_last","_law_cell","_law_kind","_law_at"]) (T.d.at 50 67) T.gl fun _ _ _ _ _ _ _ nd hr θ=>(Zf (Zs 4 nd (ZI (Zb 3) Zd))
  (Zf (Zs 3 nd (ZU (Zb 3) Zd))
  (Zf (Zs 5 nd (ZI (Zb 3) (ZD (Zo Zk ZG T.b_len PySem.boot_len (Za (Zb 1) Ze)) Zd)))
  (Zf (ZA (Zq (ZC hr.units) ZL (Zb 4) Zd) (Zh (Zn (Zt (Za (Zb 0) (Za (ZD (ZD (Zai (Zb 1) Zag (Zah (Zb 5))) (Zak (Za (Zaq (ZI (ZU (Zb 3) Zd) Zd) Zd) Ze))) (Zai (Zb 1) (Zah (Zb 5)) Zag)) (Za (Zb 2) Ze)))))) Zm)
  (Zf (ZA (Zq (ZC hr.units) ZL (Zb 4) Zd) (Zh (Zn (Zt (Za (Zb 0) (Za (ZD (Zai (Zb 1) Zag (Zah (Zb 5))) (Zai (Zb 1) (Zah (ZD (Zb 5) Zd)) Zag)) (Za (Zb 2) Ze)))))) Zm)
  (Zf (ZA (Zq (ZC hr.units) ZL (Zb 4) Zd) (Zh (Zn (Zt (Za (Zb 0) (Za (Zb 1) (Za (ZD (Zai (Zb 2) (Zah Zd) Zag) (Zai (Zb 2) Zag (Zah Zd))) Ze)))))) Zm)
  (Zf (ZA (Zq (ZC hr.units) ZL (Zb 4) Zd) (Zh (Zn (Zt (Za (Zb 0) (Za (Zb 1) (Za (Zai (Zb 2) (Zah Zd) Zag) Ze)))))) Zm)
  (Zf (ZA (Zq (ZC hr.units) ZL (Zb 4) Zd) (Zh (Zn (Zt (Za (Zb 0) (Za (Zb 1) (Za (ZD (Zb 2) (Zak (Za (Zt (Za Zd (Za Zd Ze))) Ze))) Ze)))))) Zm)
  (Zf (ZA (Zq (ZC hr.units) ZL (Zb 4) Zd) (Zh (Zn (Zt (Za (Zb 0) (Za (Zai (Zb 1) Zag (Zah (Zbu Zd))) (Za (Zb 0) Ze)))))) Zm)
  (Zf (ZA (Zq (ZC hr.units) ZL (Zb 4) Zd) (Zh (Zn (Zt (Za (Zb 0) (Za (ZY (ZfK (N:=["_law_k"]) (k:=1) (by decide +kernel) rfl (by decide +kernel) rfl) (ZaM (Zb 1)) (fun _ _ _ _=>(Zp 0 (show List.Nodup (["_law_k"]:List Str) by decide +kernel))) (fun _ _ _ _=>(Or.inl ⟨rfl,rfl⟩)) (fun _ _ _ _=>(Zw (Zak (Za Zad (Za Zad Ze))) (Zac Zd9 Zkf T.b_int ZfH (Za (ZaU (ZC hr.units) ZL (Zb 0) Zd) Ze))))) (Za (Zb 2) Ze)))))) Zm)
  (Zf (ZA (Zq (ZC hr.units) ZL (Zb 4) Zd) (Zh (Zn (Zt (Za (Zb 0) (Za (Zac Zaj Zer T.b_tuple ZZ (Za (Zb 1) Ze)) (Za (Zb 2) Ze)))))) Zm)
  (Zf (ZA (Zq (ZC hr.units) ZL (Zb 4) Zd) (Zh (Zn (Zt (Za (ZY (ZfK (N:=["_law_x","_law_y"]) (k:=2) (by decide +kernel) rfl (by decide +kernel) rfl) (ZaM (Zb 0)) (fun _ _ _ _=>(Z3 (ZF hr (by decide)) (Zr (Zp 0 (show List.Nodup (["_law_x","_law_y"]:List Str) by decide +kernel)) (Zr (Zp 1 (show List.Nodup (["_law_x","_law_y"]:List Str) by decide +kernel)) ZP)) (hlen:=(Zx (Zx (fun _ _ _ h=>ZQ h)))))) (fun _ _ _ _=>(Or.inl ⟨rfl,rfl⟩)) (fun _ _ _ _=>(Zt (Za (Z2 Zd (Zb 0)) (Za (Zb 1) Ze))))) (Za (Zb 1) (Za (Zb 2) Ze)))))) Zm)
  (Zh (Zn (Zt (Za (Zb 0) (Za (Zb 1) (Za (Zb 2) Ze))))))))))))))))))
theorem C8:Cal P w K mg base "_law_whole" 1 1 F_law_whole:=ZO (N:=["_law_x"]) (T.d.at 42 59) T.gl fun _ _ _ _ _ _ _ nd hr θ=>(Zh (Zn (ZaL (Z0 Zhv T.b_isinstance T.b_int ZfH (Zb 0)) (ZbK (Zkc (Z0 ZdC T.b_isinstance T.b_bool ZeY (Zb 0)))))))
theorem C9:Cal P w K mg base "_law_is_pair" 2 1 F_law_is_pair:=ZO (N:=["_law_thing"]) (T.d.at 43 60) T.gl fun _ _ _ _ _ _ _ nd hr θ=>(Zh (Zn (ZaL (Z0 Zal T.b_isinstance T.b_tuple ZZ (Zb 0)) (ZaL (ZaU (ZC hr.units) ZL (Zo Zk ZG T.b_len PySem.boot_len (Za (Zb 0) Ze)) Zd) (ZaL (Zi (C8 T) θ hr (Za (Zw (Zb 0) Zd) Ze)) (ZbK (Zi (C8 T) θ hr (Za (Zw (Zb 0) Zd) Ze))))))))
theorem C10:Cal P w K mg base "_law_common" 101 2 F_law_common:=ZO (N:=["_law_one","_law_other"]) (T.d.at 44 61) T.gl fun _ _ _ _ _ _ _ nd hr θ=>(Zf (Zs 0 nd (Zo Zaw ZbL T.b_abs ZbN (Za (Zb 0) Ze)))
  (Zf (Zs 1 nd (Zo Zaw ZbL T.b_abs ZbN (Za (Zb 1) Ze)))
  (Zf (ZfE θ.own (Zq Zcy ZcA (Zb 1) Zd) (Zh (ZfD 0 1 (ZF hr (by decide)) nd (Za (Zb 1) (Za (ZI (Zb 0) (Zb 1)) Ze)))))
  (Zh (Zn (Zb 0))))))
theorem C11:Cal P w K mg base "_law_is_round" 102 2 F_law_is_round:=ZO (N:=["_law_thing","_law_smooth_here","_law_ray","_law_passed","_law_k","_law_here","_law_behind","_law_far"]) (T.d.at 45 62) T.gl fun _ _ _ _ _ _ _ nd hr θ=>(Zf (ZA (Zca (Za3 (ZT (ZH (Z0 ZaP T.b_isinstance T.b_list Zas (Zb 0)))) (ZaK (Zq ZcN ZcU (Zo Zk ZG T.b_len PySem.boot_len (Za (Zb 0) Ze)) Zd)))) (Zh (Zn Zad)) Zm)
  (Zf (ZfG θ.own (Zb 0) (Zp 2 nd) (Zh (ZA (Zca (Za3 (ZT (ZH (Zi (C9 T) θ hr (Za (Zb 2) Ze)))) (ZaK (Zq (Zbn hr.units) ZcB (Zi (C10 T) θ hr (Za (Zw (Zb 2) Zd) (Za (Zw (Zb 2) Zd) Ze))) Zd)))) (Zh (Zn Zad)) Zm)))
  (Zf (Zs 3 nd Zd)
  (Zf (ZbE θ.own T.b_range (Za (Zo Zk ZG T.b_len PySem.boot_len (Za (Zb 0) Ze)) Ze) (Zp 4 nd) (Zf (Zs 5 nd (Zw (Zb 0) (Zb 4)))
  (Zf (Zs 6 nd (Zw (Zb 0) (ZI (ZD (Zb 4) Zd) (Zo Zk ZG T.b_len PySem.boot_len (Za (Zb 0) Ze)))))
  (Zf (Zs 7 nd (Zi (C4 T) θ hr (Za (Zb 5) (Za (Zb 6) Ze))))
  (Zf (ZA (Zca (Za3 (Zq Zd8 Zeh (Zb 7) Zd) (ZaK (Zca (Zbm (ZH (Zb 1)) (ZaG (Zq (Zbn hr.units) ZcB (Zb 7) Zd))))))) (Zh (Zn Zad)) Zm)
  (Zh (ZA (Zca (Za3 (Zca (Zbm (Zq (ZC hr.units) ZL (Zw (Zb 5) Zd) Zd) (ZaG (Zq Zcy ZcA (Zw (Zb 5) Zd) Zd)))) (ZaK (Zca (Zbm (Zq Zcy ZcA (Zi (C4 T) θ hr (Za (Zb 5) (Za (Zt (Za Zd (Za Zd Ze))) Ze))) Zd) (ZaG (Zq Zcy ZcA (Zi (C4 T) θ hr (Za (Zt (Za Zd (Za Zd Ze))) (Za (Zb 6) Ze))) Zd))))))) (Zh (Zs 3 nd (ZD (Zb 3) Zd))) Zm)))))))
  (Zh (Zn (ZaU (ZC hr.units) ZL (Zb 3) Zd)))))))
theorem C12:Cal P w K mg base "_law_walk_stands" 103 3 F_law_walk_stands:=ZO (N:=["_law_rays","_law_places","_law_last","_law_here","_law_at"]) (T.d.at 47 64) T.gl fun _ _ _ _ _ _ _ nd hr θ=>(Zf (ZA (Zca (Za3 (ZT (ZH (Zi (C11 T) θ hr (Za (Zb 0) (Za Zad Ze))))) (ZaK (ZT (ZH (Z0 ZaP T.b_isinstance T.b_list Zas (Zb 1))))))) (Zh (Zn Zad)) Zm)
  (Zf (Zs 3 nd (Zac Zbs ZeX T.b_list Zas (Za (Zb 0) Ze)))
  (Zf (ZfG θ.own (Zb 1) (Zp 4 nd) (Zf (ZA (Zca (Za3 (ZT (ZH (Zi (C8 T) θ hr (Za (Zb 4) Ze)))) (Za3 (ZT (ZnK Zd8 Zeh ZcN ZcU ZnH Zd (Zb 4) (Zo Zk ZG T.b_len PySem.boot_len (Za (Zb 3) Ze)))) (ZaK (Zq (ZC hr.units) ZL (Zo Zk ZG T.b_len PySem.boot_len (Za (Zb 3) Ze)) Zd))))) (Zh (Zn Zad)) Zm)
  (Zf (ZA (Zq (Zbn hr.units) ZcB (Zw (Zi (C5 T) θ hr (Za (Zb 3) Ze)) (Zb 4)) (Zbu Zd)) (Zh (Zn Zad)) Zm)
  (Zh (Zs 3 nd (ZD (Zai (Zb 3) Zag (Zah (Zb 4))) (Zai (Zb 3) (Zah (ZD (Zb 4) Zd)) Zag)))))))
  (Zh (Zn (ZaL (ZaU Zd8 Zeh (Zo Zk ZG T.b_len PySem.boot_len (Za (Zb 3) Ze)) Zd) (ZaL (Z0 ZaP T.b_isinstance T.b_list Zas (Zb 2)) (ZaL (ZaU (ZC hr.units) ZL (Zb 3) (Zb 2)) (ZbK (Zi (C11 T) θ hr (Za (Zb 2) (Za Zad Ze))))))))))))
theorem Zph:Cal P w K mg base "_law_copy" 1 1 F_law_copy_0:=ZO (N:=["_law_thing"]) (T.d.at 53 70) T.gl fun _ _ _ _ _ _ _ nd hr θ=>(Zf Zdl (Zf Zdl (Zh Zdl)))
theorem Zpi:Cal P w K mg base "_law_copy" 2 1 F_law_copy_1:=ZO (N:=["_law_thing"]) (T.d.at 53 70) T.gl fun _ _ _ _ _ _ _ nd hr θ=>(Zf (ZA (ZH (Z0 ZaP T.b_isinstance T.b_list Zas (Zb 0))) (Zh (Zn (ZY (ZfK (N:=["_law_one"]) (k:=1) (by decide +kernel) rfl (by decide +kernel) rfl) (ZaM (Zb 0)) (fun _ _ _ _=>(Zp 0 (show List.Nodup (["_law_one"]:List Str) by decide +kernel))) (fun _ _ _ _=>(Or.inl ⟨rfl,rfl⟩)) (fun _ _ _ _=>(Zi (Zph T) Z5 hr (Za (Zb 0) Ze)))))) Zm)
  (Zf (ZA (ZH (Z0 Zal T.b_isinstance T.b_tuple ZZ (Zb 0))) (Zh (Zn (Zac Zaj Zer T.b_tuple ZZ (Za (ZY (ZfK (N:=["_law_one"]) (k:=1) (by decide +kernel) rfl (by decide +kernel) rfl) (ZaM (Zb 0)) (fun _ _ _ _=>(Zp 0 (show List.Nodup (["_law_one"]:List Str) by decide +kernel))) (fun _ _ _ _=>(Or.inl ⟨rfl,rfl⟩)) (fun _ _ _ _=>(Zi (Zph T) Z5 hr (Za (Zb 0) Ze)))) Ze)))) Zm)
  (Zh (Zn (Zb 0)))))
theorem Zpj:Cal P w K mg base "_law_copy" 3 1 F_law_copy_2:=ZO (N:=["_law_thing"]) (T.d.at 53 70) T.gl fun _ _ _ _ _ _ _ nd hr θ=>(Zf (ZA (ZH (Z0 ZaP T.b_isinstance T.b_list Zas (Zb 0))) (Zh (Zn (ZY (ZfK (N:=["_law_one"]) (k:=1) (by decide +kernel) rfl (by decide +kernel) rfl) (ZaM (Zb 0)) (fun _ _ _ _=>(Zp 0 (show List.Nodup (["_law_one"]:List Str) by decide +kernel))) (fun _ _ _ _=>(Or.inl ⟨rfl,rfl⟩)) (fun _ _ _ _=>(Zi (Zpi T) Z5 hr (Za (Zb 0) Ze)))))) Zm)
  (Zf (ZA (ZH (Z0 Zal T.b_isinstance T.b_tuple ZZ (Zb 0))) (Zh (Zn (Zac Zaj Zer T.b_tuple ZZ (Za (ZY (ZfK (N:=["_law_one"]) (k:=1) (by decide +kernel) rfl (by decide +kernel) rfl) (ZaM (Zb 0)) (fun _ _ _ _=>(Zp 0 (show List.Nodup (["_law_one"]:List Str) by decide +kernel))) (fun _ _ _ _=>(Or.inl ⟨rfl,rfl⟩)) (fun _ _ _ _=>(Zi (Zpi T) Z5 hr (Za (Zb 0) Ze)))) Ze)))) Zm)
  (Zh (Zn (Zb 0)))))
theorem Zpk:Cal P w K mg base "_law_copy" 4 1 F_law_copy_3:=ZO (N:=["_law_thing"]) (T.d.at 53 70) T.gl fun _ _ _ _ _ _ _ nd hr θ=>(Zf (ZA (ZH (Z0 ZaP T.b_isinstance T.b_list Zas (Zb 0))) (Zh (Zn (ZY (ZfK (N:=["_law_one"]) (k:=1) (by decide +kernel) rfl (by decide +kernel) rfl) (ZaM (Zb 0)) (fun _ _ _ _=>(Zp 0 (show List.Nodup (["_law_one"]:List Str) by decide +kernel))) (fun _ _ _ _=>(Or.inl ⟨rfl,rfl⟩)) (fun _ _ _ _=>(Zi (Zpj T) Z5 hr (Za (Zb 0) Ze)))))) Zm)
  (Zf (ZA (ZH (Z0 Zal T.b_isinstance T.b_tuple ZZ (Zb 0))) (Zh (Zn (Zac Zaj Zer T.b_tuple ZZ (Za (ZY (ZfK (N:=["_law_one"]) (k:=1) (by decide +kernel) rfl (by decide +kernel) rfl) (ZaM (Zb 0)) (fun _ _ _ _=>(Zp 0 (show List.Nodup (["_law_one"]:List Str) by decide +kernel))) (fun _ _ _ _=>(Or.inl ⟨rfl,rfl⟩)) (fun _ _ _ _=>(Zi (Zpj T) Z5 hr (Za (Zb 0) Ze)))) Ze)))) Zm)
  (Zh (Zn (Zb 0)))))
theorem C13:Cal P w K mg base "_law_copy" 5 1 F_law_copy:=ZO (N:=["_law_thing"]) (T.d.at 53 70) T.gl fun _ _ _ _ _ _ _ nd hr θ=>(Zf (ZA (ZH (Z0 ZaP T.b_isinstance T.b_list Zas (Zb 0))) (Zh (Zn (ZY (ZfK (N:=["_law_one"]) (k:=1) (by decide +kernel) rfl (by decide +kernel) rfl) (ZaM (Zb 0)) (fun _ _ _ _=>(Zp 0 (show List.Nodup (["_law_one"]:List Str) by decide +kernel))) (fun _ _ _ _=>(Or.inl ⟨rfl,rfl⟩)) (fun _ _ _ _=>(Zi (Zpk T) Z5 hr (Za (Zb 0) Ze)))))) Zm)
  (Zf (ZA (ZH (Z0 Zal T.b_isinstance T.b_tuple ZZ (Zb 0))) (Zh (Zn (Zac Zaj Zer T.b_tuple ZZ (Za (ZY (ZfK (N:=["_law_one"]) (k:=1) (by decide +kernel) rfl (by decide +kernel) rfl) (ZaM (Zb 0)) (fun _ _ _ _=>(Zp 0 (show List.Nodup (["_law_one"]:List Str) by decide +kernel))) (fun _ _ _ _=>(Or.inl ⟨rfl,rfl⟩)) (fun _ _ _ _=>(Zi (Zpk T) Z5 hr (Za (Zb 0) Ze)))) Ze)))) Zm)
  (Zh (Zn (Zb 0)))))
theorem C14:Cal P w K mg base "is_whole" 1 1 F_is_whole:=ZO (N:=["thing"]) (T.d.at 0 9) T.gl fun _ _ _ _ _ _ _ nd hr θ=>(Zh (Zn (ZaL (Z0 Zhv T.b_isinstance T.b_int ZfH (Zb 0)) (ZbK (Zkc (Z0 ZdC T.b_isinstance T.b_bool ZeY (Zb 0)))))))
theorem C15:Cal P w K mg base "is_pair" 2 1 F_is_pair:=ZO (N:=["thing"]) (T.d.at 2 12) T.gl fun _ _ _ _ _ _ _ nd hr θ=>(Zh (Zn (ZaL (Z0 Zal T.b_isinstance T.b_tuple ZZ (Zb 0)) (ZaL (ZaU (ZC hr.units) ZL (Zo Zk ZG T.b_len PySem.boot_len (Za (Zb 0) Ze)) Zd) (ZaL (Zi (C14 T) θ hr (Za (Zw (Zb 0) Zd) Ze)) (ZbK (Zi (C14 T) θ hr (Za (Zw (Zb 0) Zd) Ze))))))))
theorem C16:Cal P w K mg base "greatest_divisor" 101 2 F_greatest_divisor:=ZO (N:=["one","other","high","low"]) (T.d.at 1 10) T.gl fun _ _ _ _ _ _ _ nd hr θ=>(Zf (ZfD 2 3 (ZF hr (by decide)) nd (Za (Zo Zaw ZbL T.b_abs ZbN (Za (Zb 0) Ze)) (Za (Zo Zaw ZbL T.b_abs ZbN (Za (Zb 1) Ze)) Ze)))
  (Zf (ZfE θ.own (Zq (Zbn hr.units) ZcB (Zb 3) Zd) (Zh (ZfD 2 3 (ZF hr (by decide)) nd (Za (Zb 3) (Za (ZI (Zb 2) (Zb 3)) Ze)))))
  (Zh (Zn (Zb 2)))))
theorem C17:Cal P w K mg base "common" 102 1 F_common:=ZO (N:=["pair"]) (T.d.at 5 15) T.gl fun _ _ _ _ _ _ _ nd hr θ=>(Zh (Zn (Zi (C16 T) θ hr (Za (Zw (Zb 0) Zd) (Za (Zw (Zb 0) Zd) Ze)))))
theorem C18:Cal P w K mg base "is_ray" 103 1 F_is_ray:=ZO (N:=["thing"]) (T.d.at 6 16) T.gl fun _ _ _ _ _ _ _ nd hr θ=>(Zh (Zn (ZaL (Zi (C15 T) θ hr (Za (Zb 0) Ze)) (ZbK (ZaU (ZC hr.units) ZL (Zi (C17 T) θ hr (Za (Zb 0) Ze)) Zd)))))
theorem C19:Cal P w K mg base "following" 1 2 F_following:=ZO (N:=["things","at"]) (T.d.at 10 21) T.gl fun _ _ _ _ _ _ _ nd hr θ=>(Zh (Zn (Zw (Zb 0) (ZI (ZD (Zb 1) Zd) (Zo Zk ZG T.b_len PySem.boot_len (Za (Zb 0) Ze))))))
theorem C20:Cal P w K mg base "crossed" 1 2 F_crossed:=ZO (N:=["one","other"]) (T.d.at 3 13) T.gl fun _ _ _ _ _ _ _ nd hr θ=>(Zh (Zn (Zaq (Z2 (Zw (Zb 0) Zd) (Zw (Zb 1) Zd)) (Z2 (Zw (Zb 0) Zd) (Zw (Zb 1) Zd)))))
theorem C21:Cal P w K mg base "met_direction" 1 2 F_met_direction:=ZO (N:=["ray","behind"]) (T.d.at 11 22) T.gl fun _ _ _ _ _ _ _ nd hr θ=>(Zh (Zn (Zp7 (ZaU (ZC hr.units) ZL (Zb 0) (Zt (Za Zd (Za Zd Ze)))) (ZbK (ZnJ ZcN ZcU ZcN ZcU ZnG (Zw (Zb 0) Zd) Zd (Zw (Zb 1) Zd))))))
theorem C22:Cal P w K mg base "look_round" 104 1 F_look_round:=ZO (N:=["thing","at","ray"]) (T.d.at 12 23) T.gl fun _ _ _ _ _ _ _ nd hr θ=>(Zf (ZA (Zca (Za3 (ZT (ZH (Z0 ZaP T.b_isinstance T.b_list Zas (Zb 0)))) (ZaK (Zq ZcN ZcU (Zo Zk ZG T.b_len PySem.boot_len (Za (Zb 0) Ze)) Zd)))) (Zh (Zb1 T.in_NoRound (fun f fd C J E=>ZdZ J T.gl E) θ (by decide +kernel) T.gl (hr.hd (by decide)) (hr.mono (by decide)) (Za Zay (Za Zd Ze)))) Zm)
  (Zf (ZdG θ.own (ZcV (hr.hd (by decide)) T.b_enumerate (Za (Zb 0) Ze)) (Z3 (ZF hr (by decide)) (Zr (Zp 1 nd) (Zr (Zp 2 nd) ZP)) (hlen:=(Zx (Zx (fun _ _ _ h=>ZQ h))))) (Zh (ZA (ZT (ZH (Zi (C18 T) θ hr (Za (Zb 2) Ze)))) (Zh (Zb1 T.in_NoRound (fun f fd C J E=>ZdZ J T.gl E) θ (by decide +kernel) T.gl (hr.hd (by decide)) (hr.mono (by decide)) (Za Zay (Za (Zb 1) Ze)))) Zm)))
  (Zf (ZdG θ.own (ZcV (hr.hd (by decide)) T.b_enumerate (Za (Zb 0) Ze)) (Z3 (ZF hr (by decide)) (Zr (Zp 1 nd) (Zr (Zp 2 nd) ZP)) (hlen:=(Zx (Zx (fun _ _ _ h=>ZQ h))))) (Zh (ZA (Zq Zd8 Zeh (Zi (C20 T) θ hr (Za (Zb 2) (Za (Zi (C19 T) θ hr (Za (Zb 0) (Za (Zb 1) Ze))) Ze))) Zd) (Zh (Zb1 T.in_NoRound (fun f fd C J E=>ZdZ J T.gl E) θ (by decide +kernel) T.gl (hr.hd (by decide)) (hr.mono (by decide)) (Za Zay (Za (Zb 1) Ze)))) Zm)))
  (Zh (ZA (Zq Zcy ZcA (Zo Zk ZG T.b_len PySem.boot_len (Za (ZY (Zmm (XN:=["thing","at","ray"]) (dn:=(Zy (top 23)).names) (N:=["at","ray","thing"]) (k:=2) (fr:=[0]) rfl rfl rfl rfl (by decide +kernel)) (ZcV (hr.hd (by decide)) T.b_enumerate (Za (Zb 0) Ze)) (fun _ _ _ _=>(Z3 (ZF hr (by decide)) (Zr (Zp 0 (show List.Nodup (["at","ray","thing"]:List Str) by decide +kernel)) (Zr (Zp 1 (show List.Nodup (["at","ray","thing"]:List Str) by decide +kernel)) ZP)) (hlen:=(Zx (Zx (fun _ _ _ h=>ZQ h)))))) (fun _ _ _ _=>(Or.inr ⟨_,rfl,(ZH (Zi (C21 T) Z5 hr (Za (Zb 1) (Za (Zi (C19 T) Z5 hr (Za (Zb 2) (Za (Zb 0) Ze))) Ze))))⟩)) (fun _ _ _ _=>(Zb 0))) Ze)) Zd) (Zh (Zb1 T.in_NoRound (fun f fd C J E=>ZdZ J T.gl E) θ (by decide +kernel) T.gl (hr.hd (by decide)) (hr.mono (by decide)) (Za Zay (Za Zd Ze)))) Zm)))))
theorem C23:Cal P w K mg base "is_round" 105 1 F_is_round:=ZO (N:=["thing"]) (T.d.at 13 24) T.gl fun _ _ _ _ _ _ _ nd hr θ=>(Zf (Zii (ZjB T.ct_NoRound T.gl) (hr.hd (by decide)) rfl rfl rfl [false] (fun pn xe σ ξ' θ'=>(Zh (Zbv (Zi (C22 T) θ' hr (Za (Zb 0) Ze))))) (fun ea=>(Zh (Zn Zad))))
  (Zh (Zn Zad)))
theorem C24:Cal P w K mg base "unspanned" 101 1 F_unspanned:=ZO (N:=["rays","at","ray"]) (T.d.at 14 25) T.gl fun _ _ _ _ _ _ _ nd hr θ=>(Zf (ZdG θ.own (ZcV (hr.hd (by decide)) T.b_enumerate (Za (Zb 0) Ze)) (Z3 (ZF hr (by decide)) (Zr (Zp 1 nd) (Zr (Zp 2 nd) ZP)) (hlen:=(Zx (Zx (fun _ _ _ h=>ZQ h))))) (Zh (ZA (Zq (Zbn hr.units) ZcB (Zi (C20 T) θ hr (Za (Zb 2) (Za (Zi (C19 T) θ hr (Za (Zb 0) (Za (Zb 1) Ze))) Ze))) Zd) (Zh (Zn (Zb 1))) Zm)))
  (Zh (Zn Zhp)))
theorem C25:Cal P w K mg base "is_smooth" 106 1 F_is_smooth:=ZO (N:=["thing"]) (T.d.at 26 42) T.gl fun _ _ _ _ _ _ _ nd hr θ=>(Zh (Zn (ZaL (Zi (C23 T) θ hr (Za (Zb 0) Ze)) (ZbK (ZaU Znj Zqa (Zi (C24 T) θ hr (Za (Zb 0) Ze)) Zhp)))))
theorem C26:Cal P w K mg base "ask_smooth" 102 1 F_ask_smooth:=ZO (N:=["rays","at"]) (T.d.at 15 26) T.gl fun _ _ _ _ _ _ _ nd hr θ=>(Zf (Zs 1 nd (Zi (C24 T) θ hr (Za (Zb 0) Ze)))
  (Zh (ZA (Zq Zht Zji (Zb 1) Zhp) (Zh (ZdE θ T.ex_NotSmooth T.gl (hr.hd (by decide)) (Za (ZnF (ZcW Zay (ZcW (ZnE (Zb 1)) (ZcW Zay Zko)))) Ze))) Zm)))
theorem C27:Cal P w K mg base "numbers" 103 1 F_numbers:=ZO (N:=["rays"]) (T.d.at 16 28) T.gl fun _ _ _ _ _ _ _ nd hr θ=>(Zf (Zbv (Zi (C26 T) θ hr (Za (Zb 0) Ze)))
  (Zh (Zn (ZY (Zmm (XN:=["rays"]) (dn:=(Zy (top 28)).names) (N:=["at","rays"]) (k:=1) (fr:=[0]) rfl rfl rfl rfl (by decide +kernel)) (Zen T.b_range (Za (Zo Zk ZG T.b_len PySem.boot_len (Za (Zb 0) Ze)) Ze)) (fun _ _ _ _=>(Zp 0 (show List.Nodup (["at","rays"]:List Str) by decide +kernel))) (fun _ _ _ _=>(Or.inl ⟨rfl,rfl⟩)) (fun _ _ _ _=>(Zi (C20 T) Z5 hr (Za (Zi (C19 T) Z5 hr (Za (Zb 1) (Za (Zb 0) Ze))) (Za (Zw (Zb 1) (Zaq (Zb 0) Zd)) Ze))))))))
theorem C28:Cal P w K mg base "ask_place" 101 2 F_ask_place:=ZO (N:=["rays","at"]) (T.d.at 24 39) T.gl fun _ _ _ _ _ _ _ nd hr θ=>(Zh (ZA (Zca (Za3 (Zq ZcN ZcU (Zb 1) Zd) (ZaK (Zq ZpY Zp8 (Zb 1) (Zo Zk ZG T.b_len PySem.boot_len (Za (Zb 0) Ze)))))) (Zh (ZdE θ T.ex_NoPlace T.gl (hr.hd (by decide)) (Za (ZnF (ZcW Zay (ZcW (ZnE (Zaq (Zo Zk ZG T.b_len PySem.boot_len (Za (Zb 0) Ze)) Zd)) Zko))) Ze))) Zm))
theorem C29:Cal P w K mg base "taken_out" 104 2 F_taken_out:=ZO (N:=["rays","at","row"]) (T.d.at 25 40) T.gl fun _ _ _ _ _ _ _ nd hr θ=>(Zf (Zs 2 nd (Zi (C27 T) θ hr (Za (Zb 0) Ze)))
  (Zf (Zbv (Zi (C28 T) θ hr (Za (Zb 0) (Za (Zb 1) Ze))))
  (Zf (ZA (Zca (Za3 (Zq (Zbn hr.units) ZcB (Zw (Zb 2) (Zb 1)) (Zbu Zd)) (ZaK (Zq ZcN ZcU (Zo Zk ZG T.b_len PySem.boot_len (Za (Zb 0) Ze)) Zd)))) (Zh (ZdE θ T.ex_NoMinus T.gl (hr.hd (by decide)) (Za Zay Ze))) Zm)
  (Zh (Zn (ZD (Zai (Zb 0) Zag (Zah (Zb 1))) (Zai (Zb 0) (Zah (ZD (Zb 1) Zd)) Zag)))))))
theorem C30:Cal P w K mg base "walk_stands" 107 3 F_walk_stands:=ZO (N:=["rays","places","last","left","at"]) (T.d.at 28 44) T.gl fun _ _ _ _ _ _ _ nd hr θ=>(Zf (ZA (Zca (Za3 (ZT (ZH (Zi (C25 T) θ hr (Za (Zb 0) Ze)))) (Za3 (ZT (ZH (Z0 ZaP T.b_isinstance T.b_list Zas (Zb 1)))) (ZaK (ZT (ZH (Zi (C23 T) θ hr (Za (Zb 2) Ze)))))))) (Zh (Zn Zad)) Zm)
  (Zf (Zs 3 nd (Zb 0))
  (Zf (ZfG θ.own (Zb 1) (Zp 4 nd) (Zf (ZA (ZT (ZH (Zi (C14 T) θ hr (Za (Zb 4) Ze)))) (Zh (Zn Zad)) Zm)
  (Zh (Zii (ZjC T.cu_NoPlace__NoMinus T.gl) (hr.hd (by decide)) rfl rfl rfl [false,false,false,true,false] (fun pn xe σ ξ' θ'=>(Zh (Zs 3 nd (Zi (C29 T) θ' hr (Za (Zb 3) (Za (Zb 4) Ze)))))) (fun ea=>(Zh (Zn Zad)))))))
  (Zh (Zn (ZaL (ZaU (ZC hr.units) ZL (Zb 3) (Zb 2)) (ZbK (ZaU Zd8 Zeh (Zo Zk ZG T.b_len PySem.boot_len (Za (Zb 2) Ze)) Zd))))))))
theorem C31:Cal P w K mg base "spanned" 2 2 F_spanned:=ZO (N:=["one","other"]) (T.d.at 7 17) T.gl fun _ _ _ _ _ _ _ nd hr θ=>(Zh (Zn (ZaU (ZC hr.units) ZL (Zo Zaw ZbL T.b_abs ZbN (Za (Zi (C20 T) θ hr (Za (Zb 0) (Za (Zb 1) Ze))) Ze)) Zd)))
theorem C32:Cal P w K mg base "is_turning" 3 1 F_is_turning:=ZO (N:=["thing"]) (T.d.at 8 18) T.gl fun _ _ _ _ _ _ _ nd hr θ=>(Zf (ZA (Zca (Za3 (ZT (ZH (Z0 Zal T.b_isinstance T.b_tuple ZZ (Zb 0)))) (ZaK (Zq (Zbn hr.units) ZcB (Zo Zk ZG T.b_len PySem.boot_len (Za (Zb 0) Ze)) Zd)))) (Zh (Zn Zad)) Zm)
  (Zh (Zn (ZaL (Zi (C15 T) θ hr (Za (Zw (Zb 0) Zd) Ze)) (ZaL (Zi (C15 T) θ hr (Za (Zw (Zb 0) Zd) Ze)) (ZbK (Zi (C31 T) θ hr (Za (Zw (Zb 0) Zd) (Za (Zw (Zb 0) Zd) Ze)))))))))
theorem C33:Cal P w K mg base "turned" 101 2 F_turned:=ZO (N:=["turning","pair","a","b","c","d","x","y"]) (T.d.at 9 19) T.gl fun _ _ _ _ _ _ _ nd hr θ=>(Zf (Zdm (Zb 0) (Z3 (ZF hr (by decide)) (Zr (Z3 (ZF hr (by decide)) (Zr (Zp 2 nd) (Zr (Zp 3 nd) ZP)) (hlen:=(Zx (Zx (fun _ _ _ h=>ZQ h))))) (Zr (Z3 (ZF hr (by decide)) (Zr (Zp 4 nd) (Zr (Zp 5 nd) ZP)) (hlen:=(Zx (Zx (fun _ _ _ h=>ZQ h))))) ZP)) (hlen:=(Zx (Zx (fun _ _ _ h=>ZQ h))))))
  (Zf (Zdm (Zb 1) (Z3 (ZF hr (by decide)) (Zr (Zp 6 nd) (Zr (Zp 7 nd) ZP)) (hlen:=(Zx (Zx (fun _ _ _ h=>ZQ h))))))
  (Zh (Zn (Zt (Za (ZD (Z2 (Zb 2) (Zb 6)) (Z2 (Zb 3) (Zb 7))) (Za (ZD (Z2 (Zb 4) (Zb 6)) (Z2 (Zb 5) (Zb 7))) Ze)))))))
theorem C34:Cal P w K mg base "turning_stands" 106 3 F_turning_stands:=ZO (N:=["one","other","turning"]) (T.d.at 29 45) T.gl fun _ _ _ _ _ _ _ nd hr θ=>(Zf (ZA (Zca (Za3 (ZT (ZH (Zi (C23 T) θ hr (Za (Zb 0) Ze)))) (Za3 (ZT (ZH (Zi (C23 T) θ hr (Za (Zb 1) Ze)))) (ZaK (ZT (ZH (Zi (C32 T) θ hr (Za (Zb 2) Ze)))))))) (Zh (Zn Zad)) Zm)
  (Zh (Zn (ZaU (ZC hr.units) ZL (Zo Zbi Zb0 T.b_sorted ZbZ (Za (ZY (Zmm (XN:=["one","other","turning"]) (dn:=(Zy (top 45)).names) (N:=["ray","turning"]) (k:=1) (fr:=[2]) rfl rfl rfl rfl (by decide +kernel)) (ZaM (Zb 0)) (fun _ _ _ _=>(Zp 0 (show List.Nodup (["ray","turning"]:List Str) by decide +kernel))) (fun _ _ _ _=>(Or.inl ⟨rfl,rfl⟩)) (fun _ _ _ _=>(Zi (C33 T) Z5 hr (Za (Zb 1) (Za (Zb 0) Ze))))) Ze)) (Zo Zbi Zb0 T.b_sorted ZbZ (Za (Zb 1) Ze))))))
theorem C35:Cal P w K mg base "stands" 108 1 F_stands:=ZO (N:=["thing","word","parts"]) (T.d.at 35 51) T.gl fun _ _ _ _ _ _ _ nd hr θ=>(Zf (ZA (Zca (Za3 (ZT (ZH (Z0 Zal T.b_isinstance T.b_tuple ZZ (Zb 0)))) (ZaK (Zq ZcN ZcU (Zo Zk ZG T.b_len PySem.boot_len (Za (Zb 0) Ze)) Zd)))) (Zh (Zn Zad)) Zm)
  (Zf (ZfD 1 2 (ZF hr (by decide)) nd (Za (Zw (Zb 0) Zd) (Za (Zai (Zb 0) (Zah Zd) Zag) Ze)))
  (Zf (ZA (Zca (Zbm (Zq (ZC hr.units) ZL (Zb 1) Zay) (ZaG (Zq (ZC hr.units) ZL (Zo Zk ZG T.b_len PySem.boot_len (Za (Zb 2) Ze)) Zd)))) (Zh (Zn (Zi (C30 T) θ hr (Za (Zw (Zb 2) Zd) (Za (Zw (Zb 2) Zd) (Za (Zw (Zb 2) Zd) Ze)))))) Zm)
  (Zf (ZA (Zca (Zbm (Zq (ZC hr.units) ZL (Zb 1) Zay) (ZaG (Zq (ZC hr.units) ZL (Zo Zk ZG T.b_len PySem.boot_len (Za (Zb 2) Ze)) Zd)))) (Zh (Zn (Zi (C34 T) θ hr (Za (Zw (Zb 2) Zd) (Za (Zw (Zb 2) Zd) (Za (Zw (Zb 2) Zd) Ze)))))) Zm)
  (Zf (ZA (Zca (Zbm (Zq (ZC hr.units) ZL (Zb 1) Zay) (ZaG (Zq (ZC hr.units) ZL (Zo Zk ZG T.b_len PySem.boot_len (Za (Zb 2) Ze)) Zd)))) (Zh Zdl) Zm)
  (Zf (ZA (Zca (Zbm (Zq (ZC hr.units) ZL (Zb 1) Zay) (ZaG (Zq (ZC hr.units) ZL (Zo Zk ZG T.b_len PySem.boot_len (Za (Zb 2) Ze)) Zd)))) (Zh Zdl) Zm)
  (Zf (ZA (Zca (Zbm (Zq (ZC hr.units) ZL (Zb 1) Zay) (ZaG (Zq (ZC hr.units) ZL (Zo Zk ZG T.b_len PySem.boot_len (Za (Zb 2) Ze)) Zd)))) (Zh Zdl) Zm)
  (Zh (Zn Zad)))))))))
theorem C36:Cal P w K mg base "_law_told" 109 2 F_law_told:=ZO (N:=["_law_thing","_law_due","_law_lent","_law_again","_law_found"]) (T.d.at 54 71) T.gl fun _ _ _ _ _ _ _ nd hr θ=>(Zf (Zs 2 nd (Zi (C13 T) θ hr (Za (Zb 0) Ze)))
  (Zf (ZbE θ.own T.b_range (Za Zd Ze) (Zp 3 nd) (Zf (Zs 4 nd (Zi (C35 T) θ hr (Za (Zb 2) Ze)))
  (Zh (ZA (Zca (Za3 (ZT (ZH (Z0 ZdC T.b_isinstance T.b_bool ZeY (Zb 4)))) (Za3 (Zq (Zbn hr.units) ZcB (Zb 4) (Zb 1)) (ZaK (Zq (Zbn hr.units) ZcB (Zb 2) (Zb 0)))))) (Zh (Zn Zad)) Zm))))
  (Zh (Zn Zad))))
theorem C37:Cal P w K mg base "_law_rough" 103 1 F_law_rough:=ZO (N:=["_law_cell","_law_rays","_law_many","_law_k","_law_rest","_law_ends"]) (T.d.at 41 58) T.gl fun _ _ _ _ _ _ _ nd hr θ=>(Zf (Zs 1 nd (Zi (C3 T) θ hr (Za (ZU (Zb 0) Zd) (Za Zd Ze))))
  (Zf (Zs 2 nd (Zo Zk ZG T.b_len PySem.boot_len (Za (Zb 1) Ze)))
  (Zf (ZA (Zq Zcy ZcA (ZI (Zb 0) Zd) Zd) (Zh (ZbE θ.own T.b_range (Za (Zb 2) Ze) (Zp 3 nd) (Zf (Zs 4 nd (ZD (Zai (Zb 1) Zag (Zah (Zb 3))) (Zai (Zb 1) (Zah (ZD (Zb 3) Zd)) Zag)))
  (Zf (Zs 5 nd (Zi (C4 T) θ hr (Za (Zw (Zb 1) (Zaq (Zb 3) Zd)) (Za (Zw (Zb 1) (ZI (ZD (Zb 3) Zd) (Zb 2))) Ze))))
  (Zh (ZA (Zca (Zbm (Zq Zcy ZcA (Zb 2) Zd) (ZaG (Zq Zcy ZcA (Zb 5) Zd)))) (Zh (Zn (Zb 4))) Zm)))))) Zm)
  (Zh (Zn (Zak (Za (Zt (Za Zd (Za Zd Ze))) (Za (Zt (Za Zd (Za Zd Ze))) (Za (Zt (Za (Zaq (Zbu Zd) (ZI (ZU (Zb 0) Zd) Zd)) (Za (Zaq (Zbu Zd) (ZI (ZU (Zb 0) Zd) Zd)) Ze))) Ze)))))))))
theorem C38:Cal P w K mg base "_law_rough_told" 110 2 F_law_rough_told:=ZO (N:=["_law_rays","_law_other","_law_places","_law_last"]) (T.d.at 55 72) T.gl fun _ _ _ _ _ _ _ nd hr θ=>(Zf (Zdm (Zi (C6 T) θ hr (Za (Zb 0) (Za (Zb 1) Ze))) (Z3 (ZF hr (by decide)) (Zr (Zp 2 nd) (Zr (Zp 3 nd) ZP)) (hlen:=(Zx (Zx (fun _ _ _ h=>ZQ h))))))
  (Zf (ZA (ZT (ZH (Zi (C36 T) θ hr (Za (Zt (Za Zay (Za (Zb 0) (Za (Zb 2) (Za (Zb 3) Ze))))) (Za (Zi (C12 T) θ hr (Za (Zb 0) (Za (Zb 2) (Za (Zb 3) Ze)))) Ze))))) (Zh (Zn Zad)) Zm)
  (Zh (Zn (Zi (C36 T) θ hr (Za (Zt (Za Zay (Za (Zb 0) (Za (Zak Ze) (Za (Zb 0) Ze))))) (Za (Zi (C12 T) θ hr (Za (Zb 0) (Za (Zak Ze) (Za (Zb 0) Ze)))) Ze)))))))
theorem C39:Cal P w K mg base "_law_turning" 102 1 F_law_turning:=ZO (N:=["_law_cell","_law_one","_law_sign"]) (T.d.at 51 68) T.gl fun _ _ _ _ _ _ _ nd hr θ=>(Zf (Zs 1 nd (Zi (C2 T) θ hr (Za (Zak (Za (Zt (Za Zd (Za Zd Ze))) (Za (Zt (Za Zd (Za Zd Ze))) Ze))) (Za (Zb 0) Ze))))
  (Zf (Zs 2 nd (Zw (Zak (Za Zd (Za (Zbu Zd) Ze))) (ZI (ZU (Zb 0) (ZbU Zd Zd)) Zd)))
  (Zh (Zn (Zt (Za (Zt (Za (Z2 (Zb 2) (Zw (Zw (Zb 1) Zd) Zd)) (Za (Zw (Zw (Zb 1) Zd) Zd) Ze))) (Za (Zt (Za (Z2 (Zb 2) (Zw (Zw (Zb 1) Zd) Zd)) (Za (Zw (Zw (Zb 1) Zd) Zd) Ze))) Ze)))))))
theorem C40:Cal P w K mg base "_law_led" 101 2 F_law_led:=ZO (N:=["_law_turning_here","_law_ray","_law_a","_law_b","_law_c","_law_d"]) (T.d.at 48 65) T.gl fun _ _ _ _ _ _ _ nd hr θ=>(Zf (Zdm (Zb 0) (Z3 (ZF hr (by decide)) (Zr (Z3 (ZF hr (by decide)) (Zr (Zp 2 nd) (Zr (Zp 3 nd) ZP)) (hlen:=(Zx (Zx (fun _ _ _ h=>ZQ h))))) (Zr (Z3 (ZF hr (by decide)) (Zr (Zp 4 nd) (Zr (Zp 5 nd) ZP)) (hlen:=(Zx (Zx (fun _ _ _ h=>ZQ h))))) ZP)) (hlen:=(Zx (Zx (fun _ _ _ h=>ZQ h))))))
  (Zh (Zn (Zt (Za (ZD (Z2 (Zb 2) (Zw (Zb 1) Zd)) (Z2 (Zb 3) (Zw (Zb 1) Zd))) (Za (ZD (Z2 (Zb 4) (Zw (Zb 1) Zd)) (Z2 (Zb 5) (Zw (Zb 1) Zd))) Ze))))))
theorem C41:Cal P w K mg base "_law_spoilt_turning" 102 4 F_law_spoilt_turning:=ZO (N:=["_law_one","_law_other","_law_turning_here","_law_cell","_law_kind","_law_a","_law_b","_law_c","_law_d","_law_at","_law_to","_law_some","_law_more","_law_spot"]) (T.d.at 52 69) T.gl fun _ _ _ _ _ _ _ nd hr θ=>(Zf (Zs 4 nd (ZI (Zb 3) Zd))
  (Zf (Zs 3 nd (ZU (Zb 3) Zd))
  (Zf (Zdm (Zb 2) (Z3 (ZF hr (by decide)) (Zr (Z3 (ZF hr (by decide)) (Zr (Zp 5 nd) (Zr (Zp 6 nd) ZP)) (hlen:=(Zx (Zx (fun _ _ _ h=>ZQ h))))) (Zr (Z3 (ZF hr (by decide)) (Zr (Zp 7 nd) (Zr (Zp 8 nd) ZP)) (hlen:=(Zx (Zx (fun _ _ _ h=>ZQ h))))) ZP)) (hlen:=(Zx (Zx (fun _ _ _ h=>ZQ h))))))
  (Zf (ZA (Zq (ZC hr.units) ZL (Zb 4) Zd) (Zh (Zn (Zt (Za (Zb 0) (Za (Zb 1) (Za (Zt (Za (Zt (Za (ZD (Zb 5) Zd) (Za (Zb 6) Ze))) (Za (Zt (Za (Zb 7) (Za (Zb 8) Ze))) Ze))) Ze)))))) Zm)
  (Zf (ZA (Zq (ZC hr.units) ZL (Zb 4) Zd) (Zh (Zn (Zt (Za (Zb 1) (Za (Zb 0) (Za (Zb 2) Ze)))))) Zm)
  (Zf (ZA (Zq (ZC hr.units) ZL (Zb 4) Zd) (Zh (Zn (Zt (Za (Zb 0) (Za (Zai (Zb 1) (Zah Zd) Zag) (Za (Zb 2) Ze)))))) Zm)
  (Zf (ZA (Zq (ZC hr.units) ZL (Zb 4) Zd) (Zh (Zn (Zt (Za (Zb 0) (Za (ZY (ZfK (N:=["_law_x","_law_y"]) (k:=2) (by decide +kernel) rfl (by decide +kernel) rfl) (ZaM (Zb 1)) (fun _ _ _ _=>(Z3 (ZF hr (by decide)) (Zr (Zp 0 (show List.Nodup (["_law_x","_law_y"]:List Str) by decide +kernel)) (Zr (Zp 1 (show List.Nodup (["_law_x","_law_y"]:List Str) by decide +kernel)) ZP)) (hlen:=(Zx (Zx (fun _ _ _ h=>ZQ h)))))) (fun _ _ _ _=>(Or.inl ⟨rfl,rfl⟩)) (fun _ _ _ _=>(Zt (Za (Zaq Zd (Zb 0)) (Za (Zaq Zd (Zb 1)) Ze))))) (Za (Zb 2) Ze)))))) Zm)
  (Zf (ZA (Zq (ZC hr.units) ZL (Zb 4) Zd) (Zh (Zn (Zt (Za (Zb 0) (Za (Zb 1) (Za (Zak (Za (Zt (Za (Zb 5) (Za (Zb 6) Ze))) (Za (Zt (Za (Zb 7) (Za (Zb 8) Ze))) Ze))) Ze)))))) Zm)
  (Zf (ZA (Zq (ZC hr.units) ZL (Zb 4) Zd) (Zh (Zn (Zt (Za (Zb 0) (Za (Zlw (hr.hd (by decide)) T.b_list T.b_reversed (Za (Zb 1) Ze)) (Za (Zb 2) Ze)))))) Zm)
  (Zf (ZA (Zq (ZC hr.units) ZL (Zb 4) Zd) (Zh (Zn (Zt (Za (Zb 0) (Za (Zb 1) (Za (Zt (Za (Zt (Za (Z2 Zd (Zb 5)) (Za (Z2 Zd (Zb 6)) Ze))) (Za (Zt (Za (Zb 7) (Za (Zb 8) Ze))) Ze))) Ze)))))) Zm)
  (Zf (Zs 9 nd (ZI (Zb 3) (Zo Zk ZG T.b_len PySem.boot_len (Za (Zb 0) Ze))))
  (Zf (ZA (Zq (ZC hr.units) ZL (Zb 4) Zd) (Zh (Zn (Zt (Za (Zlw (hr.hd (by decide)) T.b_list T.b_reversed (Za (Zb 0) Ze)) (Za (Zb 1) (Za (Zb 2) Ze)))))) Zm)
  (Zf (ZA (Zq (ZC hr.units) ZL (Zb 4) Zd) (Zf (Zs 10 nd (ZI (ZU (Zb 3) Zd) (Zo Zk ZG T.b_len PySem.boot_len (Za (Zb 0) Ze))))
  (Zf (Zs 11 nd (Zac Zbs ZeX T.b_list Zas (Za (Zb 0) Ze)))
  (Zf (ZnS (ZF hr (by decide)) (Zb 11) (Zb 9) (Zb 11) (Zb 10) (Zt (Za (Zw (Zb 11) (Zb 10)) (Za (Zw (Zb 11) (Zb 9)) Ze))))
  (Zh (Zn (Zt (Za (Zb 11) (Za (Zb 1) (Za (Zb 2) Ze))))))))) Zm)
  (Zf (ZA (Zq (ZC hr.units) ZL (Zb 4) Zd) (Zf (Zs 12 nd (Zi (C40 T) θ hr (Za (Zb 2) (Za (Zw (Zb 0) (Zb 9)) Ze))))
  (Zf (Zs 13 nd (Zny PySem.F.slot_list_index PySem.F.type_list_index (ZnC hr.units) ZnD (Zb 1) (Za (Zb 12) Ze)))
  (Zh (Zn (Zt (Za (ZD (ZD (Zai (Zb 0) Zag (Zah (Zb 9))) (Zak (Za (Zw (Zb 0) (Zb 9)) Ze))) (Zai (Zb 0) (Zah (Zb 9)) Zag)) (Za (ZD (ZD (Zai (Zb 1) Zag (Zah (Zb 13))) (Zak (Za (Zb 12) Ze))) (Zai (Zb 1) (Zah (Zb 13)) Zag)) (Za (Zb 2) Ze)))))))) Zm)
  (Zf (ZA (Zq (ZC hr.units) ZL (Zb 4) Zd) (Zh (Zn (Zt (Za (ZD (Zai (Zb 0) (Zah (Zb 9)) Zag) (Zai (Zb 0) Zag (Zah (Zb 9)))) (Za (Zb 1) (Za (Zb 2) Ze)))))) Zm)
  (Zh (Zn (Zt (Za (Zb 0) (Za (Zb 1) (Za (Zb 2) Ze)))))))))))))))))))))
theorem C42:Cal P w K mg base "_law_turning_stands" 103 3 F_law_turning_stands:=ZO (N:=["_law_one","_law_other","_law_turning_here"]) (T.d.at 49 66) T.gl fun _ _ _ _ _ _ _ nd hr θ=>(Zf (ZA (Zca (Za3 (ZT (ZH (Zi (C11 T) θ hr (Za (Zb 0) (Za Zad Ze))))) (Za3 (ZT (ZH (Zi (C11 T) θ hr (Za (Zb 1) (Za Zad Ze))))) (ZaK (ZT (ZH (Z0 Zal T.b_isinstance T.b_tuple ZZ (Zb 2)))))))) (Zh (Zn Zad)) Zm)
  (Zf (ZA (Zca (Za3 (Zq (Zbn hr.units) ZcB (Zo Zk ZG T.b_len PySem.boot_len (Za (Zb 2) Ze)) Zd) (Za3 (ZT (ZH (Zi (C9 T) θ hr (Za (Zw (Zb 2) Zd) Ze)))) (ZaK (ZT (ZH (Zi (C9 T) θ hr (Za (Zw (Zb 2) Zd) Ze)))))))) (Zh (Zn Zad)) Zm)
  (Zf (ZA (Zq (Zbn hr.units) ZcB (Zo Zaw ZbL T.b_abs ZbN (Za (Zi (C4 T) θ hr (Za (Zw (Zb 2) Zd) (Za (Zw (Zb 2) Zd) Ze))) Ze)) Zd) (Zh (Zn Zad)) Zm)
  (Zh (Zn (ZaU (ZC hr.units) ZL (Zo Zbi Zb0 T.b_sorted ZbZ (Za (ZY (Zmm (XN:=["_law_one","_law_other","_law_turning_here"]) (dn:=(Zy (top 66)).names) (N:=["_law_ray","_law_turning_here"]) (k:=1) (fr:=[2]) rfl rfl rfl rfl (by decide +kernel)) (ZaM (Zb 0)) (fun _ _ _ _=>(Zp 0 (show List.Nodup (["_law_ray","_law_turning_here"]:List Str) by decide +kernel))) (fun _ _ _ _=>(Or.inl ⟨rfl,rfl⟩)) (fun _ _ _ _=>(Zi (C40 T) Z5 hr (Za (Zb 1) (Za (Zb 0) Ze))))) Ze)) (Zo Zbi Zb0 T.b_sorted ZbZ (Za (Zb 1) Ze))))))))
theorem Zpl {f:Addr}{fd:FuncData}(F:Fun K "law" "law" (top 73) f fd):FnOk P w K mg base (CXE P w) 111 f fd ["_law_script"] (spD K Zfn):=
 have nd:List.Nodup (["_law_script","_law_place","_law_cell","_law_other","_law_rays","_law_places","_law_last","_law_paper","_law_turning_here","_law_led_here","_law_at","_law_due"]:List Str):=by decide +kernel
 Znq (N:=["_law_script","_law_place","_law_cell","_law_other","_law_rays","_law_places","_law_last","_law_paper","_law_turning_here","_law_led_here","_law_at","_law_due"]) F ⟨rfl,rfl,rfl,nd,rfl,by decide +kernel,by decide +kernel⟩ rfl rfl fun _ _ _ _ _ _ hr θ=>(Zf (ZdG θ.own (Zh0 T.b_range (Za Zd (Za (Zo (Zg4 (ZF hr (by decide))) Znl T.b_max Zkk (Za Zd (Za (Zo (Zg5 (ZF hr (by decide))) Znm T.b_min Znr (Za (Zo Zk ZG T.b_len PySem.boot_len (Za (Zb 0) Ze)) (Za Zd Ze))) Ze))) (Za Zd Ze)))) (Zp 1 nd) (Zf (Zs 2 nd (Zi (C1 T) θ hr (Za (Zb 0) (Za (Zb 1) Ze))))
  (Zf (Zs 3 nd (Zi (C1 T) θ hr (Za (Zb 0) (Za (ZD (Zb 1) Zd) Ze))))
  (Zf (Zs 4 nd (Zi (C3 T) θ hr (Za (ZU (Zb 2) Zd) (Za (Zw (Zak (Za Zd (Za Zd (Za Zd (Za Zd (Za Zd (Za Zd (Za Zd (Za Zd Ze))))))))) (ZI (Zb 2) Zd)) Ze))))
  (Zf (Zdm (Zi (C6 T) θ hr (Za (Zb 4) (Za (Zb 3) Ze))) (Z3 (ZF hr (by decide)) (Zr (Zp 5 nd) (Zr (Zp 6 nd) ZP)) (hlen:=(Zx (Zx (fun _ _ _ h=>ZQ h))))))
  (Zf (Zs 7 nd (Zi (C7 T) θ hr (Za (Zb 4) (Za (Zb 5) (Za (Zb 6) (Za (ZU (Zb 3) (ZbU Zd Zd)) Ze))))))
  (Zf (ZA (ZT (ZH (Zi (C36 T) θ hr (Za (Zt (Za Zay (Za (Zw (Zb 7) Zd) (Za (Zw (Zb 7) Zd) (Za (Zw (Zb 7) Zd) Ze))))) (Za (Zi (C12 T) θ hr (Za (Zw (Zb 7) Zd) (Za (Zw (Zb 7) Zd) (Za (Zw (Zb 7) Zd) Ze)))) Ze))))) (Zh (Zn Zad)) Zm)
  (Zf (ZA (Zq (ZC hr.units) ZL (ZI (ZU (Zb 2) Zd) Zd) Zd) (Zf (Zs 4 nd (Zi (C37 T) θ hr (Za (ZU (Zb 2) Zd) Ze)))
  (Zh (ZA (ZT (ZH (Zi (C38 T) θ hr (Za (Zb 4) (Za (Zb 3) Ze))))) (Zh (Zn Zad)) Zm))) Zm)
  (Zf (Zs 8 nd (Zi (C39 T) θ hr (Za (Zb 3) Ze)))
  (Zf (ZhS 9 nd (Zmm (XN:=["_law_script","_law_place","_law_cell","_law_other","_law_rays","_law_places","_law_last","_law_paper","_law_turning_here","_law_led_here","_law_at","_law_due"]) (dn:=(Zy (top 73)).names) (N:=["_law_ray","_law_turning_here"]) (k:=1) (fr:=[8]) rfl rfl rfl rfl (by decide +kernel)) (ZaM (Zb 4)) (fun _ _ _ _=>(Zp 0 (show List.Nodup (["_law_ray","_law_turning_here"]:List Str) by decide +kernel))) (fun _ _ _ _=>(Or.inl ⟨rfl,rfl⟩)) (fun _ _ _ _=>(Zi (C40 T) Z5 hr (Za (Zb 1) (Za (Zb 0) Ze)))))
  (Zf (ZA (Zq ZcN ZcU (Zi (C4 T) θ hr (Za (Zw (Zb 8) Zd) (Za (Zw (Zb 8) Zd) Ze))) Zd) (Zh (Zs 9 nd (Zlw (hr.hd (by decide)) T.b_list T.b_reversed (Za (Zb 9) Ze)))) Zm)
  (Zf (Zs 10 nd (ZI (Zb 3) (Zo Zk ZG T.b_len PySem.boot_len (Za (Zb 9) Ze))))
  (Zf (Zs 9 nd (ZD (Zai (Zb 9) (Zah (Zb 10)) Zag) (Zai (Zb 9) Zag (Zah (Zb 10)))))
  (Zf (Zs 7 nd (Zi (C41 T) θ hr (Za (Zb 4) (Za (Zb 9) (Za (Zb 8) (Za (ZU (Zb 3) (ZbU Zd Zd)) Ze))))))
  (Zf (Zs 11 nd (Zi (C42 T) θ hr (Za (Zw (Zb 7) Zd) (Za (Zw (Zb 7) Zd) (Za (Zw (Zb 7) Zd) Ze)))))
  (Zh (ZA (ZT (ZH (Zi (C36 T) θ hr (Za (Zt (Za Zay (Za (Zw (Zb 7) Zd) (Za (Zw (Zb 7) Zd) (Za (Zw (Zb 7) Zd) Ze))))) (Za (Zb 11) Ze))))) (Zh (Zn Zad)) Zm)))))))))))))))))
  (Zh (Zn Zad)))
end
theorem fin {l:PySem.W.OpenLaw}{w:World}{K:PySem.W.Frag}{h:Heap}{mg:Str->Option Value}{fa:Addr}(X:K.In h)(G:h.Ns mainGlobals mg)(hfa:mg "law"=some (.ref fa))(T:Txt K mg): ∃ fd:FuncData,(∀ (s:Shared) (v:Value),BindsTo s fd ⟨[v],[]⟩ [("_law_script",v)])/\ ∀ base:Heap,K.In base->base.Ns mainGlobals mg->FnOk l.prog w K mg base (CXE l.prog w) 111 fa fd ["_law_script"] (spD K Zfn):=
 Znt (l:=l) (w:=w) X G hfa (T.d.at 56 73) (fun _ _ _ _ _ _ _=>rfl) fun base fd F=>Zpl (base:=base) T F
end K68
end
section
namespace K68
open PySem PySem.Spec L2 DL
open CB (Bd)
open CV (Kp)
open CG (met Zd3)
open CC (F_law_turn Zba Zam Zan Z7 tf Zb4 Zc4 ZiH)
open CJ (Res)
open TW (sf Zf4)
section
variable {Q:D->Sto->Prop}{E:Str->Sto->Prop}{N B C:Ro->Sto->Prop}{R:D->Sto->Prop}{M M':Sto}{n m:Nat}{rs ss:List Pt}{u v w:Pt}{d:D}{t:PyData}
theorem ZkH {src:Src}{xs:List D}{F:List D->Sto->Out D}{ρ:Ro}(S:List D->Sto->Nat->Prop)(hl:xs.length<=1000)(hcnt:xs.length<=cnt src M)
  (hs: ∀ M',Kp M M'-> ∀ i,i<=xs.length->nxt src i M'=some xs[i]?) (h0: ∀ M',S [] M' 0) (hS: ∀ ys M1 M2 i,S ys M1 i->(∀ j o,j≠M.length->M1[j]?=some o->M2[j]?=some o)->S ys M2 i)
  (st: ∀ i (h:i < xs.length) ys M1,Kp M M1->M.length < M1.length->S ys M1 i->wO (F [xs[i]] M1) (fun y M2=>Kp M1 M2/\S (ys ++ [y]) M2 (i + 1)) (fun _ _=>False))
  (q: ∀ ys M',Kp M M'->M'[M.length]?=some (.lst ys)->S ys M' xs.length->ys.length=xs.length->Q (.ref M.length) M'):kCo (gNm 0) (fun _ M=> .ok true M) (Zl F (Zc (Zg 0) aNil)) 1 [] ρ Q src M:=by
 show wO (Zcp src (gNm 0) (fun _ M=> .ok true M) (Zl F (Zc (Zg 0) aNil)) M.length (cnt src M) 0 [none] (M ++ [.lst []])) _ _
 refine ZeB (xs:=xs) (fun i ρ M'=>(∃ x,ρ=[x])/\Kp M M'/\M.length < M'.length/\ ∃ ys,M'[M.length]?=some (.lst ys)/\ys.length=i/\S ys M' i) _ 0 _ _ (by omega) (by omega) ⟨⟨_,rfl⟩,Kp.app,by simp,[],by simp,rfl,h0 _⟩ (fun i ρ M' hi hI=>hs M' hI.2.1 i hi) ?_ ?_
 ·rintro i ρ M1 hi ⟨⟨x,rfl⟩,K,lt,ys,hy,ly,hS1⟩
  rw[show gNm 0 xs[i] [x]=some [some xs[i]] from rfl];refine (show ∀ P:Ro->Prop,P [some xs[i]]->wG (some [some xs[i]]) P from fun P h=>h) _ ?_
  refine (show ∀ P:Prop,P->Br true P _ from fun P h=>⟨fun _=>h,fun z=>by cases z⟩) _ ?_
  refine (show wO (F [xs[i]] M1) _ _->wO (Zl F (Zc (Zg 0) aNil) [some xs[i]] M1) _ _ from fun h=>h) ?_
  refine ZaV (st i hi ys M1 K lt hS1) (fun y M2 h=> ?_) (fun _ _ z=>z)
  have hy2:=h.1.get hy
  rw[hy2];refine ⟨by omega,⟨_,rfl⟩,⟨by rw[List.length_set];exact (K.trans h.1).1,fun j hj=>by rw[List.getElem?_set_ne (by omega)];exact (K.trans h.1).2 j hj⟩,by rw[List.length_set];have:=h.1.1;omega,ys ++ [y],List.getElem?_set_self (by have:=h.1.1;omega),by simp[ly],?_⟩
  exact hS _ _ _ _ h.2 fun j o hj e=>by rw[List.getElem?_set_ne (Ne.symm hj)];exact e
 ·rintro ρ M1 ⟨-,K,lt,ys,hy,ly,hS1⟩
  exact q ys M1 K hy hS1 ly
section
variable {G:List D->Sto->Out D}{xs:List D}{S:List D->Sto->Nat->Prop}
theorem Zpm (hl:xs.length<=1000)(h0: ∀ M',S [] M' 0)(hS: ∀ ys M1 M2 i,S ys M1 i->(∀ j o,j≠M.length->M1[j]?=some o->M2[j]?=some o)->S ys M2 i)
  (st: ∀ i (h:i < xs.length) ys M1,Kp M M1->M.length < M1.length->S ys M1 i->wO (G [xs[i]] M1) (fun y M2=>Kp M1 M2/\S (ys ++ [y]) M2 (i + 1)) (fun _ _=>False))
  (q: ∀ ys M',Kp M M'->S ys M' xs.length->ys.length=xs.length->Q (.tup ys) M'):wO (fnF (ZK G) 1 0 [.tup xs] M) Q E:=by
 simp![ZK];refine ZkH S hl (by simp[cnt]) (fun M' K i hi=>rfl) h0 hS st fun ys M' K e s l=> ?_
 show wO (bTup [.ref M.length] M') Q E
 rw[CU.ZsP e];exact q ys M' K s l
theorem Zpn (h:M[m]?=some (.lst xs))(hl:xs.length<=1000)(h0: ∀ M',S [] M' 0)(hS: ∀ ys M1 M2 i,S ys M1 i->(∀ j o,j≠M.length->M1[j]?=some o->M2[j]?=some o)->S ys M2 i)
  (st: ∀ i (h:i < xs.length) ys M1,Kp M M1->M.length < M1.length->S ys M1 i->wO (G [xs[i]] M1) (fun y M2=>Kp M1 M2/\S (ys ++ [y]) M2 (i + 1)) (fun _ _=>False))
  (q: ∀ ys M',Kp M M'->M'[M.length]?=some (.lst ys)->S ys M' xs.length->ys.length=xs.length->Q (.ref M.length) M'):wO (fnF (ZK G) 1 0 [.ref m] M) Q E:=by
 simp![ZK,Zbo h];refine ZkH S hl (by rw[Ze7 h];exact Nat.le_refl _) (fun M' K i hi=>by rw[Zis];exact K.get h) h0 hS st fun ys M' K e s l=> ?_
 exact q ys M' K e s l
end
noncomputable def cpF:Nat->List D->Sto->Out D
 |0=>F_law_copy_0
 |k + 1=>fnF (ZK (cpF k)) 1 0
theorem ZrJ:F_law_copy=cpF 4:=rfl
noncomputable def shT:Nat->PyData->Prop
 |k + 1,.tuple ts=>ts.length<=1000/\ ∀ t∈ts,shT k t
 |k + 1,.list ts=>ts.length<=1000/\ ∀ t∈ts,shT k t
 |_,_=>True
theorem Zma {P:Nat->Bool}{xs:List D}{ts:List PyData}{K:Sto}{k:Nat}(h:(poi P M)[m]?=some (.lst xs))(e:ZaH (tre K k) xs=some ts):M[m]?=some (.lst xs):=by
 rw[Zf8] at h;obtain ⟨o,h1,h2⟩:=Option.map_eq_some_iff.mp h
 by_cases c:P m=true
 ·rw[if_pos c] at h2
  cases h2
  have z:ZaH (tre K k) [.fn (PySem.Str.ofString "")]=none:=by rw[ZaH,ZkG]
  rw[z] at e;cases e
 ·rw[if_neg c] at h2
  rw[h1,h2]
theorem ZkI: ∀ (k:Nat) {M:Sto} {P:Nat->Bool} {d:D} {t:PyData},(∀ i,P i=true->i < M.length)->tre (poi P M) k d=some t->shT k t->wO (cpF k [d] M) (fun d' M'=>Kp M M'/\tre (poi P M') k d'=some t) (fun _ _=>False)
 |0,_,_,_,_,_,e,_=>by cases e
 |k + 1,M,P,d,t,hP,e,sh=>by
  have ih:= @ZkI k
  have row: ∀ (xs:List D) (ts:List PyData),ZaH (tre (poi P M) k) xs=some ts->(∀ t∈ts,shT k t)->ts.length<=1000-> ∃ S:List D->Sto->Nat->Prop,(∀ M',S [] M' 0)/\(∀ ys M1 M2 i,S ys M1 i->(∀ (j:Nat) o,j≠M.length->M1[j]?=some o->M2[j]?=some o)->S ys M2 i)/\
    (∀ i (h:i < xs.length) ys M1,Kp M M1->M.length < M1.length->S ys M1 i->wO (cpF k [xs[i]] M1) (fun y M2=>Kp M1 M2/\S (ys ++ [y]) M2 (i + 1)) (fun _ _=>False))/\ ∀ ys M',S ys M' xs.length->ZaH (tre (poi P M') k) ys=some ts:=by
   intro xs ts ea st lt;obtain ⟨l0,g0⟩:=ZR.mp ea
   refine ⟨fun ys M1 i=>ys.length=i/\ ∀ j (h:j < ys.length) (h':j < ts.length),tre (poi (fun i=>P i || i == M.length) M1) k ys[j]=some ts[j],fun M'=>⟨rfl,fun j h=>by simp at h⟩,fun ys M1 M2 i hs k=>⟨hs.1,fun j h h'=> ?_⟩,fun i h ys M1 K lt1 hs=> ?_,fun ys M' hs=> ?_⟩
   ·exact ZdW (fun j q=> .inl q) (fun j o z q=>k j o (by simp at z;exact z.2) q) (hs.2 j h h')
   ·have hi:i < ts.length:=by omega
    have e1:tre (poi (fun i=>P i || i == M.length) M1) k xs[i]=some ts[i]:=ZdW (fun j q=>by
     simp at q
     rcases q with q | q
     ·exact .inl q
     ·exact .inr (by rw[q];exact List.getElem?_eq_none (Nat.le_refl _))) (fun j o _ q=>K.get q) (g0 i h hi)
    refine ZaV (ih (M:=M1) (P:=fun i=>P i || i == M.length) (fun j q=> ?_) e1 (st _ (List.getElem_mem hi))) (fun y M2 q=>⟨q.1,?_,fun j hj hj'=> ?_⟩) (fun _ _ z=>z)
    ·simp at q
     rcases q with q | q
     ·have:=hP j q;omega
     ·omega
    ·rw[List.length_append,hs.1];rfl
    ·by_cases c:j < ys.length
     ·rw[List.getElem_append_left c]
      exact ZdW (fun j q=> .inl q) (fun j o _ z=>q.1.get z) (hs.2 j c hj')
     ·have e2:j=ys.length:=by simp at hj;omega
      subst e2;rw[List.getElem_append_right (Nat.le_refl _)]
      have:ys.length=i:=hs.1
      simp only[Nat.sub_self,List.getElem_cons_zero,this];exact q.2
   ·refine ZR.mpr ⟨by rw[hs.1];exact l0,fun j h h'=> ?_⟩
    exact ZdW (fun j q=> .inl (by simp;exact .inl q)) (fun j o _ z=>z) (hs.2 j h h')
  show wO (fnF (ZK (cpF k)) 1 0 [d] M) _ _
  cases d with
  |non=>
   simp![ZK];exact ⟨Kp.refl,e⟩
  |int i=>
   simp![ZK];exact ⟨Kp.refl,e⟩
  |bl b=>
   simp![ZK];exact ⟨Kp.refl,e⟩
  |str x=>
   simp![ZK];exact ⟨Kp.refl,e⟩
  |tup xs=>
   obtain ⟨ts,e1,e2⟩:=Option.map_eq_some_iff.mp e
   subst e2;obtain ⟨S,h0,hS,st,fin⟩:=row xs ts e1 sh.2 sh.1
   refine Zpm (S:=S) (by rw[(ZR.mp e1).1];exact sh.1) h0 hS st fun ys M' K s l=>⟨K,?_⟩
   exact Zck (fin ys M' s)
  |ref m=>
   change (match (poi P M)[m]? with | some (.lst xs)=>(ZaH (tre (poi P M) k) xs).map PyData.list | none=>none)=_ at e
   cases em:(poi P M)[m]? with
   |none=>rw[em] at e;cases e
   |some o=>
    cases o with
    |lst xs=>
     rw[em] at e;obtain ⟨ts,e1,e2⟩:=Option.map_eq_some_iff.mp e
     subst e2;obtain ⟨S,h0,hS,st,fin⟩:=row xs ts e1 sh.2 sh.1
     refine Zpn (S:=S) (Zma em e1) (by rw[(ZR.mp e1).1];exact sh.1) h0 hS st fun ys M' K hm s l=>⟨K,?_⟩
     refine Zcl ?_ (fin ys M' s)
     rw[Zf8,hm]
     have: ¬ P M.length=true:=fun z=>Nat.lt_irrefl _ (hP _ z)
     simp only[Option.map_some,if_neg this]
  |_=>cases e
theorem ZjV {a b:Int}(q:Q (.int (Int.gcd a b:Nat)) M):wO (F_law_common [.int a,.int b] M) Q E:=by
 have e:=Zkx (c:=tv (e2 dGt (Zg 1) (eC (.int 0)))) (i:=0) (j:=1) (M:=M) (by decide) gt0 b.natAbs a.natAbs [some (.int (a.natAbs:Nat)),some (.int (b.natAbs:Nat))] rfl rfl
 have e':sWh (tv (e2 dGt (Zg 1) (eC (.int 0)))) ZbB [some (.int (a.natAbs:Nat)),some (.int (b.natAbs:Nat))] M=_:=e
 simp![F_law_common,Zcw];rw[e'];simp![Zj];exact q
noncomputable def Rnd (rs:List Pt):Prop:=3<=rs.length/\(∀ p∈rs,Int.gcd p.1 p.2=1)/\(∀ j:Nat,j < rs.length->0 < X (cy rs j) (cy rs (j + 1)))/\Zd3 rs<=1
open Classical in
noncomputable def rnd (rs:List Pt):Bool:=decide (Rnd rs)
theorem ZcD (h:Rnd rs):rnd rs=true:=by unfold rnd;exact @decide_eq_true _ (Classical.propDecidable _) h
theorem ZcE (h: ¬ Rnd rs):rnd rs=false:=by unfold rnd;exact @decide_eq_false _ (Classical.propDecidable _) h
theorem Zpo (h:M[m]?=some (.lst (prs rs)))(hl:rs.length<=1000)(hb: ∀ p∈rs,Bd 1000000 p)(x: ¬ Rnd rs-> ∀ M' y z,Kp M M'->E CG.NR (M' ++ [.lst [y,z]]))(q:Rnd rs-> ∀ M',Kp M M'->Q .non M'):wO (CG.F_look_round [.ref m] M) Q E:=by
 by_cases l3:rs.length < 3
 ·simp![CG.F_look_round,CG.ZaE,CG.Zbo h,h]
  refine ZcM ?_
  simp![Zf1];exact ⟨⟨by decide +kernel,by decide +kernel⟩,x (fun z=>by have:=z.1;omega) M _ _ Kp.refl⟩
 have ne:rs≠[]:=by intro z;rw[z] at l3;simp at l3
 by_cases hg: ∀ p∈rs,Int.gcd p.1 p.2=1
 ·refine CG.Zpe h (by omega) hb hg (fun i hi _ np=>x (fun z=>np (z.2.2.1 i hi)) M _ _ Kp.refl) (fun _ c M' K=>x (fun z=>by have:=z.2.2.2;omega) M' _ _ K) (fun pos c M' K=>q ⟨by omega,hg,pos,c⟩ M' K)
 ·simp![CG.F_look_round,CG.ZaE,CG.Zbo h,h]
  refine ZeF (fun k ρ M'=>M'=M/\(∃ x y,ρ=[some (.ref m),x,y])/\ ∀ j:Nat,j < k->Int.gcd (cy rs j).1 (cy rs j).2=1) h ⟨rfl,⟨_,_,rfl⟩,fun j hj=>by omega⟩ (fun k ρ M' hI=>by rw[hI.1];exact h) ?_ ?_
  ·rintro k ρ M' hk ⟨e1,⟨x1,y1,rfl⟩,ki⟩
   rw[e1];clear e1 M';rw[ZB] at hk;rw[CC.Z7];simp![CG.Zao];refine CG.Zpd ?_
   by_cases c:Int.gcd (cy rs k).1 (cy rs k).2=1
   ·rw[decide_eq_true c]
    simp![Zj];refine ⟨⟨_,_,rfl⟩,fun j hj=> ?_⟩
    by_cases z:j < k
    ·exact ki j z
    ·rw[show j=k by omega]
     exact c
   ·rw[decide_eq_false c]
    simp![Zj];refine ZcM ?_
    simp![Zf1];exact ⟨⟨by decide +kernel,CG.ZkF (by omega)⟩,x (fun z=>hg z.2.1) M _ _ Kp.refl⟩
  ·rintro ρ M' ⟨_,_,ki⟩
   exfalso
   rw[ZB] at ki;refine hg fun p hp=> ?_
   obtain ⟨j,hj,rfl⟩:=List.getElem_of_mem hp
   have:=ki j hj
   rw[Zcu hj] at this;exact this
theorem ZaT (h:M[m]?=some (.lst (prs rs)))(hl:rs.length<=1000)(hb: ∀ p∈rs,Bd 1000000 p)(q: ∀ M',Kp M M'->Q (.bl (rnd rs)) M'):wO (F_is_round [.ref m] M) Q E:=by
 simp![F_is_round,Zds,ZkB];refine Zpo h hl hb (fun c M' y z K=> ?_) (fun c M' K=> ?_)
 ·simp![ZiB,CG.NR]
  rw[ZcE c] at q;exact ⟨by decide +kernel,q M' K⟩
 ·simp![Zj]
  rw[ZcD c] at q;exact q M' K
noncomputable def low (p:Pt):Prop:=p.2 < 0\/p=(-1,0)
noncomputable def upp (p:Pt):Prop:=0 < p.2
theorem Zmb {p:Pt}(g:Int.gcd p.1 p.2=1)(h:p≠(1,0)):low p\/upp p:=by
 by_cases c:p.2=0
 ·left
  right
  rw[c,Int.gcd_zero_right] at g
  have:p.1=1\/p.1= -1:=by omega
  rcases this with z | z
  ·exact absurd (Prod.ext z c) h
  ·exact Prod.ext z c
 ·unfold low upp
  omega
theorem Zmc {a b c:Pt}(ha:upp a)(hb:upp b)(hc:upp c)(h1:0 < X a b)(h2:0 < X b c):0 < X a c:=by
 unfold upp at *;have e:X a c * b.2=X a b * c.2 + X b c * a.2:=by unfold X;grind
 have p1:=Int.mul_pos h1 hc
 have p2:=Int.mul_pos h2 ha
 have:0 < X a c * b.2:=by omega
 exact Int.pos_of_mul_pos_left this (by omega)
theorem Zmd {a b c:Pt}(ha:low a)(hb:low b)(hc:low c)(h1:0 < X a b)(h2:0 < X b c):0 < X a c:=by
 have a0:a.2<=0:=by rcases ha with z | z;omega;rw[z];decide
 have c0:c.2<=0:=by rcases hc with z | z;omega;rw[z];decide
 have b0:b.2 < 0:=by
  rcases hb with z | z
  ·exact z
  ·rw[z] at h1
   unfold X at h1
   simp only at h1
   omega
 have e:X a c * b.2=X a b * c.2 + X b c * a.2:=by unfold X;grind
 have p1:X a b * c.2<=0:=Int.mul_nonpos_of_nonneg_of_nonpos (by omega) c0
 have p2:X b c * a.2<=0:=Int.mul_nonpos_of_nonneg_of_nonpos (by omega) a0
 have p3:X a c * b.2 < 0:=by
  by_cases z:c.2 < 0
  ·have:X a b * c.2 < 0:=Int.mul_neg_of_pos_of_neg h1 z
   omega
  ·have c1:c=(-1,0):=by rcases hc with q | q;omega;exact q
   rw[c1] at h2;unfold X at h2
   simp only at h2
   omega
 by_cases z:0 < X a c
 ·exact z
 ·have:0<=X a c * b.2:=Int.mul_nonneg_of_nonpos_of_nonpos (by omega) (by omega)
  omega
theorem ZjW (ne:rs≠[])(hg: ∀ p∈rs,Int.gcd p.1 p.2=1)(pos: ∀ j:Nat,j < rs.length->0 < X (cy rs j) (cy rs (j + 1))):1<=Zd3 rs:=by
 rcases Nat.eq_zero_or_pos (Zd3 rs) with z | z
 case inr=>exact z
 exfalso
 have un: ∀ j:Nat,j < rs.length->met (cy rs j) (cy rs (j + 1))=false:=fun j hj=>by
  cases c:met (cy rs j) (cy rs (j + 1)) with
  |false=>rfl
  |true=>
   have m:j∈(List.range rs.length).filter fun (i:Nat)=>met (cy rs i) (cy rs (i + 1)):=List.mem_filter.mpr ⟨List.mem_range.mpr hj,c⟩
   have:=List.length_pos_of_mem m
   unfold Zd3 at z;omega
 have l0:0 < rs.length:=List.length_pos_iff.mpr ne
 have per: ∀ j:Nat,∃ k:Nat,k < rs.length/\cy rs j=cy rs k/\cy rs (j + 1)=cy rs (k + 1):=fun j=>by
  refine ⟨j % rs.length,Nat.mod_lt _ l0,?_,?_⟩
  ·rw[Int.natCast_emod,Zcs]
  ·rw[Int.natCast_emod]
   unfold cy;rw[show ((j:Int) % (rs.length:Int) + 1) % (rs.length:Int)=((j:Int) + 1) % (rs.length:Int) by rw[Int.emod_add_emod]]
 have pos': ∀ j:Nat,0 < X (cy rs j) (cy rs (j + 1)):=fun j=>by
  obtain ⟨k,hk,e1,e2⟩:=per j
  rw[e1,e2];exact pos k hk
 have un': ∀ j:Nat,met (cy rs j) (cy rs (j + 1))=false:=fun j=>by
  obtain ⟨k,hk,e1,e2⟩:=per j
  rw[e1,e2];exact un k hk
 have nE: ∀ j:Nat,cy rs j≠(1,0):=fun j q=>by
  have:=un' j
  unfold met at this;rw[decide_eq_true q,Bool.true_or] at this;cases this
 have hf: ∀ j:Nat,low (cy rs j)\/upp (cy rs j):=fun j=>Zmb (hg _ (ZaN ne)) (nE j)
 have st: ∀ j:Nat,low (cy rs j)->low (cy rs (j + 1:Nat)):=fun j hl=>by
  rcases hf (j + 1) with q | q
  ·exact q
  ·exfalso
   have u1:=un' j
   have p1:=pos' j
   have e1:((j + 1:Nat):Int)=(j:Int) + 1:=by omega
   rw[e1] at q;unfold met at u1
   rcases hl with w | w
   ·rw[decide_eq_true w,decide_eq_true (show 0 < (cy rs ((j:Int) + 1)).2 from q)] at u1
    simp at u1
   ·rw[w] at p1
    unfold X at p1;unfold upp at q
    simp only at p1
    omega
 have fin: ∀ (S:Pt->Prop),(∀ j:Nat,S (cy rs j))->(∀ {a b c:Pt},S a->S b->S c->0 < X a b->0 < X b c->0 < X a c)->False:=fun S hS tr=>by
  have all: ∀ j:Nat,0 < X (cy rs 0) (cy rs (j + 1:Nat)):=by
   intro j
   induction j with
   |zero=>exact pos' 0
   |succ j ih=>exact tr (hS 0) (hS (j + 1)) (hS (j + 1 + 1)) ih (pos' (j + 1))
  have:=all (rs.length - 1)
  rw[show ((rs.length - 1 + 1:Nat):Int)=0 + (rs.length:Int) by omega,Zct] at this
  unfold X at this;have e:(cy rs 0).1 * (cy rs 0).2 - (cy rs 0).2 * (cy rs 0).1=0:=by grind
  omega
 by_cases c: ∃ j:Nat,low (cy rs j)
 ·obtain ⟨j0,h0⟩:=c
  have up: ∀ k:Nat,low (cy rs (j0 + k:Nat)):=fun k=>by
   induction k with
   |zero=>exact h0
   |succ k ih=>exact st _ ih
  refine fin low (fun j=> ?_) (fun a b c=>Zmd a b c)
  have:=up (j + rs.length * j0 - j0)
  have e:((j0 + (j + rs.length * j0 - j0):Nat):Int)=(j:Int) + rs.length * j0:=by
   have:j0<=rs.length * j0:=Nat.le_mul_of_pos_left _ l0
   rw[show j0 + (j + rs.length * j0 - j0)=j + rs.length * j0 by omega]
   simp
  rw[e] at this;unfold cy at this ⊢;rw[Int.add_mul_emod_self_left] at this;exact this
 ·exact fin upp (fun j=>(hf j).resolve_left fun q=>c ⟨j,q⟩) (fun a b c=>Zmc a b c)
noncomputable def Rb (b:Bool)(rs:List Pt):Prop:=Rnd rs/\(b=true-> ∀ j:Nat,j < rs.length->X (cy rs j) (cy rs (j + 1))=1)
open Classical in
noncomputable def rb (b:Bool)(rs:List Pt):Bool:=decide (Rb b rs)
theorem ZkJ {b:Bool}(h:Rb b rs):rb b rs=true:=by unfold rb;exact @decide_eq_true _ (Classical.propDecidable _) h
theorem ZgO {b:Bool}(h: ¬ Rb b rs):rb b rs=false:=by unfold rb;exact @decide_eq_false _ (Classical.propDecidable _) h
theorem ZiM:wO (F_law_is_pair [pr u.1 u.2] M) Q E=Q (.bl true) M:=by
 simp![F_law_is_pair,Zb7,CR.F_law_whole,CR.Za1]
theorem ZjX (k:Nat):((List.range (k + 1)).filter fun (i:Nat)=>met (cy rs i) (cy rs (i + 1))).length=((List.range k).filter fun (i:Nat)=>met (cy rs i) (cy rs (i + 1))).length + (if met (cy rs k) (cy rs (k + 1)) then 1 else 0):=by
 rw[List.range_succ,List.filter_append,List.length_append]
 congr 1
 cases c:met (cy rs k) (cy rs (k + 1))<;>simp[List.filter_cons,c]
theorem Zaf {b:Bool}(h:M[m]?=some (.lst (prs rs)))(hl:rs.length<=1000)(hb: ∀ p∈rs,Bd 1000000 p)(q:Q (.bl (rb b rs)) M):wO (F_law_is_round [.ref m,.bl b] M) Q E:=by
 by_cases l3:rs.length < 3
 ·rw[ZgO fun z=>by have:=z.1.1;omega] at q
  simp![F_law_is_round,Za6,CG.Zbo h,h];exact q
 have ne:rs≠[]:=by intro z;rw[z] at l3;simp at l3
 simp![F_law_is_round,Za6,CG.Zbo h,h];refine ZcZ (fun i ρ M'=>M'=M/\(∃ x,ρ=[some (.ref m),some (.bl b),x,none,none,none,none,none])/\ ∀ j:Nat,j < i->Int.gcd (cy rs j).1 (cy rs j).2=1) h ⟨rfl,⟨_,rfl⟩,fun j hj=>by omega⟩ (fun i ρ M' hI=>by rw[hI.1];exact h) ?_ ?_
 ·rintro i ρ M' hi ⟨e,⟨x,rfl⟩,hj⟩
  rw[e];clear e M';rw[ZB] at hi;rw[CC.Z7];simp![Zbd,ZiM];refine ZjV ?_
  simp![Zj];refine Zmq (fun z=> ?_) (fun z=> ?_)
  ·simp![Zj]
   rw[ZgO fun w=>by have:=w.1.2.1 _ (ZaN (i:=(i:Int)) ne);omega] at q
   exact q
  ·simp![Zj]
   refine ⟨⟨_,rfl⟩,fun j hj'=> ?_⟩
   by_cases c:j < i
   ·exact hj j c
   ·rw[show j=i by omega]
    omega
 rintro ρ M' ⟨e,⟨x,rfl⟩,hj⟩
 rw[e];clear e M';rw[ZB] at hj;have hg: ∀ p∈rs,Int.gcd p.1 p.2=1:=fun p hp=>by
  obtain ⟨j,hj',rfl⟩:=List.getElem_of_mem hp
  have:=hj j hj'
  rw[Zcu hj'] at this;exact this
 simp![h];refine ⟨by omega,?_⟩
 rw[Int.toNat_natCast];refine ZcY (fun i ρ M'=>M'=M/\(∃ x2 x4 x5 x6 x7,ρ=[some (.ref m),some (.bl b),x2,some (.int (((List.range i).filter fun (i:Nat)=>met (cy rs i) (cy rs (i + 1))).length:Nat)),x4,x5,x6,x7])/\ ∀ j:Nat,j < i->0 < X (cy rs j) (cy rs (j + 1))/\(b=true->X (cy rs j) (cy rs (j + 1))=1)) ⟨rfl,⟨_,_,_,_,_,rfl⟩,fun j hj=>by omega⟩ ?_ ?_
 ·rintro i ρ M' hi ⟨e,⟨x2,x4,x5,x6,x7,rfl⟩,hp⟩
  rw[e];clear e M';rw[show (0:Int) + (i:Int)=i by omega]
  have b1:=hb _ (ZaN (i:=(i:Int)) ne)
  have am:atI (prs rs) (((i:Int) + 1) % (rs.length:Int))=some (pr (cy rs (i + 1)).1 (cy rs (i + 1)).2):=by
   have e1:=Int.emod_nonneg ((i:Int) + 1) (show (rs.length:Int)≠0 by omega)
   have e2:=Int.emod_lt_of_pos ((i:Int) + 1) (show (0:Int) < rs.length by omega)
   rw[ZbO ⟨by omega,e2⟩,Zcs]
  have cw: ∀ {Q:D->Sto->Prop} {E:Str->Sto->Prop},wO (CC.F_law_cross [pr (cy rs i).1 (cy rs i).2,pr (cy rs (i + 1)).1 (cy rs (i + 1)).2] M) Q E=Q (.int (X (cy rs i) (cy rs (i + 1)))) M:=CC.ZbA (by unfold Bd at b1;omega) (by unfold Bd at b1;omega)
  have c1: ∀ {Q:D->Sto->Prop} {E:Str->Sto->Prop},wO (CC.F_law_cross [pr (cy rs i).1 (cy rs i).2,pr 1 0] M) Q E=Q (.int ((cy rs i).1 * 0 - (cy rs i).2 * 1)) M:=CC.ZbA (by unfold Bd at b1;omega) (by unfold Bd at b1;omega)
  have c2: ∀ {Q:D->Sto->Prop} {E:Str->Sto->Prop},wO (CC.F_law_cross [pr 1 0,pr (cy rs (i + 1)).1 (cy rs (i + 1)).2] M) Q E=Q (.int (1 * (cy rs (i + 1)).2 - 0 * (cy rs (i + 1)).1)) M:=CC.ZbA (by omega) (by omega)
  simp![Zbe,h,ZbO,am,cw];refine brO (fun z=> ?_) (fun z=> ?_)
  ·simp![Zj]
   rw[ZgO fun w=>by have:=w.1.2.2.1 i hi;omega] at q
   exact q
  have ex: ∀ j:Nat,(b=true->X (cy rs i) (cy rs (i + 1))=1)->j < i + 1->0 < X (cy rs j) (cy rs (j + 1))/\(b=true->X (cy rs j) (cy rs (j + 1))=1):=fun j fb hj=>by
   by_cases c:j < i
   ·exact hp j c
   ·rw[show j=i by omega]
    exact ⟨by omega,fb⟩
  have cs:=ZjX (rs:=rs) i
  have g1:=hg _ (ZaN (i:=(i:Int)) ne)
  have my:met (cy rs i) (cy rs (i + 1))=true-> ∀ {n:Int},n=(((List.range i).filter fun (i:Nat)=>met (cy rs i) (cy rs (i + 1))).length:Nat) + 1->n=(((List.range (i + 1)).filter fun (i:Nat)=>met (cy rs i) (cy rs (i + 1))).length:Nat):=fun e n en=>by rw[e] at cs;simp only[if_true] at cs;omega
  have mn:met (cy rs i) (cy rs (i + 1))=false->((((List.range i).filter fun (i:Nat)=>met (cy rs i) (cy rs (i + 1))).length:Nat):Int)=(((List.range (i + 1)).filter fun (i:Nat)=>met (cy rs i) (cy rs (i + 1))).length:Nat):=fun e=>by rw[e] at cs;simp only[Bool.false_eq_true,if_false] at cs;omega
  cases b with
  |false=>
   simp![Zj];refine brO (fun z1=> ?_) (fun z1=> ?_)
   ·simp![Zj]
    refine brO (fun z2=> ?_) (fun z2=> ?_)
    ·simp![Zj]
     have e1:met (cy rs i) (cy rs (i + 1))=true:=by
      rw[z1,Int.gcd_zero_right] at g1;unfold met;rw[decide_eq_true (show cy rs i=(1,0) from Prod.ext (by show (cy rs i).1=1;omega) z1)]
      rfl
     exact ⟨⟨_,_,_,_,_,by rw[my e1 rfl]⟩,fun j hj=>by simpa using ex j (fun z=>nomatch z) hj⟩
    ·simp![c1]
     have e1:met (cy rs i) (cy rs (i + 1))=false:=by
      unfold met;rw[decide_eq_false (show ¬ cy rs i=(1,0) from fun z=>by rw[z] at z2;exact z2 (by decide)),decide_eq_false (show ¬ (cy rs i).2 < 0 by omega)]
      rfl
     exact ⟨⟨_,_,_,_,_,by rw[mn e1]⟩,fun j hj=>by simpa using ex j (fun z=>nomatch z) hj⟩
   ·simp![c1]
    refine brO (fun z3=> ?_) (fun z3=> ?_)
    ·simp![c2]
     refine brS (fun z4=> ?_) (fun z4=> ?_)
     ·simp![Zj]
      have e1:met (cy rs i) (cy rs (i + 1))=true:=by
       unfold met;rw[decide_eq_true (show (cy rs i).2 < 0 by omega),decide_eq_true (show 0 < (cy rs (i + 1)).2 by omega)]
       simp
      exact ⟨⟨_,_,_,_,_,by rw[my e1 rfl]⟩,fun j hj=>by simpa using ex j (fun z=>nomatch z) hj⟩
     ·simp![Zj]
      have e1:met (cy rs i) (cy rs (i + 1))=false:=by
       unfold met;rw[decide_eq_false (show ¬ cy rs i=(1,0) from fun z=>by rw[z] at z1;exact z1 rfl),decide_eq_false (show ¬ 0 < (cy rs (i + 1)).2 by omega)]
       simp
      exact ⟨⟨_,_,_,_,_,by rw[mn e1]⟩,fun j hj=>by simpa using ex j (fun z=>nomatch z) hj⟩
    ·simp![Zj]
     have e1:met (cy rs i) (cy rs (i + 1))=false:=by
      unfold met;rw[decide_eq_false (show ¬ cy rs i=(1,0) from fun z=>by rw[z] at z1;exact z1 rfl),decide_eq_false (show ¬ (cy rs i).2 < 0 by omega)]
      rfl
     exact ⟨⟨_,_,_,_,_,by rw[mn e1]⟩,fun j hj=>by simpa using ex j (fun z=>nomatch z) hj⟩
  |true=>
   simp![Zj];refine Zmq (fun z'=> ?_) (fun z'=> ?_)
   ·simp![Zj]
    rw[ZgO fun w=>z' (w.2 rfl i hi)] at q
    exact q
   simp![Zj];refine brO (fun z1=> ?_) (fun z1=> ?_)
   ·simp![Zj]
    refine brO (fun z2=> ?_) (fun z2=> ?_)
    ·simp![Zj]
     have e1:met (cy rs i) (cy rs (i + 1))=true:=by
      rw[z1,Int.gcd_zero_right] at g1;unfold met;rw[decide_eq_true (show cy rs i=(1,0) from Prod.ext (by show (cy rs i).1=1;omega) z1)]
      rfl
     exact ⟨⟨_,_,_,_,_,by rw[my e1 rfl]⟩,fun j hj=>by simpa using ex j (fun _=>z') hj⟩
    ·simp![c1]
     have e1:met (cy rs i) (cy rs (i + 1))=false:=by
      unfold met;rw[decide_eq_false (show ¬ cy rs i=(1,0) from fun z=>by rw[z] at z2;exact z2 (by decide)),decide_eq_false (show ¬ (cy rs i).2 < 0 by omega)]
      rfl
     exact ⟨⟨_,_,_,_,_,by rw[mn e1]⟩,fun j hj=>by simpa using ex j (fun _=>z') hj⟩
   ·simp![c1]
    refine brO (fun z3=> ?_) (fun z3=> ?_)
    ·simp![c2]
     refine brS (fun z4=> ?_) (fun z4=> ?_)
     ·simp![Zj]
      have e1:met (cy rs i) (cy rs (i + 1))=true:=by
       unfold met;rw[decide_eq_true (show (cy rs i).2 < 0 by omega),decide_eq_true (show 0 < (cy rs (i + 1)).2 by omega)]
       simp
      exact ⟨⟨_,_,_,_,_,by rw[my e1 rfl]⟩,fun j hj=>by simpa using ex j (fun _=>z') hj⟩
     ·simp![Zj]
      have e1:met (cy rs i) (cy rs (i + 1))=false:=by
       unfold met;rw[decide_eq_false (show ¬ cy rs i=(1,0) from fun z=>by rw[z] at z1;exact z1 rfl),decide_eq_false (show ¬ 0 < (cy rs (i + 1)).2 by omega)]
       simp
      exact ⟨⟨_,_,_,_,_,by rw[mn e1]⟩,fun j hj=>by simpa using ex j (fun _=>z') hj⟩
    ·simp![Zj]
     have e1:met (cy rs i) (cy rs (i + 1))=false:=by
      unfold met;rw[decide_eq_false (show ¬ cy rs i=(1,0) from fun z=>by rw[z] at z1;exact z1 rfl),decide_eq_false (show ¬ (cy rs i).2 < 0 by omega)]
      rfl
     exact ⟨⟨_,_,_,_,_,by rw[mn e1]⟩,fun j hj=>by simpa using ex j (fun _=>z') hj⟩
 rintro ρ M' ⟨e,⟨x2,x4,x5,x6,x7,rfl⟩,hp⟩
 rw[e];clear e M';simp![Zj];have pos: ∀ j:Nat,j < rs.length->0 < X (cy rs j) (cy rs (j + 1)):=fun j hj=>(hp j hj).1
 have m1:=ZjW ne hg pos
 have e:decide ((((List.range rs.length).filter fun (i:Nat)=>met (cy rs i) (cy rs (i + 1))).length:Int)=1)=rb b rs:=by
  have e0:((List.range rs.length).filter fun (i:Nat)=>met (cy rs i) (cy rs (i + 1))).length=Zd3 rs:=rfl
  rw[e0]
  by_cases c:Zd3 rs<=1
  ·rw[ZkJ ⟨⟨by omega,hg,pos,c⟩,fun z j hj=>(hp j hj).2 z⟩]
   exact decide_eq_true (by omega)
  ·rw[ZgO fun z=>c z.1.2.2.2]
   exact decide_eq_false (by omega)
 rw[e];exact q
theorem ZkK {f:Pt->Pt->Nat}: ∀ (k:Nat) (j:Int),sf f rs j (k + 1)=sf f rs j k + f (cy rs (j + k)) (cy rs (j + k + 1))
 |0,j=>by simp[sf]
 |k + 1,j=>by
  rw[sf,ZkK k (j + 1),sf];rw[show j + 1 + (k:Int)=j + ((k + 1:Nat):Int) by omega]
  omega
theorem Zme (ne:rs≠[])(hx: ∀ i:Nat,i < rs.length->0 < X (cy rs i) (cy rs (i + 1)))(hg: ∀ p∈rs,Int.gcd p.1 p.2=1):Zd3 rs=cyc (in1 (1,0)) rs:=by
 rw[Zf4 ne];unfold Zd3
 have: ∀ k:Nat,k<=rs.length->((List.range k).filter fun (i:Nat)=>met (cy rs i) (cy rs (i + 1))).length=sf (in1 (1,0)) rs 0 k:=by
  intro k
  induction k with
  |zero=>intro _;rfl
  |succ k ih=>
   intro hk;rw[List.range_succ,List.filter_append,List.length_append,ih (by omega),ZkK]
   have:=CG.Zpb (hg _ (ZaN (i:=(k:Int)) ne)) (hx k (by omega))
   rw[show (0:Int) + (k:Int)=k by omega,<- this]
   congr 1
   cases c:met (cy rs k) (cy rs (k + 1))<;>simp[List.filter_cons,c]
 exact this _ (Nat.le_refl _)
theorem ZiN (h:Smo rs):Rnd rs:=by
 have r:=h.rn
 refine ⟨r.len,r.gc,fun i _=>r.pos i,?_⟩
 rw[Zme r.ne (fun i _=>r.pos i) r.gc,(r.fan (1,0) (by decide)).1]
 exact Nat.le_refl _
theorem Zpp {b:Bool}(h:Smo rs):Rb b rs:=⟨ZiN h,fun _ j _=>h.one j⟩
theorem Zdd (h:M[m]?=some (.lst (prs rs)))(hl:rs.length<=1000)(hb: ∀ p∈rs,Bd 1000000 p)(hS:Rb true rs->Smo rs)(q: ∀ M',Kp M M'->Q (.bl (rb true rs)) M'):wO (F_is_smooth [.ref m] M) Q E:=by
 have nr:Nr 18446744073709551615 rs:=fun p hp=>by have:=hb p hp;unfold Bd at this;omega
 simp![F_is_smooth,Zdc];refine ZaT h hl hb fun M1 K1=> ?_
 by_cases c:Rnd rs
 ·rw[ZcD c]
  simp![Zj]
  by_cases c2:Rb true rs
  ·refine CC.Zc3 (K1.get h) (hS c2) nr ?_
   simp![Zj];rw[ZkJ c2] at q;exact q M1 K1
  ·have rg:CF.Rgh rs:=by
    refine Classical.byContradiction fun z=>c2 ⟨c,fun _ j hj=>Classical.byContradiction fun y=>z ⟨j,hj,y⟩⟩
   refine CF.Zfi (K1.get h) rg nr fun j _=> ?_
   simp![Zj];rw[ZgO c2] at q;exact q M1 K1
 ·rw[ZcE c]
  simp![Zj];rw[ZgO fun z=>c z.1] at q
  exact q M1 K1
noncomputable def At (x:D):Prop:=(∃ i:Int,x= .int i)\/ ∃ b,x= .bl b
theorem Zpq:(PySem.Str.ofString "a place is from 0 to ").length<=1000:=by rw[PySem.ofString_length];exact (by decide:(21:Nat)<=1000)
theorem Zfo {at':Int}(h:M[n]?=some (.lst (prs rs)))(hl:rs.length<=1000)(ha:at' < 0\/(rs.length:Int)<=at')(q:E (PySem.Str.ofString "NoPlace") M):wO (CC.F_ask_place [.ref n,.int at'] M) Q E:=by
 simp![CC.F_ask_place,CC.Zae];refine ZoG (fun b M'=>b=true/\M'=M) ?_ ?_
 ·refine brO (fun z=> ?_) (fun z=> ?_)
  ·simp![Zj]
  ·simp![h]
 ·rintro b M ⟨rfl,rfl⟩
  simp![Zj];refine ZtR ?_ ?_
  ·refine ZtP ?_ ?_ ?_
   ·exact Zpq
   ·omega
   refine ZtQ (i:=(rs.length:Int) - 1) ?_ ?_ ?_ ?_
   ·have:=Zky (o:=DL.e2 dSub (Zl bLen (Zc (Zg 0) aNil)) (eC (D.int 1)) [some (D.ref n),some (D.int at')] M) (Q:=fun d M'=>d= .int ((rs.length:Int) - 1)/\M'=M) (by simp![h])
    obtain ⟨d,M',e,e1,e2⟩:=this
    rw[e,e1,e2]
   ·omega
   ·omega
   exact ZoB (by omega)
  intro x;simp![Zj];exact q
theorem Zfp {k:Int}(h:M[n]?=some (.lst (prs rs)))(hs:Smo rs)(hb:Nr 18446744073709551615 rs)(hl:rs.length<=1000)(ha:k < 0\/(rs.length:Int)<=k)(q: ∀ M',Kp M M'->E (PySem.Str.ofString "NoPlace") M'):wO (CE.F_taken_out [.ref n,.int k] M) Q E:=by
 have hm:=ZJ h
 simp![CE.F_taken_out,CE.Za0];refine CE.Zc9 h hs (by omega) hb ?_
 simp![Zj];refine Zfo (rs:=rs) (by rw[ZbQ hm];exact h) hl ha ?_
 exact q _ Kp.app
open Classical in
noncomputable def wk:List Pt->List D->Option (List Pt)
 |rs,[]=>some rs
 |rs,d :: r=>match d with
  | .int k=>if 0<=k/\k < rs.length/\4<=rs.length/\T rs k= -1 then wk (del rs k.toNat) r else none
  |_=>none
theorem ZsR {k:Int}{r:List D}(c:0<=k/\k < rs.length/\4<=rs.length/\T rs k= -1):wk rs (.int k :: r)=wk (del rs k.toNat) r:=by
 unfold wk;dsimp only;rw[if_pos c];cases r<;>rfl
theorem ZrK {k:Int}{r:List D}(c: ¬ (0<=k/\k < rs.length/\4<=rs.length/\T rs k= -1)):wk rs (.int k :: r)=none:=by
 unfold wk;dsimp only;rw[if_neg c]
theorem ZsS {b:Bool}{r:List D}:wk rs (.bl b :: r)=none:=by
 unfold wk;rfl
theorem ZkL: ∀ {ps:List D} {rs ls:List Pt},Smo rs->wk rs ps=some ls->Smo ls/\ ∀ p∈ls,p∈rs
 | [],rs,ls,hs,e=>by cases e;exact ⟨hs,fun p hp=>hp⟩
 |d :: r,rs,ls,hs,e=>by
  unfold wk at e
  split at e
  ·rename_i k
   split at e
   ·rename_i c
    obtain ⟨h1,h2,h3,h4⟩:=c
    have ek:((k.toNat:Nat):Int)=k:=by omega
    obtain ⟨a,b⟩:=ZkL (hs.del (k:=k.toNat) (by omega) h3 (by rw[ek];exact h4)) e
    refine ⟨a,fun p hp=> ?_⟩
    have:=b p hp
    unfold del at this
    rcases List.mem_append.mp this with z | z
    ·exact List.mem_of_mem_take z
    ·exact List.mem_of_mem_drop z
   ·cases e
  ·cases e
noncomputable def Wst (rs:List Pt)(ps:List D)(ls:List Pt):Prop:=Rb true rs/\wk rs ps=some ls/\ls.length<=4
open Classical in
noncomputable def wst (rs:List Pt)(ps:List D)(ls:List Pt):Bool:=decide (Wst rs ps ls)
theorem Zpr {ps:List D}{ls:List Pt}(h:Wst rs ps ls):wst rs ps ls=true:=by unfold wst;exact @decide_eq_true _ (Classical.propDecidable _) h
theorem ZcF {ps:List D}{ls:List Pt}(h: ¬ Wst rs ps ls):wst rs ps ls=false:=by unfold wst;exact @decide_eq_false _ (Classical.propDecidable _) h
theorem ZkM {ps:List D}{i:Nat}(hi:i < ps.length):ps.drop i=ps[i] :: ps.drop (i + 1):=List.drop_eq_getElem_cons hi
theorem ZkN {k:Nat}:(del rs k).length<=rs.length:=by unfold del;rw[List.length_append,List.length_take,List.length_drop];omega
theorem Zps {ps:List D}{ls:List Pt}{mr mp ml:Nat}(hr:M[mr]?=some (.lst (prs rs)))(hp:M[mp]?=some (.lst ps))(hl:M[ml]?=some (.lst (prs ls)))(ha: ∀ x∈ps,At x)(lr:rs.length<=1000)(ll:ls.length<=1000)(br: ∀ p∈rs,Bd 1000000 p)(bl: ∀ p∈ls,Bd 1000000 p)(hS:Rb true rs->Smo rs)
  (q: ∀ M',Kp M M'->Q (.bl (wst rs ps ls)) M'):wO (F_walk_stands [.ref mr,.ref mp,.ref ml] M) Q E:=by
 simp![F_walk_stands,Zbl];refine Zdd hr lr br hS fun M1 K1=> ?_
 by_cases c:Rb true rs
 case neg=>
  rw[ZgO c];simp![Zj];rw[ZcF fun z=>c z.1] at q
  exact q M1 K1
 rw[ZkJ c];simp![CG.Zbo (K1.get hp)];refine ZaT (K1.get hl) ll bl fun M2 K2=> ?_
 have sm:=hS c
 have K:=K1.trans K2
 by_cases c2:Rnd ls
 case neg=>
  rw[ZcE c2];simp![Zj];rw[ZcF fun z=>c2 (ZiN (ZkL sm z.2.1).1)] at q
  exact q M2 K
 rw[ZcD c2];simp![Zj];refine ZcZ (fun i ρ M'=>Kp M M'/\ ∃ cur x y,ρ=[some (.ref mr),some (.ref mp),some (.ref ml),some (.ref x),y]/\M'[x]?=some (.lst (prs cur))/\Smo cur/\cur.length<=rs.length/\(∀ p∈cur,p∈rs)/\wk cur (ps.drop i)=wk rs ps) (K.get hp) ⟨K,rs,mr,_,rfl,K.get hr,sm,Nat.le_refl _,fun p hp=>hp,rfl⟩ (fun i ρ M' hI=>hI.1.get hp) ?_ ?_
 ·rintro i ρ M3 hi ⟨K3,cur,x,y,rfl,h3,sm3,l3,in3,w3⟩
  rw[ZkM hi] at w3;have nr:Nr 18446744073709551615 cur:=fun p hp=>by have:=br p (in3 p hp);unfold Bd at this;omega
  rcases ha _ (List.getElem_mem hi) with ⟨k,ek⟩ | ⟨b,eb⟩
  ·rw[ek] at w3 ⊢
   simp![ZaI,CR.F_is_whole,CR.ZaS,ZkB]
   by_cases r1:k < 0\/(cur.length:Int)<=k
   ·refine Zfp h3 sm3 nr (by omega) r1 fun M4 K4=> ?_
    simp![ZiB];rw[ZcF fun z=>by
     have e:=z.2.1
     rw[<- w3,ZrK (by omega)] at e
     cases e] at q
    exact ⟨by decide +kernel,q M4 (K3.trans K4)⟩
   ·obtain ⟨kn,rfl⟩: ∃ kn:Nat,k=kn:=⟨k.toNat,by omega⟩
    by_cases r2:T cur kn≠ -1\/cur.length < 4
    ·refine CE.Zfh h3 sm3 nr (by omega) (by omega) r2 ?_
     simp![ZiB];rw[ZcF fun z=>by
      have e:=z.2.1
      rw[<- w3,ZrK (by omega)] at e
      cases e] at q
     exact ⟨by decide +kernel,q _ (K3.trans Kp.app)⟩
    ·refine CE.Zfg h3 sm3 nr (by omega) (by omega) (by omega) (by omega) fun o M4 lo h4 g1 g2=> ?_
     have K4:Kp M3 M4:=⟨g1,g2⟩
     simp![Zj];rw[ZsR (by omega),Int.toNat_natCast] at w3
     refine ⟨K3.trans K4,del cur kn,o,_,rfl,h4,sm3.del (by omega) (by omega) (by omega),Nat.le_trans ZkN l3,fun p hp=>in3 p ?_,w3⟩
     unfold del at hp
     rcases List.mem_append.mp hp with z | z
     ·exact List.mem_of_mem_take z
     ·exact List.mem_of_mem_drop z
  ·rw[eb] at w3 ⊢
   simp![ZaI,CR.F_is_whole,CR.ZaS];rw[ZcF fun z=>by
    have e:=z.2.1
    rw[<- w3,ZsS] at e;cases e] at q
   exact q M3 K3
 rintro ρ M3 ⟨K3,cur,x,y,rfl,h3,sm3,l3,in3,w3⟩
 rw[List.drop_length] at w3;have w4:wk rs ps=some cur:=by rw[<- w3];rfl
 simp![CU.ZjS h3 (K3.get hl),K3.get hl];refine brO (fun z=> ?_) (fun z=> ?_)
 ·simp![K3.get hl]
  subst z;have e:decide ((cur.length:Int)<=4)=wst rs ps cur:=by
   by_cases c3:cur.length<=4
   ·rw[Zpr ⟨c,w4,c3⟩]
    exact decide_eq_true (by omega)
   ·rw[ZcF fun z=>c3 z.2.2]
    exact decide_eq_false (by omega)
  rw[e];exact q M3 K3
 ·simp![Zj]
  rw[ZcF fun y=>z (by have:=y.2.1;rw[w4] at this;exact Option.some.inj this)] at q
  exact q M3 K3
theorem Zmf {ps:List D}{ls:List Pt}{mr mp ml:Nat}(hr:M[mr]?=some (.lst (prs rs)))(hp:M[mp]?=some (.lst ps))(hl:M[ml]?=some (.lst (prs ls)))(ha: ∀ x∈ps,At x)(lr:rs.length<=1000)(ll:ls.length<=1000)(br: ∀ p∈rs,Bd 1000000 p)(bl: ∀ p∈ls,Bd 1000000 p)(hS:Rb true rs->Smo rs)
  (q: ∀ M',Kp M M'->Q (.bl (wst rs ps ls)) M'):wO (F_law_walk_stands [.ref mr,.ref mp,.ref ml] M) Q E:=by
 simp![F_law_walk_stands,Zav];refine Zaf hr lr br ?_
 by_cases c:Rb true rs
 case neg=>
  rw[ZgO c];simp![Zj];rw[ZcF fun z=>c z.1] at q
  exact q M Kp.refl
 rw[ZkJ c];have sm:=hS c
 have lmr:=ZJ hr
 have lmp:=ZJ hp
 simp![CG.Zbo hp,hr];have K:Kp M (M ++ [SO.lst (prs rs)]):=Kp.app
 have h0:(M ++ [SO.lst (prs rs)])[M.length]?=some (.lst (prs rs)):=by simp
 generalize M ++ [SO.lst (prs rs)]=M0 at *;refine ZcZ (fun i ρ M'=>Kp M M'/\ ∃ cur x y,ρ=[some (.ref mr),some (.ref mp),some (.ref ml),some (.ref x),y]/\M'[x]?=some (.lst (prs cur))/\Smo cur/\cur.length<=rs.length/\(∀ p∈cur,p∈rs)/\wk cur (ps.drop i)=wk rs ps) (K.get hp) ⟨K,rs,M.length,_,rfl,h0,sm,Nat.le_refl _,fun p hp=>hp,rfl⟩ (fun i ρ M' hI=>hI.1.get hp) ?_ ?_
 ·rintro i ρ M3 hi ⟨K3,cur,x,y,rfl,h3,sm3,l3,in3,w3⟩
  rw[ZkM hi] at w3;have nr:Nr 18446744073709551615 cur:=fun p hp=>by have:=br p (in3 p hp);unfold Bd at this;omega
  have lx:=ZJ h3
  have sl:=sm3.len
  rcases ha _ (List.getElem_mem hi) with ⟨k,ek⟩ | ⟨b,eb⟩
  ·rw[ek] at w3 ⊢
   have no: ¬ (0<=k/\k < cur.length/\4<=cur.length/\T cur k= -1)-> ∀ M',Kp M M'->Q (.bl false) M':=fun z M' K=>by
    rw[ZcF fun y=>by
     have e:=y.2.1
     rw[<- w3,ZrK z] at e;cases e] at q
    exact q M' K
   simp![Z8,CR.F_law_whole,CR.Za1,h3];refine brO (fun z1=> ?_) (fun z1=> ?_)
   case refine_2=>
    simp![Zj];exact no (by omega) M3 K3
   simp![h3];refine Zr6 (fun z2=> ?_) (fun z2=> ?_)
   ·simp![Zj]
    exact no (by omega) M3 K3
   simp![h3];refine brS (fun z3=> ?_) (fun z3=> ?_)
   ·simp![Zj]
    exact no (by omega) M3 K3
   simp![Zj];refine CC.ZkE h3 (by omega) (by omega) nr ?_
   obtain ⟨kn,rfl⟩: ∃ kn:Nat,k=kn:=⟨k.toNat,by omega⟩
   have tl:=ZaC (rs:=cur)
   have ct:cn (Zbb cur) kn=T cur kn:=by rw[Zf0 (by rw[ZaC];omega)];simp[Zbb]
   simp![ZfZ,tl,ct];refine Zmq (fun z4=> ?_) (fun z4=> ?_)
   ·simp![Zj]
    exact no (fun z=>z4 z.2.2.2) _ (K3.trans Kp.app)
   have e1:((kn:Int) + 1).toNat=kn + 1:=by omega
   simp![h3,e1];refine ⟨by rw[List.length_take,List.length_drop];omega,K3.trans Kp.app,del cur kn,_,_,rfl,?_,sm3.del (by omega) (by omega) z4,Nat.le_trans ZkN l3,fun p hp=>in3 p ?_,?_⟩
   ·rw[ZeE]
    rfl
   ·unfold del at hp
    rcases List.mem_append.mp hp with z | z
    ·exact List.mem_of_mem_take z
    ·exact List.mem_of_mem_drop z
   ·rw[ZsR (by omega),Int.toNat_natCast] at w3
    exact w3
  ·rw[eb] at w3 ⊢
   simp![Z8,CR.F_law_whole,CR.Za1];rw[ZcF fun z=>by
    have e:=z.2.1
    rw[<- w3,ZsS] at e;cases e] at q
   exact q M3 K3
 rintro ρ M3 ⟨K3,cur,x,y,rfl,h3,sm3,l3,in3,w3⟩
 rw[List.drop_length] at w3;have w4:wk rs ps=some cur:=by rw[<- w3];rfl
 simp![h3];refine brO (fun z=> ?_) (fun z=> ?_)
 case refine_2=>
  simp![Zj];rw[ZcF fun y=>z (by have:=y.2.1;rw[w4] at this;cases this;have:=y.2.2;omega)] at q
  exact q M3 K3
 simp![CG.Zbo (K3.get hl),CU.ZjS h3 (K3.get hl)];refine brO (fun z2=> ?_) (fun z2=> ?_)
 ·simp![Zj]
  subst z2;refine Zaf (K3.get hl) ll bl ?_
  rw[ZkJ (Zpp sm3)];rw[Zpr ⟨c,w4,by omega⟩] at q
  exact q M3 K3
 ·simp![Zj]
  rw[ZcF fun y=>z2 (by have:=y.2.1;rw[w4] at this;exact Option.some.inj this)] at q
  exact q M3 K3
theorem Zpt {ps:List D}{mr:Nat}{dl:D}(hr:M[mr]?=some (.lst (prs rs)))(lr:rs.length<=1000)(br: ∀ p∈rs,Bd 1000000 p)(hS:Rb true rs->Smo rs)(q: ∀ M',Kp M M'->Q (.bl false) M'):wO (F_walk_stands [.ref mr,.tup ps,dl] M) Q E:=by
 simp![F_walk_stands,Zbl];refine Zdd hr lr br hS fun M1 K1=> ?_
 by_cases c:Rb true rs
 ·rw[ZkJ c]
  simp![Zj];exact q M1 K1
 ·rw[ZgO c]
  simp![Zj];exact q M1 K1
theorem Zmg {ps:List D}{mr:Nat}{dl:D}(hr:M[mr]?=some (.lst (prs rs)))(lr:rs.length<=1000)(br: ∀ p∈rs,Bd 1000000 p)(q: ∀ M',Kp M M'->Q (.bl false) M'):wO (F_law_walk_stands [.ref mr,.tup ps,dl] M) Q E:=by
 simp![F_law_walk_stands,Zav];refine Zaf hr lr br ?_
 by_cases c:Rb true rs
 ·rw[ZkJ c]
  simp![Zj];exact q M Kp.refl
 ·rw[ZgO c]
  simp![Zj];exact q M Kp.refl
noncomputable def mt (a b c d:Int):D:= .tup [pr a b,pr c d]
noncomputable def Bt (x:Int):Prop:= -1000<=x/\x<=1000
noncomputable def ld (a b c d:Int)(p:Pt):Pt:=(a * p.1 + b * p.2,c * p.1 + d * p.2)
noncomputable def dtB (a b c d:Int):Bool:=decide ((((a * d - b * c).natAbs:Nat):Int)=1)
theorem ZeP {a b c d:Int}(h1:Bt a)(h2:Bt b)(h3:Bt c)(h4:Bt d)(q:Q (.bl (dtB a b c d)) M):wO (F_is_turning [.tup [pr a b,pr c d]] M) Q E:=by
 unfold Bt at *;simp![F_is_turning,ZbC,CG.F_is_pair,CG.Zb5,CR.F_is_whole,CR.ZaS,F_spanned,ZeN];rw[CC.Zbz (by omega) (by omega)]
 simp![Zj];exact q
theorem ZjY {a b c d:Int}{p:Pt}(h1:Bt a)(h2:Bt b)(h3:Bt c)(h4:Bt d)(hp:Bd 1000000 p):wO (F_turned [.tup [pr a b,pr c d],pr p.1 p.2] M) Q E=Q (pr (ld a b c d p).1 (ld a b c d p).2) M:=by
 unfold Bt Bd at *;simp![F_turned,Zf9,ld]
theorem Zmh {a b c d:Int}{p:Pt}(h1:Bt a)(h2:Bt b)(h3:Bt c)(h4:Bt d)(hp:Bd 1000000 p):wO (F_law_led [.tup [pr a b,pr c d],pr p.1 p.2] M) Q E=Q (pr (ld a b c d p).1 (ld a b c d p).2) M:=by
 unfold Bt Bd at *;simp![F_law_led,ZeO,ld]
noncomputable def tst (one other:List Pt)(a b c d:Int):Bool:=rnd one && (rnd other && (dtB a b c d && decide (CP.sp (one.map (ld a b c d))=CP.sp other)))
theorem ZiO {one other:List Pt}{a b c d:Int}{m1 m2:Nat}(h1:M[m1]?=some (.lst (prs one)))(h2:M[m2]?=some (.lst (prs other)))(l1:one.length < 64)(l2:other.length < 64)(b1: ∀ p∈one,Bd 1000000 p)(b2: ∀ p∈other,Bd 1000000 p)(t1:Bt a)(t2:Bt b)(t3:Bt c)(t4:Bt d)
  (q: ∀ M',Kp M M'->Q (.bl (tst one other a b c d)) M'):wO (F_turning_stands [.ref m1,.ref m2,.tup [pr a b,pr c d]] M) Q E:=by
 simp![F_turning_stands,ZaJ];refine ZaT h1 (by omega) b1 fun M1 K1=> ?_
 by_cases c1:Rnd one
 case neg=>
  have e:tst one other a b c d=false:=by unfold tst;rw[ZcE c1];rfl
  rw[ZcE c1];simp![Zj];rw[e] at q;exact q M1 K1
 rw[ZcD c1];simp![Zj];refine ZaT (K1.get h2) (by omega) b2 fun M2 K2=> ?_
 by_cases c2:Rnd other
 case neg=>
  have e:tst one other a b c d=false:=by unfold tst;rw[ZcE c2];simp
  rw[ZcE c2];simp![Zj];rw[e] at q;exact q M2 (K1.trans K2)
 rw[ZcD c2];simp![Zj];refine ZeP t1 t2 t3 t4 ?_
 have ne:one≠[]:=by intro z;have:=c1.1;rw[z] at this;simp at this
 have K0:=K1.trans K2
 have R1:=K0.get h1
 have R2:=K0.get h2
 generalize M2=M0 at *;cases c3:dtB a b c d with
 |false=>
  simp![Zj];have e:tst one other a b c d=false:=by unfold tst;rw[c3];simp
  rw[e] at q;exact q M0 K0
 |true=>
  simp![Zj];refine Zms (fun ρ=> ∃ x,ρ=[x,some (.tup [pr a b,pr c d])]) (fun (i:Nat)=>pr (ld a b c d (cy one i)).1 (ld a b c d (cy one i)).2) R1 (by rw[ZB];omega) ⟨_,rfl⟩ ?_ ?_
  ·rintro i hi ρ L ⟨x,rfl⟩
   rw[ZB] at hi;rw[CC.Z7];simp![ZjY t1 t2 t3 t4 (b1 _ (ZaN (i:=(i:Int)) ne))];exact ⟨_,rfl⟩
  rw[ZB];have e:(List.range one.length).map (fun (i:Nat)=>pr (ld a b c d (cy one i)).1 (ld a b c d (cy one i)).2)=prs (one.map (ld a b c d)):=by
   conv=>rhs;rw[<- Zda (us:=one)]
   unfold prs;rw[List.map_map,List.map_map];rfl
  rw[e];have K3:Kp M0 (M0 ++ [.lst (prs (one.map (ld a b c d)))]):=Kp.app
  have r1:(M0 ++ [SO.lst (prs (one.map (ld a b c d)))])[M0.length]?=some (.lst (prs (one.map (ld a b c d)))):=by simp
  have r2:=K3.get R2
  generalize M0 ++ [SO.lst (prs (one.map (ld a b c d)))]=M3 at *;have q1:=CP.ZjU r1 (by rw[List.length_map];omega)
  simp![q1];have K4:Kp M3 (M3 ++ [.lst (prs (CP.sp (one.map (ld a b c d))))]):=Kp.app
  have r3:(M3 ++ [SO.lst (prs (CP.sp (one.map (ld a b c d))))])[M3.length]?=some (.lst (prs (CP.sp (one.map (ld a b c d))))):=by simp
  have r4:=K4.get r2
  generalize M3 ++ [SO.lst (prs (CP.sp (one.map (ld a b c d))))]=M4 at *;have q2:=CP.ZjU r4 (by omega)
  simp![q2];have K5:Kp M4 (M4 ++ [.lst (prs (CP.sp other))]):=Kp.app
  have r5:(M4 ++ [SO.lst (prs (CP.sp other))])[M4.length]?=some (.lst (prs (CP.sp other))):=by simp
  have r6:=K5.get r3
  generalize M4 ++ [SO.lst (prs (CP.sp other))]=M5 at *;have e8:eqF 12 M5 (.ref M3.length) (.ref M4.length)=some (decide (CP.sp (one.map (ld a b c d))=CP.sp other)):=CU.ZjS (k:=9) r6 r5
  simp![e8];have ef:decide (CP.sp (one.map (ld a b c d))=CP.sp other)=tst one other a b c d:=by
   unfold tst;rw[ZcD c1,ZcD c2,c3];rfl
  rw[ef];exact q _ (((K0.trans K3).trans K4).trans K5)
theorem ZgL {one other:List Pt}{a b c d:Int}{m1 m2:Nat}(h1:M[m1]?=some (.lst (prs one)))(h2:M[m2]?=some (.lst (prs other)))(l1:one.length < 64)(l2:other.length < 64)(b1: ∀ p∈one,Bd 1000000 p)(b2: ∀ p∈other,Bd 1000000 p)(t1:Bt a)(t2:Bt b)(t3:Bt c)(t4:Bt d)
  (q: ∀ M',Kp M M'->Q (.bl (tst one other a b c d)) M'):wO (F_law_turning_stands [.ref m1,.ref m2,.tup [pr a b,pr c d]] M) Q E:=by
 have rbr: ∀ {rs:List Pt},rb false rs=rnd rs:=fun {rs}=>by
  by_cases z:Rnd rs
  ·rw[ZkJ (b:=false) ⟨z,fun w=>nomatch w⟩,ZcD z]
  ·rw[ZgO fun w=>z w.1,ZcE z]
 simp![F_law_turning_stands,Z9];refine Zaf h1 (by omega) b1 ?_
 rw[rbr]
 by_cases c1:Rnd one
 case neg=>
  have e:tst one other a b c d=false:=by unfold tst;rw[ZcE c1];rfl
  rw[ZcE c1];simp![Zj];rw[e] at q;exact q M Kp.refl
 rw[ZcD c1];simp![Zj];refine Zaf h2 (by omega) b2 ?_
 rw[rbr]
 by_cases c2:Rnd other
 case neg=>
  have e:tst one other a b c d=false:=by unfold tst;rw[ZcE c2];simp
  rw[ZcE c2];simp![Zj];rw[e] at q;exact q M Kp.refl
 rw[ZcD c2];have cw: ∀ {Q:D->Sto->Prop} {E:Str->Sto->Prop},wO (CC.F_law_cross [pr a b,pr c d] M) Q E=Q (.int (a * d - b * c)) M:=CC.ZbA (by unfold Bt at *;omega) (by unfold Bt at *;omega)
 have lp: ∀ {x y:Int} {Q:D->Sto->Prop} {E:Str->Sto->Prop},wO (F_law_is_pair [pr x y] M) Q E=Q (.bl true) M:=fun {x y Q E}=>ZiM (u:=(x,y))
 simp![lp,cw];have ne:one≠[]:=by intro z;have:=c1.1;rw[z] at this;simp at this
 refine Zmq (fun z=> ?_) (fun z=> ?_)
 ·simp![Zj]
  have e:tst one other a b c d=false:=by unfold tst dtB;rw[decide_eq_false z];simp
  rw[e] at q;exact q M Kp.refl
 ·have c3:dtB a b c d=true:=decide_eq_true z
  have K0:Kp M M:=Kp.refl
  have R1:=h1
  have R2:=h2
  simp![Zj];refine Zms (fun ρ=> ∃ x,ρ=[x,some (.tup [pr a b,pr c d])]) (fun (i:Nat)=>pr (ld a b c d (cy one i)).1 (ld a b c d (cy one i)).2) R1 (by rw[ZB];omega) ⟨_,rfl⟩ ?_ ?_
  ·rintro i hi ρ L ⟨x,rfl⟩
   rw[ZB] at hi;rw[CC.Z7];simp![Zmh t1 t2 t3 t4 (b1 _ (ZaN (i:=(i:Int)) ne))];exact ⟨_,rfl⟩
  rw[ZB];have e:(List.range one.length).map (fun (i:Nat)=>pr (ld a b c d (cy one i)).1 (ld a b c d (cy one i)).2)=prs (one.map (ld a b c d)):=by
   conv=>rhs;rw[<- Zda (us:=one)]
   unfold prs;rw[List.map_map,List.map_map];rfl
  rw[e];have K3:Kp M (M ++ [.lst (prs (one.map (ld a b c d)))]):=Kp.app
  have r1:(M ++ [SO.lst (prs (one.map (ld a b c d)))])[M.length]?=some (.lst (prs (one.map (ld a b c d)))):=by simp
  have r2:=K3.get R2
  generalize M ++ [SO.lst (prs (one.map (ld a b c d)))]=M3 at *;have q1:=CP.ZjU r1 (by rw[List.length_map];omega)
  simp![q1];have K4:Kp M3 (M3 ++ [.lst (prs (CP.sp (one.map (ld a b c d))))]):=Kp.app
  have r3:(M3 ++ [SO.lst (prs (CP.sp (one.map (ld a b c d))))])[M3.length]?=some (.lst (prs (CP.sp (one.map (ld a b c d))))):=by simp
  have r4:=K4.get r2
  generalize M3 ++ [SO.lst (prs (CP.sp (one.map (ld a b c d))))]=M4 at *;have q2:=CP.ZjU r4 (by omega)
  simp![q2];have K5:Kp M4 (M4 ++ [.lst (prs (CP.sp other))]):=Kp.app
  have r5:(M4 ++ [SO.lst (prs (CP.sp other))])[M4.length]?=some (.lst (prs (CP.sp other))):=by simp
  have r6:=K5.get r3
  generalize M4 ++ [SO.lst (prs (CP.sp other))]=M5 at *;have e8:eqF 12 M5 (.ref M3.length) (.ref M4.length)=some (decide (CP.sp (one.map (ld a b c d))=CP.sp other)):=CU.ZjS (k:=9) r6 r5
  simp![e8];have ef:decide (CP.sp (one.map (ld a b c d))=CP.sp other)=tst one other a b c d:=by
   unfold tst;rw[ZcD c1,ZcD c2,c3];rfl
  rw[ef];exact q _ (((K0.trans K3).trans K4).trans K5)
theorem ZiP {one other:List Pt}{xs:List D}{m1 m2 m3:Nat}(h1:M[m1]?=some (.lst (prs one)))(h2:M[m2]?=some (.lst (prs other)))(h3:M[m3]?=some (.lst xs))(l1:one.length < 64)(l2:other.length < 64)(b1: ∀ p∈one,Bd 1000000 p)(b2: ∀ p∈other,Bd 1000000 p)
  (q: ∀ M',Kp M M'->Q (.bl false) M'):wO (F_turning_stands [.ref m1,.ref m2,.ref m3] M) Q E:=by
 simp![F_turning_stands,ZaJ];refine ZaT h1 (by omega) b1 fun M1 K1=> ?_
 cases rnd one with
 |false=>
  simp![Zj];exact q M1 K1
 |true=>
  simp![Zj];refine ZaT (K1.get h2) (by omega) b2 fun M2 K2=> ?_
  have K0:=K1.trans K2
  cases rnd other with
  |false=>
   simp![Zj];exact q M2 K0
  |true=>
   simp![F_is_turning,ZbC,CG.Zbo (K0.get h3)];exact q M2 K0
theorem ZgM {one other:List Pt}{xs:List D}{m1 m2 m3:Nat}(h1:M[m1]?=some (.lst (prs one)))(h2:M[m2]?=some (.lst (prs other)))(h3:M[m3]?=some (.lst xs))(l1:one.length < 64)(l2:other.length < 64)(b1: ∀ p∈one,Bd 1000000 p)(b2: ∀ p∈other,Bd 1000000 p)
  (q: ∀ M',Kp M M'->Q (.bl false) M'):wO (F_law_turning_stands [.ref m1,.ref m2,.ref m3] M) Q E:=by
 simp![F_law_turning_stands,Z9];refine Zaf h1 (by omega) b1 ?_
 cases rb false one with
 |false=>
  simp![Zj];exact q M Kp.refl
 |true=>
  simp![Zj];refine Zaf h2 (by omega) b2 ?_
  cases rb false other with
  |false=>
   simp![Zj];exact q M Kp.refl
  |true=>
   simp![CG.Zbo h3];exact q M Kp.refl
noncomputable def trP (rs:List Pt):List PyData:=rs.map fun p=> .tuple [.int p.1,.int p.2]
noncomputable def trA (x:D):PyData:=match x with | .int i=> .int i | .bl b=> .bool b | _=> .none
theorem ZsT {x y:Int}{k:Nat}:tre M (k + 2) (pr x y)=some (.tuple [.int x,.int y]):=rfl
theorem ZjZ {k:Nat}:ZaH (tre M (k + 2)) (prs rs)=some (trP rs):=by
 refine ZR.mpr ⟨by simp[prs,trP],fun i h h'=> ?_⟩
 simp only[prs,trP,List.getElem_map];rfl
theorem Zde {k:Nat}(h:M[m]?=some (.lst (prs rs))):tre M (k + 3) (.ref m)=some (.list (trP rs)):=Zcl h ZjZ
theorem ZiQ {k:Nat}{x y:Int}(e:tre M k d=some (.tuple [.int x,.int y])):d=pr x y:=by
 obtain ⟨l,xs,rfl,rfl,h⟩:=Zcj e
 obtain ⟨l1,g⟩:=ZR.mp h
 match xs,l1,g with
 | [a,b],_,g=>
  have e1:=Zdb (g 0 (by simp) (by simp))
  have e2:=Zdb (g 1 (by simp) (by simp))
  simp only[List.getElem_cons_zero,List.getElem_cons_succ] at e1 e2;rw[e1,e2]
theorem Zdf {k:Nat}(e:tre M k d=some (.list (trP rs))): ∃ n,d= .ref n/\M[n]?=some (.lst (prs rs)):=by
 obtain ⟨l,n,xs,rfl,rfl,hm,h⟩:=ZdY e
 refine ⟨n,rfl,?_⟩
 rw[hm];obtain ⟨l1,g⟩:=ZR.mp h
 have:xs=prs rs:=by
  apply List.ext_getElem
  ·simp[l1,prs,trP]
  ·intro i h1 h2
   have:=g i h1 (by rw[<- l1];exact h1)
   simp only[trP,List.getElem_map] at this;rw[ZiQ this]
   simp[prs]
 rw[this]
theorem Zpu {k:Nat}{x:D}(a:At x)(e:tre M k d=some (trA x)):d=x:=by
 rcases a with ⟨i,rfl⟩ | ⟨b,rfl⟩
 ·exact Zdb e
 ·exact ZdX e
theorem Zga {k:Nat}{ps:List D}(ha: ∀ x∈ps,At x):ZaH (tre M (k + 1)) ps=some (ps.map trA):=by
 refine ZR.mpr ⟨by simp,fun i h h'=> ?_⟩
 rw[List.getElem_map]
 rcases ha _ (List.getElem_mem h) with ⟨x,e⟩ | ⟨b,e⟩<;>rw[e]<;>rfl
theorem ZiR {k:Nat}{xs ps:List D}(ha: ∀ x∈ps,At x)(e:ZaH (tre M k) xs=some (ps.map trA)):xs=ps:=by
 obtain ⟨l1,g⟩:=ZR.mp e
 rw[List.length_map] at l1
 apply List.ext_getElem l1
 intro i h1 h2
 have:=g i h1 (by rw[List.length_map];exact h2)
 rw[List.getElem_map] at this;exact Zpu (ha _ (List.getElem_mem h2)) this
theorem Zgb {k:Nat}{w:Str}{t1 t2 t3:PyData}(e:tre M (k + 1) d=some (.tuple [.str w,t1,t2,t3])): ∃ x1 x2 x3,d= .tup [.str w,x1,x2,x3]/\tre M k x1=some t1/\tre M k x2=some t2/\tre M k x3=some t3:=by
 obtain ⟨l,xs,e0,rfl,h⟩:=Zcj e
 cases e0
 obtain ⟨l1,g⟩:=ZR.mp h
 match xs,l1,g with
 | [a,b,c,f],_,g=>
  have e0:=Zfl (g 0 (by simp) (by simp))
  have e1:=g 1 (by simp) (by simp)
  have e2:=g 2 (by simp) (by simp)
  have e3:=g 3 (by simp) (by simp)
  simp only[List.getElem_cons_zero,List.getElem_cons_succ] at e0 e1 e2 e3;exact ⟨b,c,f,by rw[e0],e1,e2,e3⟩
theorem ZiS {k:Nat}{w:Str}{t1 t2 t3:PyData}{x1 x2 x3:D}(h1:tre M (k + 1) x1=some t1)(h2:tre M (k + 1) x2=some t2)(h3:tre M (k + 1) x3=some t3):tre M (k + 2) (.tup [.str w,x1,x2,x3])=some (.tuple [.str w,t1,t2,t3]):=by
 refine Zck ?_
 rw[ZaH,ZaH,ZaH,ZaH,ZaH,h1,h2,h3];rfl
theorem ZkO {x:Bool}{t:PyData}(h:tre M 4 d=some t)(sh:shT 4 t)(st: ∀ d' M',Kp M M'->tre M' 4 d'=some t-> ∀ {Q:D->Sto->Prop} {E:Str->Sto->Prop},(∀ M'',Kp M' M''->Q (.bl x) M'')->wO (F_stands [d'] M') Q E)
  (q: ∀ M',Kp M M'->Q (.bl true) M'):wO (F_law_told [d,.bl x] M) Q E:=by
 simp![F_law_told,Zdt];rw[ZrJ];refine ZaV (ZkI 4 (P:=fun _=>false) (fun i z=>by cases z) (by rw[Zpf];exact h) sh) (fun d' M1 hd=> ?_) (fun _ _ z=>z.elim)
 obtain ⟨K1,e1⟩:=hd
 rw[Zpf] at e1;simp![Zj];refine ZcY (fun i ρ M'=>Kp M1 M'/\ ∃ x3 x4,ρ=[some d,some (.bl x),some d',x3,x4]) ⟨Kp.refl,_,_,rfl⟩ ?_ ?_
 ·rintro i ρ M2 hi ⟨K2,x3,x4,rfl⟩
  simp![Zb8];refine st d' M2 (K1.trans K2) (ZiK K2 e1) fun M3 K3=> ?_
  have K4:=K2.trans K3
  have eq1:eqF 12 M3 d' d=some true:=ZiL (k:=4) 8 (ZiK K4 e1) (ZiK (K1.trans K4) h)
  have eq2:eqF 12 M3 (.bl x) (.bl x)=some true:=by
   show some (x == x)=some true
   simp
  simp![eq1,eq2];exact ⟨K4,_,_,rfl⟩
 ·rintro ρ M2 ⟨K2,x3,x4,rfl⟩
  simp![Zj];exact q M2 (K1.trans K2)
noncomputable def Bds (b:Int)(rs:List Pt):Prop:= ∀ p∈rs,Bd b p
theorem Zfq {x1 x2 x3:D}(q:wO (F_walk_stands [x1,x2,x3] M) Q E):wO (F_stands [.tup [.str (PySem.Str.ofString "walk"),x1,x2,x3]] M) Q E:=by
 have s5:slR (.tup [.str (PySem.Str.ofString "walk"),x1,x2,x3]) (some 1) none M= .ok (.tup [x1,x2,x3]) M:=rfl
 simp![F_stands,Zd0,s5,Zo7,beq_self_eq_true];exact q
theorem Zdi {x1 x2 x3:D}(q:wO (F_turning_stands [x1,x2,x3] M) Q E):wO (F_stands [.tup [.str (PySem.Str.ofString "turning"),x1,x2,x3]] M) Q E:=by
 have s5:slR (.tup [.str (PySem.Str.ofString "turning"),x1,x2,x3]) (some 1) none M= .ok (.tup [x1,x2,x3]) M:=rfl
 have w1:(PySem.Str.ofString "turning" == PySem.Str.ofString "walk")=false:=by decide +kernel
 simp![F_stands,Zd0,s5,Zo7,w1,beq_self_eq_true];exact q
theorem ZeQ {k:Nat}(h:rs.length<=1000):shT (k + 2) (.list (trP rs)):=by
 refine ⟨by simp[trP];exact h,fun t ht=> ?_⟩
 obtain ⟨p,-,rfl⟩:=List.mem_map.mp ht
 refine ⟨by simp,fun t ht=> ?_⟩
 simp at ht
 rcases ht with rfl | rfl<;>cases k<;>trivial
theorem ZrL {k:Nat}{x:D}(h:At x):shT k (trA x):=by
 rcases h with ⟨i,rfl⟩ | ⟨b,rfl⟩<;>cases k<;>trivial
structure WP (M:Sto) (x1 x2 x3:D) (rs:List Pt) (ps:List D) (ls:List Pt) (tp:Bool):Prop where
 one: ∃ n,x1= .ref n/\M[n]?=some (.lst (prs rs))
 two:if tp then x2= .tup ps else ∃ n,x2= .ref n/\M[n]?=some (.lst ps)
 thr: ∃ n,x3= .ref n/\M[n]?=some (.lst (prs ls))
structure WO (rs:List Pt) (ps:List D) (ls:List Pt):Prop where
 l1:rs.length<=1000
 l2:ps.length<=1000
 l3:ls.length<=1000
 b1:Bds 1000000 rs
 b3:Bds 1000000 ls
 at': ∀ x∈ps,At x
 sm:Rb true rs->Smo rs
theorem WP.up {x1 x2 x3:D}{ps:List D}{ls:List Pt}{tp:Bool}(h:WP M x1 x2 x3 rs ps ls tp)(K:Kp M M'):WP M' x1 x2 x3 rs ps ls tp:=by
 refine ⟨?_,?_,?_⟩
 ·obtain ⟨n,e,g⟩:=h.one
  exact ⟨n,e,K.get g⟩
 ·have:=h.two
  cases tp with
  |true=>exact this
  |false=>
   obtain ⟨n,e,g⟩:=this
   exact ⟨n,e,K.get g⟩
 ·obtain ⟨n,e,g⟩:=h.thr
  exact ⟨n,e,K.get g⟩
noncomputable def wx (rs:List Pt)(ps:List D)(ls:List Pt)(tp:Bool):Bool:=if tp then false else wst rs ps ls
theorem WP.prog {x1 x2 x3:D}{ps:List D}{ls:List Pt}{tp:Bool}(h:WP M x1 x2 x3 rs ps ls tp)(o:WO rs ps ls)(q: ∀ M',Kp M M'->Q (.bl (wx rs ps ls tp)) M'):wO (F_walk_stands [x1,x2,x3] M) Q E:=by
 obtain ⟨n1,rfl,g1⟩:=h.one
 obtain ⟨n3,rfl,g3⟩:=h.thr
 have t:=h.two
 cases tp with
 |true=>
  have e:x2= .tup ps:=t
  subst e;exact Zpt g1 o.l1 o.b1 o.sm q
 |false=>
  obtain ⟨n2,rfl,g2⟩:=t
  exact Zps g1 g2 g3 o.at' o.l1 o.l3 o.b1 o.b3 o.sm q
theorem WP.law {x1 x2 x3:D}{ps:List D}{ls:List Pt}{tp:Bool}(h:WP M x1 x2 x3 rs ps ls tp)(o:WO rs ps ls)(q: ∀ M',Kp M M'->Q (.bl (wx rs ps ls tp)) M'):wO (F_law_walk_stands [x1,x2,x3] M) Q E:=by
 obtain ⟨n1,rfl,g1⟩:=h.one
 obtain ⟨n3,rfl,g3⟩:=h.thr
 have t:=h.two
 cases tp with
 |true=>
  have e:x2= .tup ps:=t
  subst e;exact Zmg g1 o.l1 o.b1 q
 |false=>
  obtain ⟨n2,rfl,g2⟩:=t
  exact Zmf g1 g2 g3 o.at' o.l1 o.l3 o.b1 o.b3 o.sm q
noncomputable def trW (ps:List D)(tp:Bool):PyData:=if tp then .tuple (ps.map trA) else .list (ps.map trA)
theorem WP.tre {x1 x2 x3:D}{ps:List D}{ls:List Pt}{tp:Bool}(h:WP M x1 x2 x3 rs ps ls tp)(o:WO rs ps ls){w:Str}:tre M 4 (.tup [.str w,x1,x2,x3])=some (.tuple [.str w,.list (trP rs),trW ps tp,.list (trP ls)]):=by
 obtain ⟨n1,rfl,g1⟩:=h.one
 obtain ⟨n3,rfl,g3⟩:=h.thr
 have t:=h.two
 refine ZiS (k:=2) (Zde g1) ?_ (Zde g3)
 cases tp with
 |true=>
  have e:x2= .tup ps:=t
  subst e;exact Zck (Zga o.at')
 |false=>
  obtain ⟨n2,rfl,g2⟩:=t
  exact Zcl g2 (Zga o.at')
theorem WP.inv {ps:List D}{ls:List Pt}{tp:Bool}(o:WO rs ps ls){w:Str}(e:DL.tre M 4 d=some (.tuple [.str w,.list (trP rs),trW ps tp,.list (trP ls)])): ∃ x1 x2 x3,d= .tup [.str w,x1,x2,x3]/\WP M x1 x2 x3 rs ps ls tp:=by
 obtain ⟨x1,x2,x3,rfl,e1,e2,e3⟩:=Zgb e
 refine ⟨x1,x2,x3,rfl,Zdf e1,?_,Zdf e3⟩
 cases tp with
 |true=>
  obtain ⟨l,xs,e0,rfl,h⟩:=Zcj (ts:=ps.map trA) e2
  show D.tup xs=D.tup ps
  rw[ZiR o.at' h]
 |false=>
  obtain ⟨l,n,xs,e0,rfl,hm,h⟩:=ZdY (ts:=ps.map trA) e2
  rw[ZiR o.at' h] at hm;exact ⟨n,rfl,hm⟩
theorem WP.sh {ps:List D}{ls:List Pt}{tp:Bool}(o:WO rs ps ls){w:Str}:shT 4 (.tuple [.str w,.list (trP rs),trW ps tp,.list (trP ls)]):=by
 refine ⟨by simp,fun t ht=> ?_⟩
 simp at ht
 rcases ht with rfl | rfl | rfl | rfl
 ·trivial
 ·exact ZeQ o.l1
 ·have a: ∀ t∈ps.map trA,shT 2 t:=fun t ht=>by
   obtain ⟨x,hx,rfl⟩:=List.mem_map.mp ht
   exact ZrL (o.at' x hx)
  cases tp with
  |true=>exact ⟨by rw[List.length_map];exact o.l2,a⟩
  |false=>exact ⟨by rw[List.length_map];exact o.l2,a⟩
 ·exact ZeQ o.l3
theorem WP.told {x1 x2 x3:D}{ps:List D}{ls:List Pt}{tp:Bool}(h:WP M x1 x2 x3 rs ps ls tp)(o:WO rs ps ls)(q: ∀ M',Kp M M'->Q (.bl true) M'):wO (F_law_told [.tup [.str (PySem.Str.ofString "walk"),x1,x2,x3],.bl (wx rs ps ls tp)] M) Q E:=by
 refine ZkO (h.tre o) (WP.sh o) (fun d' M' K e Q E k=> ?_) q
 obtain ⟨y1,y2,y3,rfl,h'⟩:=WP.inv o e
 exact Zfq (h'.prog o k)
structure TP (M:Sto) (x1 x2 x3:D) (rs ss:List Pt) (a b c d:Int) (tl:Bool):Prop where
 one: ∃ n,x1= .ref n/\M[n]?=some (.lst (prs rs))
 two: ∃ n,x2= .ref n/\M[n]?=some (.lst (prs ss))
 thr:if tl then ∃ n,x3= .ref n/\M[n]?=some (.lst (prs [(a,b),(c,d)])) else x3= .tup [pr a b,pr c d]
structure TO (rs ss:List Pt) (a b c d:Int):Prop where
 l1:rs.length < 64
 l2:ss.length < 64
 b1:Bds 1000000 rs
 b2:Bds 1000000 ss
 ta:Bt a
 tb:Bt b
 tc:Bt c
 td:Bt d
theorem TP.up {x1 x2 x3:D}{a b c d:Int}{tl:Bool}(h:TP M x1 x2 x3 rs ss a b c d tl)(K:Kp M M'):TP M' x1 x2 x3 rs ss a b c d tl:=by
 refine ⟨?_,?_,?_⟩
 ·obtain ⟨n,e,g⟩:=h.one
  exact ⟨n,e,K.get g⟩
 ·obtain ⟨n,e,g⟩:=h.two
  exact ⟨n,e,K.get g⟩
 ·have:=h.thr
  cases tl with
  |false=>exact this
  |true=>
   obtain ⟨n,e,g⟩:=this
   exact ⟨n,e,K.get g⟩
noncomputable def tx (rs ss:List Pt)(a b c d:Int)(tl:Bool):Bool:=if tl then false else tst rs ss a b c d
theorem TP.prog {x1 x2 x3:D}{a b c d:Int}{tl:Bool}(h:TP M x1 x2 x3 rs ss a b c d tl)(o:TO rs ss a b c d)(q: ∀ M',Kp M M'->Q (.bl (tx rs ss a b c d tl)) M'):wO (F_turning_stands [x1,x2,x3] M) Q E:=by
 obtain ⟨n1,rfl,g1⟩:=h.one
 obtain ⟨n2,rfl,g2⟩:=h.two
 have t:=h.thr
 cases tl with
 |true=>
  obtain ⟨n3,rfl,g3⟩:=t
  exact ZiP g1 g2 g3 o.l1 o.l2 o.b1 o.b2 q
 |false=>
  have e:x3= .tup [pr a b,pr c d]:=t
  subst e;exact ZiO g1 g2 o.l1 o.l2 o.b1 o.b2 o.ta o.tb o.tc o.td q
theorem TP.law {x1 x2 x3:D}{a b c d:Int}{tl:Bool}(h:TP M x1 x2 x3 rs ss a b c d tl)(o:TO rs ss a b c d)(q: ∀ M',Kp M M'->Q (.bl (tx rs ss a b c d tl)) M'):wO (F_law_turning_stands [x1,x2,x3] M) Q E:=by
 obtain ⟨n1,rfl,g1⟩:=h.one
 obtain ⟨n2,rfl,g2⟩:=h.two
 have t:=h.thr
 cases tl with
 |true=>
  obtain ⟨n3,rfl,g3⟩:=t
  exact ZgM g1 g2 g3 o.l1 o.l2 o.b1 o.b2 q
 |false=>
  have e:x3= .tup [pr a b,pr c d]:=t
  subst e;exact ZgL g1 g2 o.l1 o.l2 o.b1 o.b2 o.ta o.tb o.tc o.td q
noncomputable def trT (a b c d:Int)(tl:Bool):PyData:=if tl then .list (trP [(a,b),(c,d)]) else .tuple (trP [(a,b),(c,d)])
theorem TP.tre {x1 x2 x3:D}{a b c d:Int}{tl:Bool}(h:TP M x1 x2 x3 rs ss a b c d tl){w:Str}:tre M 4 (.tup [.str w,x1,x2,x3])=some (.tuple [.str w,.list (trP rs),.list (trP ss),trT a b c d tl]):=by
 obtain ⟨n1,rfl,g1⟩:=h.one
 obtain ⟨n2,rfl,g2⟩:=h.two
 have t:=h.thr
 refine ZiS (k:=2) (Zde g1) (Zde g2) ?_
 cases tl with
 |true=>
  obtain ⟨n3,rfl,g3⟩:=t
  exact Zde g3
 |false=>
  have e:x3= .tup [pr a b,pr c d]:=t
  subst e;rfl
theorem TP.inv {a b c d':Int}{tl:Bool}{w:Str}(e:DL.tre M 4 d=some (.tuple [.str w,.list (trP rs),.list (trP ss),trT a b c d' tl])): ∃ x1 x2 x3,d= .tup [.str w,x1,x2,x3]/\TP M x1 x2 x3 rs ss a b c d' tl:=by
 obtain ⟨x1,x2,x3,rfl,e1,e2,e3⟩:=Zgb e
 refine ⟨x1,x2,x3,rfl,Zdf e1,Zdf e2,?_⟩
 cases tl with
 |true=>exact Zdf e3
 |false=>
  obtain ⟨l,xs,e0,rfl,h⟩:=Zcj (ts:=trP [(a,b),(c,d')]) e3
  obtain ⟨l1,g⟩:=ZR.mp h
  match xs,l1,g with
  | [y,z],_,g=>
   have e1:=g 0 (by simp) (by simp[trP])
   have e2:=g 1 (by simp) (by simp[trP])
   simp only[List.getElem_cons_zero,List.getElem_cons_succ,trP,List.map_cons,List.map_nil] at e1 e2;show D.tup [y,z]=D.tup [pr a b,pr c d']
   rw[ZiQ e1,ZiQ e2]
theorem TP.sh {a b c d:Int}{tl:Bool}{w:Str}(o:TO rs ss a b c d):shT 4 (.tuple [.str w,.list (trP rs),.list (trP ss),trT a b c d tl]):=by
 have:=o.l1
 have:=o.l2
 refine ⟨by simp,fun t ht=> ?_⟩
 simp at ht
 rcases ht with rfl | rfl | rfl | rfl
 ·trivial
 ·exact ZeQ (by omega)
 ·exact ZeQ (by omega)
 ·have z:=ZeQ (k:=1) (rs:=[(a,b),(c,d)]) (by simp)
  cases tl with
  |true=>exact z
  |false=>exact ⟨z.1,z.2⟩
theorem TP.told {x1 x2 x3:D}{a b c d:Int}{tl:Bool}(h:TP M x1 x2 x3 rs ss a b c d tl)(o:TO rs ss a b c d)(q: ∀ M',Kp M M'->Q (.bl true) M'):wO (F_law_told [.tup [.str (PySem.Str.ofString "turning"),x1,x2,x3],.bl (tx rs ss a b c d tl)] M) Q E:=by
 refine ZkO h.tre (TP.sh o) (fun d' M' K e Q E k=> ?_) q
 obtain ⟨y1,y2,y3,rfl,h'⟩:=TP.inv e
 exact Zdi (h'.prog o k)
theorem Zcx {L:List Pt}{k:Nat}{b:Int}(h:Bds b L):Bds b (L.drop k):=fun p hp=>h p (List.mem_of_mem_drop hp)
theorem Zdu {L:List Pt}{k:Nat}{b:Int}(h:Bds b L):Bds b (L.take k):=fun p hp=>h p (List.mem_of_mem_take hp)
theorem Zfr {L K:List Pt}{b:Int}(h:Bds b L)(g:Bds b K):Bds b (L ++ K):=fun p hp=>by
 rcases List.mem_append.mp hp with hp | hp
 ·exact h p hp
 ·exact g p hp
theorem Zpv {z:Int}{mr:Nat}(h:M[mr]?=some (.lst (prs rs)))(h3:3<=rs.length/\rs.length<=50)(hb:Bds 1000000 rs)(hz:0<=z)
  (q: ∀ mp ml ps ls M',Kp M M'->M'[mp]?=some (.lst (nts ps))->M'[ml]?=some (.lst (prs ls))->ps.length<=50->ls.length<=50->Bds 1000000 ls->Q (.tup [.ref mp,.ref ml]) M'):wO (F_law_walk [.ref mr,.int z] M) Q E:=by
 have lm:=ZJ h
 simp![F_law_walk,Zdr,h];generalize hL:(3:Int) + _=least;have l3:3<=least:=by
  rw[<- hL]
  split<;>omega
 refine ⟨by omega,?_⟩
 rw[Int.toNat_natCast];have K0:Kp M (M ++ [SO.lst [],SO.lst (prs rs)]):=Kp.app
 have t0:(M ++ [SO.lst [],SO.lst (prs rs)])[M.length]?=some (.lst (nts [])):=by rw[Zgy];rfl
 have t1:(M ++ [SO.lst [],SO.lst (prs rs)])[M.length + 1]?=some (.lst (prs rs)):=by rw[ZeE];rfl
 generalize M ++ [SO.lst [],SO.lst (prs rs)]=M0 at *;refine ZcY (fun i ρ M'=>Kp M M'/\ ∃ z' ps hs o x5 x6 x7,ρ=[some (.ref mr),some (.int z'),some (.ref M.length),some (.ref o),some (.int least),x5,x6,x7]/\0<=z'/\M'[M.length]?=some (.lst (nts ps))/\M'[o]?=some (.lst (prs hs))/\M.length < o/\ps.length<=i/\hs.length<=rs.length/\3<=hs.length/\Bds 1000000 hs) ⟨K0,_,[],rs,_,_,_,_,rfl,Int.ediv_nonneg hz (by decide),t0,t1,by omega,by simp,Nat.le_refl _,h3.1,hb⟩ ?_ ?_
 ·rintro i ρ M1 hi ⟨K1,z',ps,hs,o,x5,x6,x7,rfl,z0,g0,g1,oo,lp,lh,l3',hb'⟩
  have nr:Nr 18446744073709551615 hs:=fun p hp=>by have:=hb' p hp;unfold Bd at this;omega
  simp![Zb6];refine CC.ZkE g1 (by omega) (by omega) nr ?_
  have K2:Kp M1 (M1 ++ [.lst (nts (Zbb hs))]):=Kp.app
  have g2:(M1 ++ [SO.lst (nts (Zbb hs))])[M1.length]?=some (.lst (nts (Zbb hs))):=by simp
  generalize M1 ++ [SO.lst (nts (Zbb hs))]=M2 at *;simp![Zj];show wO (Zcp (.enu M1.length) _ _ _ M2.length (cnt (.enu M1.length) M2) 0 _ (M2 ++ [.lst []])) _ _
  have hln:((nts (Zbb hs)).mapIdx fun (k:Nat) d=>D.tup [.int k,d]).length=hs.length:=by simp[nts,ZaC]
  have lM1:=ZJ g2
  have ge: ∀ j (hj:j < hs.length),((nts (Zbb hs)).mapIdx fun (k:Nat) d=>D.tup [.int k,d])[j]'(by rw[hln];exact hj)=D.tup [.int j,.int (T hs j)]:=fun j hj=>by
   rw[List.getElem_mapIdx]
   simp[nts,Zbb]
  refine ZeB (xs:=(nts (Zbb hs)).mapIdx fun (k:Nat) d=>D.tup [.int k,d]) (fun i ρ M'=>(∃ x y,ρ=[x,y])/\ ∃ js:List Int,M'=M2 ++ [.lst (nts js)]/\(∀ j∈js,0<=j/\j < hs.length)/\js.length<=i) _ 0 _ _ (by simp) (by rw[Ze8 g2,hln];simp[nts,ZaC]) ⟨⟨_,_,rfl⟩,[],rfl,fun j hj=>by simp at hj,Nat.zero_le _⟩ (fun i ρ M' hi hI=> ?_) ?_ ?_
  ·obtain ⟨_,js,e,_⟩:=hI
   rw[e,Zir (by rw[ZbQ lM1];exact g2),List.getElem?_mapIdx]
  ·rintro j ρ M' hj ⟨⟨x,y,rfl⟩,js,rfl,hjs,lj⟩
   have hj':j < hs.length:=by rw[hln] at hj;exact hj
   rw[ge j hj'];simp![Zj];refine br (fun z1=> ?_) (fun z1=> ?_)
   ·simp![Zj]
    refine ⟨by first | omega | (simp[nts];omega),js ++ [(j:Int)],by simp[nts],fun k hk=> ?_,by simp;omega⟩
    rcases List.mem_append.mp hk with hk | hk
    ·exact hjs k hk
    ·simp at hk
     omega
   ·exact ⟨⟨_,_,rfl⟩,js,rfl,hjs,by omega⟩
  ·rintro ρ M' ⟨-,js,rfl,hjs,lj⟩
   rw[hln] at lj;have g3:(M2 ++ [SO.lst (nts js)])[M2.length]?=some (.lst (nts js)):=by simp
   have K3:Kp M1 (M2 ++ [SO.lst (nts js)]):=K2.trans Kp.app
   have lM2:=K2.1
   generalize M2 ++ [SO.lst (nts js)]=M3 at *;have h0:=K3.get g0
   have h1:=K3.get g1
   have K4:=K1.trans K3
   have lo3:=ZJ h1
   have l03:=ZJ h0
   have l23:=ZJ g3
   show kAs _ _ _ (.ref M2.length) M3
   simp![h1];refine brO (fun z1=> ?_) (fun z1=> ?_)
   case refine_2=>
    simp![Zj];exact ⟨K4,_,ps,hs,o,_,_,_,rfl,z0,h0,h1,oo,by omega,lh,l3',hb'⟩
   simp![Zj];have K5:Kp M3 (M3 ++ [SO.lst []]):=Kp.app
   have f1:=K5.get h1
   have f0:=K5.get h0
   have f2:=K5.get g3
   have f3:(M3 ++ [SO.lst []])[M3.length]?=some (.lst []):=by simp
   generalize M3 ++ [SO.lst []]=M4 at *;have eq1:eqF 12 M4 (.ref M2.length) (.ref M3.length)=some (decide (js=[])):=by
    rw[Zol f2 f3];cases js with
    |nil=>rfl
    |cons a r=>simp[nts]
   have lo4:=ZJ f1
   have l04:=ZJ f0
   simp![eq1];refine Zmq (fun z2=> ?_) (fun z2=> ?_)
   case refine_2=>
    simp![Zj];exact ⟨K4.trans K5,_,ps,hs,o,_,_,_,rfl,z0,f0,f1,oo,by omega,lh,l3',hb'⟩
   have jl:0 < js.length:=List.length_pos_iff.mpr z2
   have jm: ∃ j:Nat,atI (nts js) (z' % (js.length:Int))=some (.int (j:Int))/\j < hs.length:=by
    have e1:=Int.emod_nonneg z' (show (js.length:Int)≠0 by omega)
    have e2:=Int.emod_lt_of_pos z' (show (0:Int) < js.length by omega)
    have m1:cn js (z' % (js.length:Int))∈js:=by
     obtain ⟨k,hk⟩: ∃ k:Nat,z' % (js.length:Int)=k:=⟨(z' % (js.length:Int)).toNat,by omega⟩
     rw[hk,Zf0 (by omega)]
     exact List.getElem_mem _
    have b1:=hjs _ m1
    refine ⟨(cn js (z' % (js.length:Int))).toNat,?_,by omega⟩
    rw[ZfZ ⟨by omega,e2⟩]
    congr 2
    omega
   obtain ⟨j,ej,hj⟩:=jm
   have e0:((j:Int)).toNat=j:=by omega
   have e1:((j:Int) + 1).toNat=j + 1:=by omega
   have ne1:M.length≠o:=by omega
   simp![f2,ej,f0,f1];refine ⟨by omega,?_⟩
   have K6:Kp M (M4.set M.length (.lst (nts (ps ++ [(j:Int)])))):=(K4.trans K5).set (Nat.le_refl _)
   have w0:(M4.set M.length (.lst (nts (ps ++ [(j:Int)]))))[M.length]?=some (.lst (nts (ps ++ [(j:Int)]))):=List.getElem?_set_self l04
   have w1:(M4.set M.length (.lst (nts (ps ++ [(j:Int)]))))[o]?=some (.lst (prs hs)):=by rw[List.getElem?_set_ne ne1];exact f1
   generalize M4.set M.length (SO.lst (nts (ps ++ [(j:Int)])))=M5 at *;have lo5:=ZJ w1
   have l05:=ZJ w0
   simp![w1,e0,e1];have t1:=List.length_take (i:=j) (l:=hs)
   have t2:=List.length_drop (i:=j + 1) (l:=hs)
   refine ⟨by omega,K6.trans Kp.app,_,ps ++ [(j:Int)],hs.take j ++ hs.drop (j + 1),_,_,_,_,rfl,Int.ediv_nonneg z0 (by decide),?_,?_,?_,?_,?_,?_,Zfr (Zdu hb') (Zcx hb')⟩
   ·exact w0
   ·rw[ZeE]
    rfl
   ·omega
   ·rw[List.length_append]
    simp
    omega
   ·rw[List.length_append]
    omega
   ·rw[List.length_append]
    omega
 ·rintro ρ M1 ⟨K1,z',ps,hs,o,x5,x6,x7,rfl,z0,g0,g1,oo,lp,lh,l3',hb'⟩
  simp![Zj];exact q _ _ ps hs M1 K1 g0 g1 (by omega) (by omega) hb'
theorem ZeR (ps:List Int): ∀ x∈nts ps,At x:=fun x hx=>by
 obtain ⟨i,-,rfl⟩:=List.mem_map.mp hx
 exact .inl ⟨i,rfl⟩
noncomputable def W3 (Q:D->Sto->Prop)(M:Sto):Prop:= ∀ x1 x2 x3 rs ps ls tp M',Kp M M'->WP M' x1 x2 x3 rs ps ls tp->WO rs ps ls->Q (.tup [x1,x2,x3]) M'
theorem Zpw {src:Src}{xs:List D}{tg:Tg}{f:Ev}{k:Nat}{fr:List Nat}{ρ:Ro}(J:Ro->Prop)(F:Nat->D)(hl:xs.length<=1000)(hcnt:xs.length<=cnt src M)(h0:J (roB k fr ρ))(hs: ∀ M',Kp M M'-> ∀ i,i<=xs.length->nxt src i M'=some xs[i]?)
  (st: ∀ (i:Nat) (h:i < xs.length) ρ M1,J ρ->Kp M M1->wG (tg xs[i] ρ) fun r=>J r/\wO (f r M1) (fun y M2=>y=F i/\Kp M1 M2) (fun _ _=>False))
  (q: ∀ M',Kp M M'->M'[M.length]?=some (.lst ((List.range xs.length).map F))->Q (.ref M.length) M'):kCo tg (fun _ M=> .ok true M) f k fr ρ Q src M:=by
 show wO (Zcp src tg (fun _ M=> .ok true M) f M.length (cnt src M) 0 (roB k fr ρ) (M ++ [.lst []])) _ _
 refine ZeB (xs:=xs) (fun i ρ M'=>J ρ/\Kp M M'/\M.length < M'.length/\M'[M.length]?=some (.lst ((List.range i).map F))) _ 0 _ _ (by omega) (by omega) ⟨h0,Kp.app,by simp,by simp⟩ (fun i ρ M' hi hI=>hs M' hI.2.1 i hi) ?_ ?_
 ·rintro i ρ M1 hi ⟨j,K,lt,hy⟩
  have s:=st i hi ρ M1 j K
  cases e:tg xs[i] ρ with
  |none=>rw[e] at s;exact s.elim
  |some r=>
   rw[e] at s;refine (show ∀ P:Ro->Prop,P r->wG (some r) P from fun P h=>h) _ ?_
   refine (show ∀ P:Prop,P->Br true P _ from fun P h=>⟨fun _=>h,fun z=>by cases z⟩) _ ?_
   refine ZaV s.2 (fun y M2 h=> ?_) (fun _ _ z=>z)
   obtain ⟨rfl,K2⟩:=h
   have hy2:=K2.get hy
   rw[hy2];have l2:=K2.1
   refine ⟨by simp;omega,s.1,(K.trans K2).set (Nat.le_refl _),by rw[List.length_set];omega,?_⟩
   rw[List.getElem?_set_self (by omega),List.range_succ,List.map_append]
   rfl
 ·rintro ρ M1 ⟨-,K,lt,hy⟩
  exact q M1 K hy
theorem Zd2 {z:Int}{ps:List Int}{ls:List Pt}{mr mp ml:Nat}(h1:M[mr]?=some (.lst (prs rs)))(h2:M[mp]?=some (.lst (nts ps)))(h3:M[ml]?=some (.lst (prs ls)))(l1:3<=rs.length/\rs.length<=50)(l2:ps.length<=50)(l3:ls.length<=50)(b1:Bds 200 rs)(b3:Bds 1000000 ls)(sm:Smo rs)(hz:0<=z)(q:W3 Q M):
  wO (F_law_spoilt_walk [.ref mr,.ref mp,.ref ml,.int z] M) Q E:=by
 have b1':Bds 1000000 rs:=fun p hp=>by have:=b1 p hp;unfold Bd at *;omega
 have lm1:=ZJ h1
 have lm2:=ZJ h2
 have lm3:=ZJ h3
 have wo: ∀ {xs:List D} {ys:List Pt},xs.length<=200->ys.length<=200->Bds 1000000 ys->(∀ x∈xs,At x)->WO rs xs ys:=fun a b c d=>⟨by omega,by omega,by omega,b1',c,d,fun _=>sm⟩
 simp![F_law_spoilt_walk,Zbc,h2];generalize hz':z / 12=z';have z0:0<=z':=by rw[<- hz'];exact Int.ediv_nonneg hz (by decide)
 have a0:=Int.emod_nonneg z' (show ((ps.length:Int) + 1)≠0 by omega)
 have a1:=Int.emod_lt_of_pos z' (show (0:Int) < (ps.length:Int) + 1 by omega)
 generalize hat:z' % ((ps.length:Int) + 1)=at';rw[hat] at a0 a1;obtain ⟨a,rfl⟩: ∃ a:Nat,at'=a:=⟨at'.toNat,by omega⟩
 have e0:((a:Int)).toNat=a:=by omega
 have e1:((a:Int) + 1).toNat=a + 1:=by omega
 generalize z % 12=kd;have tt: ∀ {k:Nat},(ps.take k).length<=50:=fun {k}=>by rw[List.length_take];omega
 have td: ∀ {k:Nat},(ps.drop k).length<=50:=fun {k}=>by rw[List.length_drop];omega
 have fin2: ∀ {L:Sto} {k:Nat} {xs:List D},L[k]?=some (.lst xs)->xs.length<=200->(∀ x∈xs,At x)->Q (.tup [.ref mr,.ref (M.length + k),.ref ml]) (M ++ L):=fun {L k xs} e l a=>
  q _ _ _ rs xs ls false _ Kp.app ⟨⟨_,rfl,Kp.app.get h1⟩,⟨_,rfl,by rw[ZeE];exact e⟩,⟨_,rfl,Kp.app.get h3⟩⟩ (wo l (by omega) b3 a)
 have fin3: ∀ {L:Sto} {k:Nat} {ys:List Pt},L[k]?=some (.lst (prs ys))->ys.length<=200->Bds 1000000 ys->Q (.tup [.ref mr,.ref mp,.ref (M.length + k)]) (M ++ L):=fun {L k ys} e l b=>
  q _ _ _ rs (nts ps) ys false _ Kp.app ⟨⟨_,rfl,Kp.app.get h1⟩,⟨_,rfl,Kp.app.get h2⟩,⟨_,rfl,by rw[ZeE];exact e⟩⟩ (wo (by simp[nts];omega) l b (ZeR ps))
 have t1:=List.length_take (i:=a) (l:=ps)
 have t2:=List.length_drop (i:=a) (l:=ps)
 have t3:=List.length_drop (i:=a + 1) (l:=ps)
 have t4:=List.length_take (i:=1) (l:=ls)
 have t5:=List.length_drop (i:=1) (l:=ls)
 refine brS (fun c=> ?_) (fun c=> ?_)
 ·simp![h2,e0]
  exact ⟨by omega,by omega,fin2 (k:=4) rfl (by simp only[nts,List.length_map,List.length_append,List.length_cons];omega) (ZeR _)⟩
 simp![Zj];refine brS (fun c=> ?_) (fun c=> ?_)
 ·simp![h2,e0,e1]
  exact ⟨by omega,fin2 (k:=2) rfl (by simp only[nts,List.length_map,List.length_append];omega) (ZeR _)⟩
 simp![Zj];refine brS (fun c=> ?_) (fun c=> ?_)
 ·simp![h3]
  exact ⟨by omega,fin3 (k:=2) rfl (by simp only[List.length_append];omega) (Zfr (Zcx b3) (Zdu b3))⟩
 simp![Zj];refine brS (fun c=> ?_) (fun c=> ?_)
 ·simp![h3]
  exact fin3 (k:=0) rfl (by omega) (Zcx b3)
 simp![Zj];refine brS (fun c=> ?_) (fun c=> ?_)
 ·simp![h3]
  exact ⟨by omega,fin3 (k:=1) rfl (by simp only[List.length_append,List.length_cons,List.length_nil];omega) (Zfr b3 fun p hp=>by simp at hp;subst hp;unfold Bd;decide)⟩
 simp![Zj];refine brS (fun c=> ?_) (fun c=> ?_)
 ·simp![h2]
  refine q _ _ _ rs (Zeq (nts ps) none (some (-1))) rs false _ Kp.app ⟨⟨_,rfl,Kp.app.get h1⟩,⟨_,rfl,by simp⟩,⟨_,rfl,Kp.app.get h1⟩⟩ (wo ?_ (by omega) b1' fun x hx=>ZeR ps x (List.mem_of_mem_drop (List.mem_of_mem_take hx)))
  unfold Zeq;rw[List.length_take,List.length_drop];simp only[nts,List.length_map];omega
 simp![Zj];refine brS (fun c=> ?_) (fun c=> ?_)
 ·simp![h2]
  refine Zpw (xs:=nts ps) (fun ρ=> ∃ x,ρ=[x]) (fun i=>D.bl (!decide (ps.getD i 0=0))) (by simp[nts];omega) (by rw[Ze7 h2];exact Nat.le_refl _) ⟨_,rfl⟩ (fun M' K i hi=>by rw[Zis];exact K.get h2) ?_ ?_
  ·rintro i hi ρ M1 ⟨x,rfl⟩ K
   have hi':i < ps.length:=by simpa [nts] using hi
   have gi:(nts ps)[i]= .int (ps.getD i 0):=by simp[nts,hi']
   rw[gi];generalize ps.getD i 0=y;refine ⟨⟨_,rfl⟩,?_⟩
   simp![Zj]
   by_cases cy:y=0
   ·rw[decide_eq_true cy]
    exact ⟨rfl,Kp.app⟩
   ·rw[decide_eq_false cy]
    exact ⟨rfl,Kp.app⟩
  ·intro M1 K hm
   simp![Zj];refine q _ _ _ rs ((List.range (nts ps).length).map fun i=>D.bl (!decide (ps.getD i 0=0))) ls false M1 K ⟨⟨_,rfl,K.get h1⟩,⟨_,rfl,hm⟩,⟨_,rfl,K.get h3⟩⟩ (wo (by simp[nts];omega) (by omega) b3 fun x hx=> ?_)
   obtain ⟨i,-,rfl⟩:=List.mem_map.mp hx
   exact .inr ⟨_,rfl⟩
 simp![Zj];refine brS (fun c=> ?_) (fun c=> ?_)
 ·simp![CU.ZsP h2]
  exact q _ _ _ rs (nts ps) ls true _ Kp.refl ⟨⟨_,rfl,h1⟩,rfl,⟨_,rfl,h3⟩⟩ (wo (by simp[nts];omega) (by omega) b3 (ZeR ps))
 simp![Zj];refine brS (fun c=> ?_) (fun c=> ?_)
 ·simp![h1]
  have ne:=sm.ne
  refine Zms (fun ρ=> ∃ x y,ρ=[x,y]) (fun (i:Nat)=>pr (2 * (cy rs i).1) (cy rs i).2) h1 (by rw[ZB];omega) ⟨_,_,rfl⟩ ?_ ?_
  ·rintro i hi ρ L ⟨x,y,rfl⟩
   rw[ZB] at hi;rw[CC.Z7];simp![Zj];exact ⟨_,_,rfl⟩
  rw[ZB];have e:(List.range rs.length).map (fun (i:Nat)=>pr (2 * (cy rs i).1) (cy rs i).2)=prs (rs.map fun p=>(2 * p.1,p.2)):=by
   conv=>rhs;rw[<- Zda (us:=rs)]
   unfold prs;rw[List.map_map,List.map_map];rfl
  rw[e];have K:Kp M (M ++ [SO.lst (prs (rs.map fun p=>(2 * p.1,p.2)))]):=Kp.app
  have g1:(M ++ [SO.lst (prs (rs.map fun p=>(2 * p.1,p.2)))])[M.length]?=some (.lst (prs (rs.map fun p=>(2 * p.1,p.2)))):=by simp
  simp![Zj];refine q _ _ _ (rs.map fun p=>(2 * p.1,p.2)) (nts ps) ls false _ K ⟨⟨_,rfl,g1⟩,⟨_,rfl,K.get h2⟩,⟨_,rfl,K.get h3⟩⟩ ⟨by rw[List.length_map];omega,by simp[nts];omega,by omega,fun p hp=> ?_,b3,ZeR ps,fun z=> ?_⟩
  ·obtain ⟨u,hu,rfl⟩:=List.mem_map.mp hp
   have:=b1 u hu
   unfold Bd at *
   simp only
   omega
  ·exfalso
   have z1:=z.2 rfl 0 (by rw[List.length_map];omega)
   rw[Zdp ne,Zdp ne] at z1;have z2:=sm.one 0
   have z3:X (2 * (cy rs 0).1,(cy rs 0).2) (2 * (cy rs (0 + 1)).1,(cy rs (0 + 1)).2)=2 * X (cy rs 0) (cy rs (0 + 1)):=by unfold X;grind
   have z4:X (2 * (cy rs 0).1,(cy rs 0).2) (2 * (cy rs (0 + 1)).1,(cy rs (0 + 1)).2)=1:=z1
   omega
 simp![Zj];exact q _ _ _ rs (nts ps) ls false M Kp.refl ⟨⟨_,rfl,h1⟩,⟨_,rfl,h2⟩,⟨_,rfl,h3⟩⟩ (wo (by simp[nts];omega) (by omega) b3 (ZeR ps))
section
variable {fo fi fo' fi' f:Ev}{ρ:Ro}
noncomputable def ZrM (fo fi fo' fi':Ev)(ρ:Ro)(N:Ro->Sto->Prop)(R:D->Sto->Prop)(B C:Ro->Sto->Prop)(E:Str->Sto->Prop)(d:D)(M:Sto):Prop:=match d with
 | .tup [x,y]=>wS (Zz (ZeT fo fi (eDt x)) (ZeT fo' fi' (eDt y)) ρ M) N R B C E
 |_=>False
theorem ZrN (h:wO (f ρ M) (ZrM fo fi fo' fi' ρ N R B C E) E):wS (ZpI fo fi fo' fi' f ρ M) N R B C E:=by
 unfold ZpI;rw[Z6];refine ZaV h (fun d M1 k=> ?_) (fun _ _ z=>z)
 unfold ZrM at k
 split at k
 ·exact k
 ·exact k.elim
theorem Zpx {x y:D}:ZrM fo fi fo' fi' ρ N R B C E (.tup [x,y]) M=wS (Zz (ZeT fo fi (eDt x)) (ZeT fo' fi' (eDt y)) ρ M) N R B C E:=rfl
theorem ZsU:wO (eDt d ρ M) Q E=Q d M:=rfl
end
theorem ZiT {a:Pt}: ∀ {rs:List Pt},eqs M (pr a.1 a.2) (prs rs)=some (rs.map fun x=>decide (x=a))
 | []=>rfl
 |x :: rs=>by
  have:=ZiT (a:=a) (rs:=rs)
  have e:eqF 12 M (pr x.1 x.2) (pr a.1 a.2)=some (decide ((x.1,x.2)=(a.1,a.2))):=ZqM (n:=10)
  show (match eqF 12 M (pr x.1 x.2) (pr a.1 a.2) with | some b=>(match eqs M (pr a.1 a.2) (prs rs) with | some bs=>some (b :: bs) | none=>none) | none=>none)=_
  rw[e,this];rfl
theorem ZiU {l:List Pt}:(prs l).reverse=prs l.reverse:=by unfold prs;rw[List.map_reverse]
theorem Zmi {L:List Pt}{b:Int}(h:Bds b L):Bds b L.reverse:=fun p hp=>h p (List.mem_reverse.mp hp)
theorem ZkP {n k:Nat}(h:k < n):ixN n (k:Int)=some k:=by
 rw[Ziq ⟨by omega,by omega⟩,Int.emod_eq_of_lt (by omega) (by omega),Int.toNat_natCast]
theorem Zmj {a:Pt}(h:a∈ss): ∃ i:Nat,(ss.map fun x=>decide (x=a)).findIdx? id=some i/\i < ss.length:=by
 cases e:(ss.map fun x=>decide (x=a)).findIdx? id with
 |some i=>
  have:=(List.findIdx?_eq_some_iff_getElem.mp e)
  obtain ⟨l,_⟩:=this
  exact ⟨i,rfl,by simpa using l⟩
 |none=>
  exfalso
  have:=List.findIdx?_eq_none_iff.mp e (decide (a=a)) (List.mem_map.mpr ⟨a,h,rfl⟩)
  simp at this
noncomputable def W4 (Q:D->Sto->Prop)(M:Sto):Prop:= ∀ x1 x2 x3 rs ss a b c d tl M',Kp M M'->TP M' x1 x2 x3 rs ss a b c d tl->TO rs ss a b c d->Q (.tup [x1,x2,x3]) M'
theorem ZcG {z a b c d:Int}{m1 m2:Nat}(h1:M[m1]?=some (.lst (prs rs)))(h2:M[m2]?=some (.lst (prs ss)))(l1:3<=rs.length/\rs.length<=50)(l2:ss.length<=50)(b1:Bds 200 rs)(b2:Bds 100000 ss)(ta: -200<=a/\a<=200)(tb: -200<=b/\b<=200)(tc: -200<=c/\c<=200)(td: -200<=d/\d<=200)(hm: ∀ p∈rs,ld a b c d p∈ss)(hz:0<=z)(q:W4 Q M):
  wO (F_law_spoilt_turning [.ref m1,.ref m2,.tup [pr a b,pr c d],.int z] M) Q E:=by
 have ne:rs≠[]:=by intro z;rw[z] at l1;simp at l1
 have b1':Bds 1000000 rs:=fun p hp=>by have:=b1 p hp;unfold Bd at *;omega
 have b2':Bds 1000000 ss:=fun p hp=>by have:=b2 p hp;unfold Bd at *;omega
 have lm1:=ZJ h1
 have lm2:=ZJ h2
 have to: ∀ {xs ys:List Pt},xs.length<=60->ys.length<=60->Bds 1000000 xs->Bds 1000000 ys->TO xs ys a b c d:=fun p q r s=>⟨by omega,by omega,r,s,by unfold Bt;omega,by unfold Bt;omega,by unfold Bt;omega,by unfold Bt;omega⟩
 simp![F_law_spoilt_turning,ZaO];generalize hz':z / 14=z';have z0:0<=z':=by rw[<- hz'];exact Int.ediv_nonneg hz (by decide)
 generalize z % 14=kd;have finT: ∀ {a' b' c' d':Int},Bt a'->Bt b'->Bt c'->Bt d'->Q (.tup [.ref m1,.ref m2,.tup [pr a' b',pr c' d']]) M:=fun p1 p2 p3 p4=>q _ _ _ rs ss _ _ _ _ false M Kp.refl ⟨⟨_,rfl,h1⟩,⟨_,rfl,h2⟩,rfl⟩ ⟨by omega,by omega,b1',b2',p1,p2,p3,p4⟩
 have fin2: ∀ {L:Sto} {k:Nat} {xs:List Pt},L[k]?=some (.lst (prs xs))->xs.length<=60->Bds 1000000 xs->Q (.tup [.ref m1,.ref (M.length + k),.tup [pr a b,pr c d]]) (M ++ L):=fun {L k xs} e l bb=>
  q _ _ _ rs xs a b c d false _ Kp.app ⟨⟨_,rfl,Kp.app.get h1⟩,⟨_,rfl,by rw[ZeE];exact e⟩,rfl⟩ (to (by omega) l b1' bb)
 have fin1: ∀ {L:Sto} {k:Nat} {xs:List Pt},L[k]?=some (.lst (prs xs))->xs.length<=60->Bds 1000000 xs->Q (.tup [.ref (M.length + k),.ref m2,.tup [pr a b,pr c d]]) (M ++ L):=fun {L k xs} e l bb=>
  q _ _ _ xs ss a b c d false _ Kp.app ⟨⟨_,rfl,by rw[ZeE];exact e⟩,⟨_,rfl,Kp.app.get h2⟩,rfl⟩ (to l (by omega) bb b2')
 have bt: ∀ {x:Int},-200<=x/\x<=200->Bt x:=fun h=>by unfold Bt;omega
 refine brS (fun c0=> ?_) (fun c0=> ?_)
 ·simp![Zj]
  exact finT (by unfold Bt;omega) (bt tb) (bt tc) (bt td)
 simp![Zj];refine brS (fun c0=> ?_) (fun c0=> ?_)
 ·simp![Zj]
  exact q _ _ _ ss rs a b c d false M Kp.refl ⟨⟨_,rfl,h2⟩,⟨_,rfl,h1⟩,rfl⟩ (to (by omega) (by omega) b2' b1')
 simp![Zj];refine brS (fun c0=> ?_) (fun c0=> ?_)
 ·simp![h2]
  exact fin2 (k:=0) rfl (by rw[List.length_drop];omega) (Zcx b2')
 simp![Zj];refine brS (fun c0=> ?_) (fun c0=> ?_)
 ·simp![h2]
  refine Zms (fun ρ=> ∃ x y,ρ=[x,y]) (fun (i:Nat)=>pr (0 - (cy ss i).1) (0 - (cy ss i).2)) h2 (by rw[ZB];omega) ⟨_,_,rfl⟩ ?_ ?_
  ·rintro i hi ρ L ⟨x,y,rfl⟩
   rw[ZB] at hi;rw[CC.Z7];simp![Zj];exact ⟨_,_,rfl⟩
  rw[ZB];have e:(List.range ss.length).map (fun (i:Nat)=>pr (0 - (cy ss i).1) (0 - (cy ss i).2))=prs (ss.map fun p=>(0 - p.1,0 - p.2)):=by
   conv=>rhs;rw[<- Zda (us:=ss)]
   unfold prs;rw[List.map_map,List.map_map];rfl
  rw[e];simp![Zj];refine fin2 (k:=0) rfl (by rw[List.length_map];omega) fun p hp=> ?_
  obtain ⟨u,hu,rfl⟩:=List.mem_map.mp hp
  have:=b2' u hu
  unfold Bd at *
  simp only
  omega
 simp![Zj];refine brS (fun c0=> ?_) (fun c0=> ?_)
 ·simp![Zj]
  exact q _ _ _ rs ss a b c d true _ Kp.app ⟨⟨_,rfl,Kp.app.get h1⟩,⟨_,rfl,Kp.app.get h2⟩,⟨_,rfl,by simp[prs]⟩⟩ (to (by omega) (by omega) b1' b2')
 simp![Zj];refine brS (fun c0=> ?_) (fun c0=> ?_)
 ·simp![Zl0,h2]
  rw[ZiU];exact fin2 (k:=0) rfl (by rw[List.length_reverse];omega) (Zmi b2')
 simp![Zj];refine brS (fun c0=> ?_) (fun c0=> ?_)
 ·simp![Zj]
  exact finT (by unfold Bt;omega) (by unfold Bt;omega) (bt tc) (bt td)
 simp![h1];have a0:=Int.emod_nonneg z' (show (rs.length:Int)≠0 by omega)
 have a1:=Int.emod_lt_of_pos z' (show (0:Int) < rs.length by omega)
 generalize hat:z' % (rs.length:Int)=at';rw[hat] at a0 a1;obtain ⟨k,rfl⟩: ∃ k:Nat,at'=k:=⟨at'.toNat,by omega⟩
 have e0:((k:Int)).toNat=k:=by omega
 have e1:((k:Int) + 1).toNat=k + 1:=by omega
 have t1:=List.length_take (i:=k) (l:=rs)
 have t2:=List.length_drop (i:=k) (l:=rs)
 refine brS (fun c0=> ?_) (fun c0=> ?_)
 ·simp![Zl0,h1]
  rw[ZiU];exact fin1 (k:=0) rfl (by rw[List.length_reverse];omega) (Zmi b1')
 simp![Zj];refine brS (fun c0=> ?_) (fun c0=> ?_)
 ·simp![h1]
  have a2:=Int.emod_nonneg (z' / 64) (show (rs.length:Int)≠0 by omega)
  have a3:=Int.emod_lt_of_pos (z' / 64) (show (0:Int) < rs.length by omega)
  generalize hto:z' / 64 % (rs.length:Int)=to';rw[hto] at a2 a3;obtain ⟨j,rfl⟩: ∃ j:Nat,to'=j:=⟨to'.toNat,by omega⟩
  have f0:(M ++ [SO.lst (prs rs)])[M.length]?=some (.lst (prs rs)):=by simp
  refine ZrN ?_
  have i1:ixN rs.length (k:Int)=some k:=ZkP (by omega)
  simp![f0,ZbO,Zpx,ZsU,i1];have i2:ixN (rs.set k ((cy rs j).1,(cy rs j).2)).length (j:Int)=some j:=ZkP (by rw[List.length_set];omega)
  simp![i2,ZsU];have set_m: ∀ {L:List Pt} {i:Nat} {u:Pt},Bds 1000000 L->Bd 1000000 u->Bds 1000000 (L.set i u):=fun hL hu p hp=>by
   rcases List.mem_or_eq_of_mem_set hp with z | z
   ·exact hL p z
   ·rw[z];exact hu
  exact fin1 (k:=0) rfl (by rw[List.length_set,List.length_set];omega) (set_m (set_m b1' (b1' _ (ZaN (i:=(j:Int)) ne))) (b1' _ (ZaN (i:=(k:Int)) ne)))
 simp![Zj];refine brS (fun c0=> ?_) (fun c0=> ?_)
 ·simp![h1,ZbO,Zmh (bt ta) (bt tb) (bt tc) (bt td) (b1' _ (ZaN (i:=(k:Int)) ne)),h2]
  have im:=hm _ (ZaN (i:=(k:Int)) ne)
  generalize hp:ld a b c d (cy rs k)=p at *;obtain ⟨sp,es,ls⟩:=Zmj im
  have e5:((sp:Int)).toNat=sp:=by omega
  simp![ZiT,es,h1,h2,ZbO,e0,e5];have t3:=List.length_take (i:=sp) (l:=ss)
  have t4:=List.length_drop (i:=sp) (l:=ss)
  have one: ∀ {u:Pt} {y:List Pt},Bd 1000000 u->Bds 1000000 y->Bds 1000000 (u :: y):=fun hx hy p hp=>by
   rcases List.mem_cons.mp hp with rfl | hp
   ·exact hx
   ·exact hy p hp
  refine ⟨by omega,by omega,by omega,by omega,q _ _ _ (rs.take k ++ cy rs k :: rs.drop k) (ss.take sp ++ p :: ss.drop sp) a b c d false _ Kp.app ⟨⟨_,rfl,by rw[ZeE];rfl⟩,⟨_,rfl,by rw[ZeE];rfl⟩,rfl⟩ (to ?_ ?_ (Zfr (Zdu b1') (one (b1' _ (ZaN (i:=(k:Int)) ne)) (Zcx b1'))) (Zfr (Zdu b2') (one (b2' _ im) (Zcx b2'))))⟩
  ·rw[List.length_append,List.length_cons]
   omega
  ·rw[List.length_append,List.length_cons]
   omega
 simp![Zj];refine brS (fun c0=> ?_) (fun c0=> ?_)
 ·simp![h1,e0]
  exact ⟨by omega,fin1 (k:=2) rfl (by simp only[List.length_append];omega) (Zfr (Zcx b1') (Zdu b1'))⟩
 simp![Zj];exact finT (bt ta) (bt tb) (bt tc) (bt td)
theorem Zj0 {c:Int}(h:M[n]?=some (.lst (prs rs)))(hs:rs≠[])(hb:Nr 200 rs)(hl:rs.length<=1000)
  (q: ∀ ss m M',ss≠[]->Nr 200 ss->ss.length=rs.length->M'[m]?=some (.lst (prs ss))->M.length<=M'.length->(∀ k,k < M.length->M'[k]?=M[k]?)->Q (.ref m) M'):wO (F_law_turn [.ref n,.int c] M) Q E:=by
 simp![F_law_turn,Zba];refine ZcY (fun i ρ M'=> ∃ ss m c x1 x2 x3 x4 x5 x6,ρ=[some (.ref m),some (.int c),x1,x2,x3,x4,x5,x6]/\ss≠[]/\Nr 200 ss/\ss.length=rs.length/\M'[m]?=some (.lst (prs ss))/\M.length<=M'.length/\(∀ k,k < M.length->M'[k]?=M[k]?)) ⟨rs,n,c,_,_,_,_,_,_,rfl,hs,hb,rfl,h,Nat.le_refl _,fun _ _=>rfl⟩ ?_ ?_
 ·rintro i ρ M1 hi ⟨ss,m,c,x1,x2,x3,x4,x5,x6,rfl,s1,s2,s3,s4,s5,s6⟩
  have hm:=ZJ s4
  simp![Zan];refine Zmr (fun ρ M'=>M'=M1/\ ∃ u:Int,(-9<=u/\u<=9)/\ρ=[some (D.ref m),some (D.int c),some (D.int (0 + ↑i)),some (D.int u),x3,x4,x5,x6]) ?_ ?_
  ·refine brS (fun _=> ?_) (fun _=> ?_)
   ·simp![Zj]
    exact ⟨_,⟨by omega,by omega⟩,rfl⟩
   ·simp![Zj]
    exact ⟨_,⟨by omega,by omega⟩,rfl⟩
  rintro _ M1 ⟨rfl,u,hu,rfl⟩
  simp![Zj];generalize c % 4=w;have hm1:(M1 ++ [SO.lst []])[m]?=some (.lst (prs ss)):=by rw[List.getElem?_append_left hm];exact s4
  refine ZcZ (fun i ρ M'=>M'=M1 ++ [.lst (prs ((ss.map (tf w u)).take i))]/\ ∃ y x x',ρ=[some (D.ref m),some (D.int (c / 3040)),y,some (D.int u),some (D.int w),some (D.ref M1.length),x,x']) hm1 ⟨by simp[prs],_,_,_,rfl⟩ (fun i ρ M' hI=>by rw[hI.1,List.getElem?_append_left hm];exact s4) ?_ ?_
  ·rintro i ρ M' hi ⟨rfl,y,x,x',rfl⟩
   rw[Z7];rw[ZB] at hi;have b1:=Nr.cy s2 s1 i
   have tk:prs ((ss.map (tf w u)).take i) ++ [pr (tf w u (cy ss i)).1 (tf w u (cy ss i)).2]=prs ((ss.map (tf w u)).take (i + 1)):=by
    rw[List.take_succ,List.getElem?_map,List.getElem?_eq_getElem hi,<- ZdQ,Zcu hi]
    rfl
   have tl:((ss.map (tf w u)).take i).length < 10000000:=by simp;omega
   have fin: ∀ a b:Int,tf w u (cy ss i)=(a,b)->M1 ++ [.lst (prs ((ss.map (tf w u)).take i ++ [(a,b)]))]=M1 ++ [.lst (prs ((ss.map (tf w u)).take (i + 1)))]:=by
    intro a b e;rw[e] at tk;rw[<- ZdT,tk]
   simp![Zam];refine brS (fun h1=> ?_) (fun h1=> ?_)
   ·simp![tl]
    exact ⟨fin _ _ (by rw[tf,if_pos h1]),_,_,_,rfl⟩
   simp![Zj];refine brS (fun h2=> ?_) (fun h2=> ?_)
   ·simp![tl]
    exact ⟨fin _ _ (by rw[tf,if_neg h1,if_pos h2]),_,_,_,rfl⟩
   simp![Zj];refine brS (fun h3=> ?_) (fun h3=> ?_)
   ·simp![tl]
    exact ⟨fin _ _ (by rw[tf,if_neg h1,if_neg h2,if_pos h3]),_,_,_,rfl⟩
   ·simp![tl]
    exact ⟨fin _ _ (by rw[tf,if_neg h1,if_neg h2,if_neg h3]),_,_,_,rfl⟩
  ·rintro ρ M' ⟨rfl,y,x,x',rfl⟩
   rw[List.take_of_length_le (by simp[ZB])]
   have e1:ss.map (tf w u)≠[]:=by simpa using s1
   have e2:(ss.map (tf w u)).length=rs.length:=by simp;exact s3
   generalize ss.map (tf w u)=ts at *;have t4:(M1 ++ [SO.lst (prs ts)])[M1.length]?=some (.lst (prs ts)):=by simp
   have l2:(M1 ++ [SO.lst (prs ts)]).length=M1.length + 1:=by simp
   have k2: ∀ k,k < M1.length->(M1 ++ [SO.lst (prs ts)])[k]?=M1[k]?:=fun k hk=>List.getElem?_append_left hk
   generalize M1 ++ [SO.lst (prs ts)]=M2 at *;simp![Zj];refine Zb4 0 (.inl rfl) t4 (by omega) ?_
   generalize hA:((List.range ts.length).map fun (i:Nat)=>(if 0=0 then (cy ts i).1.natAbs else (cy ts i).2.natAbs:Int))=A
   have lA:A.length=ts.length:=by subst hA;simp
   simp![Zj];refine Zb4 1 (.inr rfl) (by rw[List.getElem?_append_left (by omega)];exact t4) (by omega) ?_
   generalize hB:((List.range ts.length).map fun (i:Nat)=>(if 1=0 then (cy ts i).1.natAbs else (cy ts i).2.natAbs:Int))=B
   have lB:B.length=ts.length:=by subst hB;simp
   simp![Zj];refine ⟨by omega,?_⟩
   obtain ⟨v,hv⟩: ∃ v,(A ++ B).max?=some v:=by
    cases e:(A ++ B).max? with
    |some v=>exact ⟨v,rfl⟩
    |none=>
     rw[List.max?_eq_none_iff] at e
     have h0:(A ++ B).length=0:=by rw[e];rfl
     have:=List.length_pos_iff.mpr e1
     rw[List.length_append] at h0;omega
   simp![Ze6,Zc4,hv];have hx:=fun b (hb:v<=b)=>ZiH hv hb
   refine brS (fun h=> ?_) (fun h=> ?_)
   ·simp![Zj]
    have nr:Nr 200 ts:=by
     intro p hp;obtain ⟨k,hk,rfl⟩:=List.getElem_of_mem hp
     have a1:=hx 200 h (cy ts k).1.natAbs (by
      rw[List.mem_append];left;subst hA;exact List.mem_map.mpr ⟨k,List.mem_range.mpr hk,rfl⟩)
     have a2:=hx 200 h (cy ts k).2.natAbs (by
      rw[List.mem_append];right;subst hB;exact List.mem_map.mpr ⟨k,List.mem_range.mpr hk,rfl⟩)
     rw[Zcu hk] at a1 a2;omega
    exact ⟨ts,_,_,_,_,_,_,_,_,rfl,e1,nr,e2,by rw[List.getElem?_append_left (by omega)];exact t4,by omega,fun k hk=>by rw[List.getElem?_append_left (by omega),k2 k (by omega)];exact s6 k hk⟩
   ·simp![Zj]
    exact ⟨ss,_,_,_,_,_,_,_,_,rfl,s1,s2,s3,by rw[List.getElem?_append_left (by omega),k2 _ hm];exact s4,by omega,fun k hk=>by rw[List.getElem?_append_left (by omega),k2 k (by omega)];exact s6 k hk⟩
 ·rintro ρ M1 ⟨ss,m,c,x1,x2,x3,x4,x5,x6,rfl,s1,s2,s3,s4,s5,s6⟩
  simp![Zj];exact q ss m M1 s1 s2 s3 s4 s5 s6
theorem Zmk {z:Int}(hz:0<=z)(q: ∀ a b c d M',Kp M M'->(-200<=a/\a<=200)->(-200<=b/\b<=200)->(-200<=c/\c<=200)->(-200<=d/\d<=200)->Q (.tup [pr a b,pr c d]) M'):wO (F_law_turning [.int z] M) Q E:=by
 simp![F_law_turning,Zb9];refine Zj0 (rs:=[(1,0),(0,1)]) (by simp[prs]) (by simp) (fun p hp=>by simp at hp;rcases hp with rfl | rfl<;>decide) (by simp) fun ss m M1 ne nr l h1 k1 k2=> ?_
 have K1:Kp M M1:=Kp.trans Kp.app ⟨k1,k2⟩
 have l':ss.length=2:=l
 match ss,l',nr,h1 with
 | [u,v],_,nr,h1=>
  have n1:=nr u (by simp)
  have n2:=nr v (by simp)
  have ax0:atI (prs [u,v]) 0=some (pr u.1 u.2):=rfl
  have ax1:atI (prs [u,v]) 1=some (pr v.1 v.2):=rfl
  have lm:=ZJ h1
  simp![Zj];have c0:=Int.emod_nonneg (z / 1000000000000) (show (2:Int)≠0 by decide)
  have c1:=Int.emod_lt_of_pos (z / 1000000000000) (show (0:Int) < 2 by decide)
  generalize hy:z / 1000000000000 % 2=y;rw[hy] at c0 c1;have sg: ∃ e:Int,atI [D.int 1,D.int (-1)] y=some (.int e)/\(e=1\/e= -1):=by
   rcases (by omega:y=0\/y=1) with rfl | rfl
   ·exact ⟨1,rfl,.inl rfl⟩
   ·exact ⟨-1,rfl,.inr rfl⟩
  obtain ⟨e,he,e1⟩:=sg
  have K2:Kp M1 (M1 ++ [SO.lst [D.int 1,D.int (-1)]]):=Kp.app
  have h2:=K2.get h1
  generalize M1 ++ [SO.lst [D.int 1,D.int (-1)]]=M2 at *;simp![he,h2,ax0,ax1]
  rcases e1 with rfl | rfl
  ·exact q _ _ _ _ M2 (K1.trans K2) (by omega) (by omega) (by omega) (by omega)
  ·exact q _ _ _ _ M2 (K1.trans K2) (by omega) (by omega) (by omega) (by omega)
theorem ZeS {z:Int}(h:M[m]?=some (.lst (prs rs)))(h3:3<=rs.length/\rs.length<=50)(hb:Bds 200 rs)(hg:CF.Rgh rs)(hz:0<=z)(q: ∀ M',Kp M M'->Q (.bl true) M'):wO (F_law_rough_told [.ref m,.int z] M) Q E:=by
 have b1':Bds 1000000 rs:=fun p hp=>by have:=hb p hp;unfold Bd at *;omega
 have sm:Rb true rs->Smo rs:=fun z=>by
  obtain ⟨i,hi,hx⟩:=hg
  exact absurd (z.2 rfl i hi) hx
 simp![F_law_rough_told,Zbp];refine Zpv h h3 b1' hz fun mp ml ps ls M1 K1 g1 g2 l1 l2 b2=> ?_
 have o1:WO rs (nts ps) ls:=⟨by omega,by simp[nts];omega,by omega,b1',b2,ZeR ps,sm⟩
 have w1:WP M1 (.ref m) (.ref mp) (.ref ml) rs (nts ps) ls false:=⟨⟨_,rfl,K1.get h⟩,⟨_,rfl,g1⟩,⟨_,rfl,g2⟩⟩
 simp![Zj];refine w1.law o1 fun M2 K2=> ?_
 simp![Zj];refine (w1.up K2).told o1 fun M3 K3=> ?_
 have K:=(K1.trans K2).trans K3
 simp![Zj];have K4:Kp M3 (M3 ++ [SO.lst [],SO.lst []]):=Kp.app
 have f0:(M3 ++ [SO.lst [],SO.lst []])[M3.length]?=some (.lst []):=by rw[Zgy];rfl
 have f1:(M3 ++ [SO.lst [],SO.lst []])[M3.length + 1]?=some (.lst []):=by rw[ZeE];rfl
 generalize M3 ++ [SO.lst [],SO.lst []]=M4 at *;have o2:WO rs [] rs:=⟨by omega,by simp,by omega,b1',b1',fun x hx=>by simp at hx,sm⟩
 have w2:WP M4 (.ref m) (.ref (M3.length + 1)) (.ref m) rs [] rs false:=⟨⟨_,rfl,(K.trans K4).get h⟩,⟨_,rfl,f1⟩,⟨_,rfl,(K.trans K4).get h⟩⟩
 have w3:WP M4 (.ref m) (.ref M3.length) (.ref m) rs [] rs false:=⟨⟨_,rfl,(K.trans K4).get h⟩,⟨_,rfl,f0⟩,⟨_,rfl,(K.trans K4).get h⟩⟩
 refine w2.law o2 fun M5 K5=> ?_
 simp![Zj];exact (w3.up K5).told o2 fun M6 K6=>q M6 (((K.trans K4).trans K5).trans K6)
theorem Zuk {fs:Av}{ρ:Ro}{QS:Src->Sto->Prop}(h:wO (fs ρ M) (fun ds M1=> ∃ i j c,ds=[.int i,.int j,.int c]/\(-(2 ^ 62)<=i/\i < 2 ^ 62/\ -(2 ^ 62)<=j/\j < 2 ^ 62/\1<=c/\c<=1000)/\QS (.pur (ZhY i c (stN i j c))) M1) E):wO (iR3 fs ρ M) QS E:=by
 unfold iR3;rw[ZE];refine ZaV h (fun ds M1 k=> ?_) (fun _ _ z=>z)
 obtain ⟨i,j,c,rfl,b,q⟩:=k
 show wO (if _ then _ else _) QS E
 rw[if_pos b];exact q
theorem ZpL {a x:Int}(ha: -200<=a/\a<=200)(hx: -200<=x/\x<=200): -40000<=a * x/\a * x<=40000:=by
 have p1:=Int.mul_nonneg (show 0<=200 - a by omega) (show 0<=200 + x by omega)
 have p2:=Int.mul_nonneg (show 0<=200 + a by omega) (show 0<=200 - x by omega)
 have p3:=Int.mul_nonneg (show 0<=200 - a by omega) (show 0<=200 - x by omega)
 have p4:=Int.mul_nonneg (show 0<=200 + a by omega) (show 0<=200 + x by omega)
 have e1:(200 - a) * (200 + x) + (200 + a) * (200 - x)=80000 - 2 * (a * x):=by grind
 have e2:(200 - a) * (200 - x) + (200 + a) * (200 + x)=80000 + 2 * (a * x):=by grind
 omega
theorem Zpy {ns:List Int}{k:Nat}{x2 x3 x4 x5 x6 x7 x8 x9 x10 x11:Option D}(hk:k < 1000)(hN: ∀ x2 x3 x4 x5 x6 x7 x8 x9 x10 x11 M',N [some (.rol (ns.map D.int)),some (.int k),x2,x3,x4,x5,x6,x7,x8,x9,x10,x11] M'):
  wS (Zd1 [some (.rol (ns.map D.int)),some (.int k),x2,x3,x4,x5,x6,x7,x8,x9,x10,x11] M) N R B C E:=by
 simp![Zd1];refine CC.ZeL fun c c0=> ?_
 simp![Zj];rw[show ((k:Int) + 1)=((k + 1:Nat):Int) by omega]
 refine CC.ZeL fun o o0=> ?_
 simp![Zj];have tt: ∃ t:Int,atI [D.int 14,D.int 14,D.int 14,D.int 14,D.int 14,D.int 14,D.int 14,D.int 40] (c % 8)=some (.int t)/\(t=14\/t=40):=by
  have e1:=Int.emod_nonneg c (show (8:Int)≠0 by decide)
  have e2:=Int.emod_lt_of_pos c (show (0:Int) < 8 by decide)
  generalize c % 8=y at *
  rcases (by omega:y=0\/y=1\/y=2\/y=3\/y=4\/y=5\/y=6\/y=7) with rfl | rfl | rfl | rfl | rfl | rfl | rfl | rfl
  all_goals first | exact ⟨14,rfl,.inl rfl⟩ | exact ⟨40,rfl,.inr rfl⟩
 obtain ⟨t,et,ht⟩:=tt
 simp![et];refine CC.Zf3 (Int.ediv_nonneg c0 (by decide)) (by omega) fun rs m M1 sm nr lr h1 k1 k2=> ?_
 have l3:=sm.len
 have bd:Bds 200 rs:=fun p hp=>by have:=nr p hp;unfold Bd;omega
 have b1':Bds 1000000 rs:=fun p hp=>by have:=bd p hp;unfold Bd at *;omega
 simp![Zj];refine Zpv h1 (by omega) b1' o0 fun mp ml ps ls M2 K2 g1 g2 l1 l2 b2=> ?_
 simp![Zj];refine Zd2 (K2.get h1) g1 g2 (by omega) l1 l2 bd b2 sm (Int.ediv_nonneg o0 (by decide)) fun y1 y2 y3 rs' ps' ls' tp M3 K3 wp wo=> ?_
 simp![Zj];refine wp.law wo fun M4 K4=> ?_
 simp![Zj];refine (wp.up K4).told wo fun M5 K5=> ?_
 have h5:=((K2.trans K3).trans (K4.trans K5)).get h1
 simp![Zj];refine Zmr (fun ρ M'=> ∃ m ss,M'[m]?=some (.lst (prs ss))/\(3<=ss.length/\ss.length<=50)/\Bds 200 ss/\ρ=[some (.rol (ns.map D.int)),some (.int k),some (.int c),some (.int o),some (.ref m),some (.ref mp),some (.ref ml),some (.tup [y1,y2,y3]),x8,x9,x10,x11]) ?_ ?_
 ·refine brS (fun z=> ?_) (fun z=> ?_)
  ·simp![Zj]
   refine CF.Zl4 (Int.ediv_nonneg c0 (by decide)) fun ss m' M6 lm rg nr' l3' l14 h6 k3 k4=> ?_
   have bd':Bds 200 ss:=fun p hp=>by have:=nr' p hp;unfold Bd;omega
   simp![Zj];refine ZeS h6 (by omega) bd' rg o0 fun M7 K7=> ?_
   simp![Zj];exact ⟨m',ss,K7.get h6,by omega,bd',rfl⟩
  ·simp![Zj]
   exact ⟨m,rs,h5,by omega,bd,rfl⟩
 clear h5
 rintro _ M6 ⟨m,ss,h6,lss,bss,rfl⟩
 have ne:ss≠[]:=by intro z;rw[z] at lss;simp at lss
 have bs':Bds 1000000 ss:=fun p hp=>by have:=bss p hp;unfold Bd at *;omega
 simp![Zj];refine Zmk o0 fun a b c' d M7 K7 ta tb tc td=> ?_
 have h7:=K7.get h6
 have bt: ∀ {x:Int},-200<=x/\x<=200->Bt x:=fun h=>by unfold Bt;omega
 simp![h7];refine Zms (fun ρ=> ∃ x,ρ=[x,some (.tup [pr a b,pr c' d])]) (fun (i:Nat)=>pr (ld a b c' d (cy ss i)).1 (ld a b c' d (cy ss i)).2) h7 (by rw[ZB];omega) ⟨_,rfl⟩ ?_ ?_
 ·rintro i hi ρ L ⟨x,rfl⟩
  rw[ZB] at hi;rw[Z7];simp![Zmh (bt ta) (bt tb) (bt tc) (bt td) (bs' _ (ZaN (i:=(i:Int)) ne))];exact ⟨_,rfl⟩
 rw[ZB];have e:(List.range ss.length).map (fun (i:Nat)=>pr (ld a b c' d (cy ss i)).1 (ld a b c' d (cy ss i)).2)=prs (ss.map (ld a b c' d)):=by
  conv=>rhs;rw[<- Zda (us:=ss)]
  unfold prs;rw[List.map_map,List.map_map];rfl
 rw[e];have bl:Bds 100000 (ss.map (ld a b c' d)):=fun p hp=>by
  obtain ⟨u,hu,rfl⟩:=List.mem_map.mp hp
  have:=bss u hu
  unfold Bd at this;have q1:=ZpL ta (show -200<=u.1/\u.1<=200 by omega)
  have q2:=ZpL tb (show -200<=u.2/\u.2<=200 by omega)
  have q3:=ZpL tc (show -200<=u.1/\u.1<=200 by omega)
  have q4:=ZpL td (show -200<=u.2/\u.2<=200 by omega)
  unfold Bd ld
  simp only
  omega
 have K8:Kp M7 (M7 ++ [SO.lst (prs (ss.map (ld a b c' d)))]):=Kp.app
 have f8:(M7 ++ [SO.lst (prs (ss.map (ld a b c' d)))])[M7.length]?=some (.lst (prs (ss.map (ld a b c' d)))):=by simp
 have h8:=K8.get h7
 generalize M7 ++ [SO.lst (prs (ss.map (ld a b c' d)))]=M8 at *;have cw: ∀ {Q:D->Sto->Prop} {E:Str->Sto->Prop},wO (CC.F_law_cross [pr a b,pr c' d] M8) Q E=Q (.int (a * d - b * c')) M8:=CC.ZbA (by omega) (by omega)
 have lo8:=ZJ f8
 simp![cw];refine Zmr (fun ρ M'=>Kp M8 M'/\ ∃ o9 L,M'[o9]?=some (.lst (prs L))/\L.length=ss.length/\Bds 100000 L/\(∀ p∈ss,ld a b c' d p∈L)/\ρ=[some (.rol (ns.map D.int)),some (.int k),some (.int c),some (.int o),some (.ref m),some (.ref mp),some (.ref ml),some (.tup [y1,y2,y3]),some (.tup [pr a b,pr c' d]),some (.ref o9),x10,x11]) ?_ ?_
 ·refine brS (fun z=> ?_) (fun z=> ?_)
  ·simp![Zl0,f8]
   rw[ZiU];exact ⟨Kp.app,_,(ss.map (ld a b c' d)).reverse,by simp,by rw[List.length_reverse,List.length_map],Zmi bl,fun p hp=>List.mem_reverse.mpr (List.mem_map.mpr ⟨p,hp,rfl⟩),rfl⟩
  ·simp![Zj]
   exact ⟨Kp.refl,_,ss.map (ld a b c' d),f8,by rw[List.length_map],bl,fun p hp=>List.mem_map.mpr ⟨p,hp,rfl⟩,rfl⟩
 rintro _ M9 ⟨K9,o9,L,g9,lL,bL,iL,rfl⟩
 have lo9:=ZJ g9
 simp![g9];have a0:=Int.emod_nonneg o (show (L.length:Int)≠0 by omega)
 have a1:=Int.emod_lt_of_pos o (show (0:Int) < L.length by omega)
 generalize hat:o % (L.length:Int)=at';rw[hat] at a0 a1;obtain ⟨j,rfl⟩: ∃ j:Nat,at'=j:=⟨at'.toNat,by omega⟩
 have e0:((j:Int)).toNat=j:=by omega
 simp![g9,e0];have t1:=List.length_take (i:=j) (l:=L)
 have t2:=List.length_drop (i:=j) (l:=L)
 refine ⟨by omega,?_⟩
 have K10:Kp M9 (M9 ++ [SO.lst (prs (L.drop j)),SO.lst (prs (L.take j)),SO.lst (prs (L.drop j ++ L.take j))]):=Kp.app
 have g10:(M9 ++ [SO.lst (prs (L.drop j)),SO.lst (prs (L.take j)),SO.lst (prs (L.drop j ++ L.take j))])[M9.length + 2]?=some (.lst (prs (L.drop j ++ L.take j))):=by rw[ZeE];rfl
 generalize M9 ++ [SO.lst (prs (L.drop j)),SO.lst (prs (L.take j)),SO.lst (prs (L.drop j ++ L.take j))]=M10 at *;refine ZcG ((K9.trans K10).get h8) g10 lss (by rw[List.length_append];omega) bss (Zfr (Zcx bL) (Zdu bL)) ta tb tc td (fun p hp=> ?_) (Int.ediv_nonneg o0 (by decide)) fun v1 v2 v3 rs1 ss1 a' b' c1 d' tl M11 K11 tp to=> ?_
 ·have:=iL p hp
  rw[<- List.take_append_drop j L] at this
  rcases List.mem_append.mp this with z | z
  ·exact List.mem_append.mpr (.inr z)
  ·exact List.mem_append.mpr (.inl z)
 simp![Zj];refine tp.law to fun M12 K12=> ?_
 simp![Zj];refine (tp.up K12).told to fun M13 K13=> ?_
 simp![Zj];exact hN _ _ _ _ _ _ _ _ _ _ _
theorem law_true (ns:List Int)(h:ns.length<=63): ∃ M',Zfn [.rol (ns.map D.int)] []= .ok (.bl true) M':=by
 have w:wO (Zfn [.rol (ns.map D.int)] []) (fun d _=>d= .bl true) (fun _ _=>False):=by
  simp![Zfn,Zpg];refine Zuk ?_
  simp![Zj];refine ⟨_,_,_,rfl,by omega,?_⟩
  show wS (Ze1 _ _ _ _ _ _ _) _ _ _ _ _
  refine Zkz (fun _ ρ _=> ∃ x1 x2 x3 x4 x5 x6 x7 x8 x9 x10 x11,ρ=[some (.rol (ns.map D.int)),x1,x2,x3,x4,x5,x6,x7,x8,x9,x10,x11]) (xs:=ZhY 0 2 (stN 0 (max 2 (min (ns.length:Int) 16)) 2)) _ 0 _ _ (by simp) (by simp[cnt]) ⟨_,_,_,_,_,_,_,_,_,_,_,rfl⟩ (fun i ρ M hi hI=>rfl) ?_ ?_
  ·rintro i ρ M hi ⟨x1,x2,x3,x4,x5,x6,x7,x8,x9,x10,x11,rfl⟩
   have e:(ZhY 0 2 (stN 0 (max 2 (min (ns.length:Int) 16)) 2))[i]= .int ((2 * i:Nat):Int):=by simp[ZhY];omega
   rw[e];have hi':2 * i < 1000:=by
    rw[ZfN] at hi;unfold stN at hi
    split at hi<;>omega
   simp![Zj];exact Zpy hi' fun _ _ _ _ _ _ _ _ _ _ _=>⟨_,_,_,_,_,_,_,_,_,_,_,rfl⟩
  ·rintro ρ M ⟨x1,x2,x3,x4,x5,x6,x7,x8,x9,x10,x11,rfl⟩
   simp![Zj]
 obtain ⟨d,M',e,rfl⟩:=Zky w
 exact ⟨M',e⟩
end
end K68
end
namespace K68
open PySem PySem.Spec L2 DL
theorem Zul {l:PySem.W.OpenLaw}{q:Program}{loose:List Str}{XP:(Str->Option Value)->Heap->Prop}{YP:World->Heap->Prop}{d:DefRec}{K:Params->PySem.W.Frag}(hn:l.most=some 63)(hdf:d.params.defaults=[])
  (hY: ∀ (w:World) (h:Heap),YP w h->(K w.params).In h)
  (F: ∀ (w:World) (mg:Str->Option Value) (fa:Addr) (h:Heap),(K w.params).In h->h.Ns mainGlobals mg->mg d.name=some (.ref fa)->
   ∃ fd:FuncData,(∀ (s:Shared) (u:Value),BindsTo s fd ⟨[u],[]⟩ [("_law_script",u)])/\ ∀ base:Heap,(K w.params).In base->base.Ns mainGlobals mg->FnOk l.prog w (K w.params) mg base (CXE l.prog w) 111 fa fd ["_law_script"] (spD (K w.params) Zfn)):
  PySem.W.WalkO q loose XP YP l.row.toRowW d [] (fun f vs=>PySem.call f vs):=
 L2.Zk9 (n:=63) (k:=111) (x:="_law_script") (CX:=fun w=>CXE l.prog w) (sp:=fun w=>spD (K w.params) Zfn) hn (by decide) hdf ⟨fun _=>rfl,rfl,by decide,by decide⟩ hY F (fun _ _ a ns hl hO hS=>DL.Zns hl hO hS (law_true ns hl)) fun _ _ _ _ _ ⟨_,_,_,_,_,_,_,_,_,_,_,_,_,q⟩=>q
end K68
open PySem PySem.W PyProof.Rows
set_option maxRecDepth 1000000 in
set_option maxHeartbeats 0 in
theorem PySem.Challenge.cw_rayround_k68_papers_of_walks_and_turning_holds : PySem.Challenge.rw_rayround_k68_papers_of_walks_and_turning.Holds := by
 w_on
 refine holds_law K68.Ztb fun _=> ?_
 refine holds_open (q:=K68.qf PySem.Challenge.pw_rayround_k68_papers_of_walks_and_turning) (loose:=K68.lo) (Xt:=fun s=>xlAt (K68.qf PySem.Challenge.pw_rayround_k68_papers_of_walks_and_turning) [] s && recOk [] s) (XP:=XL (K68.qf PySem.Challenge.pw_rayround_k68_papers_of_walks_and_turning) []) (Yf:=Hook.obs K68.Hk) (Ya:=Hook.val K68.Hk) (YP:=Hook.says K68.Hk) (N:=3916) ?hl (Hook.of K68.Hk) (Hook.keeps K68.Hk) (fun s e=>xl_of s (Bool.and_eq_true_iff.mp e).1) XL.keeps (by rfl) (by rfl) (by rfl) (fun s e=>recFacts_of (Bool.and_eq_true_iff.mp e).2) (by rfl) (by first | assumption | decide +kernel) (by decide +kernel) ⟨rfl,rfl,rfl,rfl,rfl,by decide +kernel⟩ ?hw ?hc
 case hl=>exact HD.Zhi rfl (by decide) (fun s=>rfl) (by decide) K68.Zp4
 case hw=>w_witness2
 case hc=>
  refine K68.Zul (l:=PySem.Challenge.rw_rayround_k68_papers_of_walks_and_turning) rfl rfl (fun w h Y=>PySem.W.kIn_of Y) ?F
  intro w mg fa h KX G hmg;refine K68.fin KX G hmg ⟨DL.Bs.of KX G ?_,fun c v e=>PySem.W.mg_of KX G e,DL.Dfs.of ?_,K68.Zuj (fI:=53) (c:=52) (m:="rayround.errors") (t:=187) ?_ ?_ ?_ ?_ ?_,?_,?_,?_,?_,?_⟩
  all_goals kernel_rfl
