import PyProof.Rows.All
import Wide.All
import OpenK.AllK
import Wide.FinOn
import PyProof.EqAt
import PyProof.EqKinds
import PyProof.TupleCall
import Lean
import PyProof.Rows.SetFrom
import PyProof.Rows.SortWalk
import KE.KDictList
import KE.KSortedM
import PyProof.WalkInts
import KE.KSortTup
import KE.KRevIter
import KE.KUnpack
import PySem.Challenge.RW_quickchange_k23_whole_what_may_stay
set_option Elab.async false
set_option linter.all false
set_option maxRecDepth 100000
set_option compiler.extract_closed false
def tw:=@Bool.and_eq_true
def Gv:=@List.size_toArray
def Gw:=@List.getElem?_eq_getElem
def Gx:=@List.length_map
def Gy:=@List.getD_eq_getElem?_getD
def Gz:=@List.mem_singleton
def GA:=@List.map_cons
def GB:=@List.mem_filter
def GC:=@beq_iff_eq
def GD:=@List.getElem?_map
def GE:=@decide_eq_true
def GG:=@List.length_append
def GH:=@List.mem_of_getElem?
def GI:=@List.getElem?_set_ne
def GJ:=@List.length_filter_le
def GK:=@List.nodup_append
def GL:=@List.not_mem_nil
def GM:=@List.getElem?_set_self
def GN:=@Bool.false_eq_true
def GO:=@List.mem_cons
def GP:=@List.nodup_cons
def GQ:=@decide_eq_false
def GR:=@Bool.false_ne_true
def GS:=@List.mem_range
def GT:=@PySem.Heap.size_push
def GU:=@PyProof.Rows.callWith_type1
def GV:=@decide_eq_true_eq
def GW:=@List.drop_eq_getElem_cons
def GX:=@Nat.zero_le
def GY:=@PySem.wpAny_newObj_type
def GZ:=@PyProof.Rows.slot_tuple_getitem
def G0:=@List.getElem?_eq_none
def G1:=@List.mem_map_of_mem
def G2:=@Int.toNat_of_nonneg
def G3:=@List.length_set
def G4:=@List.length_take
def G5:=@List.getElem_mem
def G6:=@PySem.wpAny_truthy_bool
def G7:=@List.map_inj_left
def G8:=@List.mem_cons_self
def G9:=@PySem.wpAny_Call_Name_kw
def Ha:=@List.mem_append
def Hb:=@PySem.W.kia_one
def He:=@List.cons.injEq
def Hf:=@List.findIdx?_eq_some_iff_getElem
def Hg:=@PySem.mem_of_lookup
def Hh:=@List.mem_cons_of_mem
def Hi:=@List.getElem?_mapIdx
def Hj:=@Bool.or_eq_true
def Hk:=@PySem.wpAny_call_entry
def Hl:=@of_decide_eq_true
def Hm:=@PySem.AutoSeq1.wpAny_loadPart'
def Hn:=@List.append_nil
def Ho:=@PySem.wpAny_mono
def Hq:=@List.mem_flatten
def Hr:=@Prod.mk.injEq
def Hs:=@Array.getElem?_eq_some_iff
def Ht:=@Nat.lt_succ_of_lt
def Hu:=@beq_eq_false_iff_ne
def Hv:=@List.take_append_drop
def Hw:=@List.filter_append
def Hx:=@PySem.wpAny_holding
def Hy:=@List.length_eq_zero_iff
def Hz:=@List.ext_getElem?
def HA:=@List.map_append
def HB:=@PySem.Heap.SameBut.update
def HC:=@List.take_of_length_le
def HD:=@Nat.lt_irrefl
def HE:=@Nat.le_succ
def HF:=@Nat.lt_succ_self
def HG:=@List.filter_cons
def HH:=@PySem.Heap.get?_update_self
def HI:=@List.contains_iff_mem
def HJ:=@PySem.wpAny_passesOwn
def HK:=@Nat.ne_of_gt
def HL:=@PySem.sizeLine_eq
def HM:=@PySem.wpAny_field
def HN:=@List.append_assoc
def HP:=@bne_self_eq_false
def HQ:=@PySem.Around.under_plainId
def HR:=@List.filter_congr
def HS:=@Option.some.injEq
def HU:=@PySem.F.plainAttrs_list
def HV:=@PySem.Calls.spliced_cons
def HW:=@PySem.call_meets
def HX:=@PySem.F.called_set
def HY:=@PySem.F.slot_tuple_mul
def HZ:=@List.findIdx?_cons
def H0:=@List.append_of_mem
def Ia:=@PySem.wpAny_ite_split
def Ib:=@PySem.codeAny_builtin
def Ie:=@List.dropLast_concat_getLast
def Ig:=@Bool.eq_iff_iff
def Ih:=@Nat.le_of_ble_eq_true
def Ii:=@Array.getElem?_toList
def Ij:=@PySem.Calls.spliced_nil
def Ik:=@Bool.eq_false_iff
def Il:=@List.getElem?_append_right
def Im:=@Prod.mk.inj
def Io:=@List.range_eq_range'
def Iq:=@List.eq_append_cons_of_mem
def Ir:=@Nat.ne_of_lt
def Iu:=@Nat.le_of_lt
def Iv:=@Ne.symm
def Iw:=@List.range'_succ
def Ix:=@decide_eq_decide
def Iy:=@List.isEmpty_iff
def Iz:=@List.perm_middle
def IA:=@List.getElem?_append_left
def IB:=@Array.getElem?_eq_getElem
def IC:=@PySem.Heap.get?_update_ne
def ID:=@List.map_congr_left
def IE:=@List.filter_eq_self
def IF:=@PySem.F.args_tuple_add_2
def IG:=@List.mem_filterMap
def II:=@Int.natCast_nonneg
def IJ:=@Int.emod_lt_of_pos
def IK:=@List.filter_filter
def IL:=@List.length_range'
def IM:=@PySem.F.entry_tuple_add
def IN:=@PyProof.Rows.F.plain_set_update_loop
def IP:=@List.set_eq_take_append_cons_drop
def IQ:=@List.mem_map
def IR:=@PySem.wpAny_pyIter_list
def IS:=@PySem.codeAny_mono
def IU:=@PySem.F.slot_tuple_add
def IV:=@PySem.Heap.get?_update_other
def IW:=@List.reverse_cons
def IX:=@Nat.le_of_lt_succ
def IY:=@PySem.wpAny_pyIter_enum
def IZ:=@Bool.not_eq_true'
def I0:=@PySem.wpAny_setState_of
def Ja:=@Array.getElem?_eq_none
def Jb:=@List.pairwise_map
def Jc:=@PySem.F.slot_tuple_iterator_next
def Jd:=@List.length_eq_one_iff
def Je:=@List.map_map
def Jf:=@List.drop_of_length_le
def Jh:=@Int.ofNat_lt
def Ji:=@PySem.W.methodCall_KW
def Jj:=@List.length_replicate
def Jk:=@PySem.Obj.isFreed_of_fields
def Jl:=@PySem.builtinLookup_eq_fast
def Jm:=@True.intro
def Jn:=@List.length_drop
def Jo:=@Array.toList_inj
def Jp:=@List.any_eq_true
def Jq:=@List.take_length
def Jr:=@Bool.not_true
def Js:=@Nat.le_refl
def Jt:=@Int.emod_nonneg
def Ju:=@PySem.W.plainGet_of
def Jv:=@PySem.W.callWith_K0
def Jw:=@PySem.wpAny_setEntries_of
def Jx:=@Nat.le_of_eq
def Jz:=@PySem.wpAny_pyIter_tuple
def JA:=@PySem.W.callWith_K
def JB:=@PySem.wpAny_setField
def JC:=@PySem.Obj.data_mapFields
def JD:=@List.length_mapIdx
def JE:=@List.pairwise_cons
def JF:=@List.map_replicate
def JG:=@List.countP_append
def JH:=@Array.toList_push
def bN:=@Hh
def bQ:=@G8
def cG:=@List.mem_append_right
def eI:=@List.mem_append_left
def b7:=@PySem.Heap.get?_push_of_some
def df:=@PySem.Heap.get?_push_size
def bS:=@PySem.Heap.lt_size
def bC:=@Js
def bH:=@Nat.le_trans
def eG:=@Nat.lt_of_lt_of_le
def dk:=@Ir
def cO:=@Option.some.inj
def aS:=@PySem.wpAny_bind
def bh:=@PySem.wpAny_pure
theorem cg{α:Type}{a b:α}{l:List α}:a∈b::l->a=b\/a∈l:=GO.mp
theorem dm{α:Type}{a:α}{s t:List α}:a∈s++t->a∈s\/a∈t:=Ha.mp
theorem du{α β:Type}{b:β}{x:Option α}{f:α->Option β}:x.bind f=some b->∃a,x=some a/\f a=some b:=Option.bind_eq_some_iff.mp
theorem cJ{α β:Type}{b:β}{x:Option α}{f:α->β}:x.map f=some b->∃a,x=some a/\f a=b:=Option.map_eq_some_iff.mp
theorem dO{α:Type}{i:Nat}{a:α}{l:List α}:l[i]?=some a->∃h:i<l.length,l[i]=a:=List.getElem?_eq_some_iff.mp
theorem dR{α:Type}{p:α->Bool}{l:List α}:l.all p=true->∀x∈l,p x=true:=List.all_eq_true.mp
theorem dh{α β:Type}{b:β}{l:List α}{f:α->β}:b∈l.map f->∃a,a∈l/\f a=b:=IQ.mp
abbrev bq:=PySem.W.Frag
section
abbrev _root_.aH:=List PySem.Stmt
abbrev _root_.aF:=Option PySem.Addr
abbrev _root_.aE:=Option Nat
abbrev _root_.aC:=Array PySem.Value
abbrev _root_.aB:=Option PySem.Value
abbrev _root_.av:=List PySem.Expr
abbrev _root_.au:=List PySem.Str
abbrev _root_.ar:=List PySem.Value
abbrev _root_.aq:=List PySem.Addr
abbrev _root_.ao:=List Int
abbrev _root_.am:=List Nat
abbrev _root_.ak:=List (Nat×Nat)
abbrev _root_.aj:=List (PySem.Str×PySem.Value)
abbrev _root_.ai:=List (PySem.Str×PySem.Addr)
abbrev _root_.ah:=List (PySem.Addr×PySem.Obj)
abbrev _root_.af:=List am
abbrev _root_.ab:=List ao
namespace L2
open PySem PySem.Spec PyProof.Rows
noncomputable abbrev eH:=Sum Int Str
noncomputable def i5:eH->Value->Bool
 | .inl k,v=>Value.isInt k v
 | .inr x,v=>Value.isStrOf x v
noncomputable def p5 (w:World):eH->Int
 | .inl k=>hashInt k
 | .inr x=>hashStr w x
theorem g9:∀{k:eH} {v:Value},i5 k v=true->(∃i t,k=Sum.inl i/\v=Value.int i t)\/(∃x t,k=Sum.inr x/\v=Value.str x t)
 | .inl i,v,h=>by
  obtain⟨t,e⟩:=Value.isInt_shape (k:=i) (v:=v) h;exact .inl ⟨i,t,rfl,e⟩
 | .inr x,v,h=>by
  obtain⟨t,e⟩:=Value.isStrOf_shape (x:=x) (v:=v) h;exact .inr ⟨x,t,rfl,e⟩
def EE (a b:Int):decide ((Sum.inl a:eH)=Sum.inl b)=(a == b):=by
 by_cases e:a=b
 .subst e; simp
 .have h:¬(Sum.inl a:eH)=Sum.inl b:=λq=>e (Sum.inl.inj q);rw[GQ h];exact (Hu.mpr e).symm
def AJ (a b:Str):decide ((Sum.inr a:eH)=Sum.inr b)=decide (a=b):=by
 by_cases e:a=b
 .subst e; simp
 .have h:¬(Sum.inr a:eH)=Sum.inr b:=λq=>e (Sum.inr.inj q);rw[GQ h,GQ e]
def zD (a:Int)(b:Str):decide ((Sum.inl a:eH)=Sum.inr b)=false:=GQ (λq=>nomatch q)
def D3 (a:Str)(b:Int):decide ((Sum.inr a:eH)=Sum.inl b)=false:=GQ (λq=>nomatch q)
noncomputable def fW (prog:Program)(w:World):PySem.KeyKind prog w eH where
 is:=i5
 hash:=p5 w
 inj:=λv a b ha hb=>by
  rcases g9 ha with ⟨i,t,rfl,rfl⟩ | ⟨x,t,rfl,rfl⟩
  .rcases g9 hb with ⟨j,u,rfl,e⟩ | ⟨y,u,rfl,e⟩
   .injection e with e1 _; rw[e1]
   .exact nomatch e
  .rcases g9 hb with ⟨j,u,rfl,e⟩ | ⟨y,u,rfl,e⟩
   .exact nomatch e
   .injection e with e1 _; rw[e1]
 byValue:=λk v h=>by
  rcases g9 h with ⟨i,t,rfl,rfl⟩ | ⟨x,t,rfl,rfl⟩ <;> rfl
 pyHash:=λhv h=>by
  rcases g9 hv with ⟨i,t,rfl,rfl⟩ | ⟨x,t,rfl,rfl⟩
  .exact wpAny_pyHash_int h
  .exact wpAny_pyHash_str h
 eqBool:=λhu hv h=>by
  rcases g9 hu with ⟨i,t,rfl,rfl⟩ | ⟨x,t,rfl,rfl⟩
  .rcases g9 hv with ⟨j,u,rfl,rfl⟩ | ⟨y,u,rfl,rfl⟩
   .rw[EE] at h; exact wpAny_eqBool_int h
   .rw[zD] at h; exact SeqAt.EqAt.int_str i t y u _ _ _ _ h
  .rcases g9 hv with ⟨j,u,rfl,rfl⟩ | ⟨y,u,rfl,rfl⟩
   .rw[D3] at h; exact SeqAt.EqAt.str_int x t j u _ _ _ _ h
   .rw[AJ] at h; exact wpAny_eqBool_str h
 «strs»:=λk x t v h=>by
  rcases g9 h with ⟨i,u,rfl,e⟩ | ⟨y,u,rfl,e⟩
  .exact nomatch e
  .injection e with e1 _;subst e1;cases v <;> rfl
end L2
namespace L2
open PySem PySem.Spec PyProof.Rows
inductive V where
 | non | bl (b:Bool) | int (i:Int) | str (x:Str) | byt (b:Array UInt8) | flt (b:UInt64) | ref (a:Addr) | ty (n:String)
 deriving DecidableEq
abbrev _root_.aw:=List V
noncomputable def RelV:V->Value->Prop
 | .non,u=>u=Value.none
 | .bl b,u=>u=Value.bool b
 | .int i,u=>∃t,u=Value.int i t
 | .str x,u=>∃t,u=Value.str x t
 | .byt b,u=>∃t,u=Value.bytes b t
 | .flt b,u=>∃t,u=Value.float b t
 | .ref a,u=>u=Value.ref a
 | .ty n,u=>u=Value.type n
abbrev Vals:aw->ar->Prop:=Paired RelV
theorem Vals.length {xs:aw}{us:ar}(r:Vals xs us):xs.length=us.length:=Paired.length r
theorem Vals.get:∀{xs:aw} {us:ar} {i:Nat} {x:V},Vals xs us->xs[i]? = some x->∃u,us[i]? = some u/\RelV x u
 | _,_,_,_,.nil,e=>by simp at e
 | _,_,0,_,.cons r _,e=>by simp at e; subst e; exact⟨_,rfl,r⟩
 | _,_,i+1,x,.cons _ t,e=>by
  obtain⟨u,h1,h2⟩:=Vals.get (i:=i) (x:=x) t (by simpa using e);exact⟨u,by simpa using h1,h2⟩
theorem Vals.set {x:V}{u:Value}(r:RelV x u):∀{xs:aw} {us:ar} (i:Nat),Vals xs us->Vals (xs.set i x) (us.set i u)
 | _,_,_,.nil=>.nil
 | _,_,0,.cons _ t=>.cons r t
 | _,_,i+1,.cons q t=>.cons q (Vals.set r i t)
theorem Vals.append:∀{xs ys:aw} {us ws:ar},Vals xs us->Vals ys ws->Vals (xs++ys) (us++ws)
 | _,_,_,_,.nil,s=>s
 | _,_,_,_,.cons r t,s=>.cons r (Vals.append t s)
theorem Vals.take:∀{xs:aw} {us:ar} (n:Nat),Vals xs us->Vals (xs.take n) (us.take n)
 | _,_,0,_=>.nil
 | _,_,_+1,.nil=>.nil
 | _,_,n+1,.cons r t=>.cons r (Vals.take n t)
theorem Vals.drop:∀{xs:aw} {us:ar} (n:Nat),Vals xs us->Vals (xs.drop n) (us.drop n)
 | _,_,0,r=>r
 | _,_,_+1,.nil=>.nil
 | _,_,n+1,.cons _ t=>Vals.drop n t
noncomputable def RelO:Option V->aB->Prop
 | some v,some u=>RelV v u
 | none,none=>True
 | _,_=>False
def KV {κ:Type}:List (κ×V)->List (κ×Value)->Prop:=Paired λ(p:κ×V) (q:κ×Value)=>p.1=q.1/\RelV p.2 q.2
noncomputable def kV:eH->V
 | .inl i=>.int i
 | .inr x=>.str x
inductive HO where
 | lst (xs:aw)
 | tup (xs:aw)
 | dK (kvs:List (eH×V)) | dT (kvs:List (List eH×V))
 | set (S:Int->Bool) (n:Nat)
 | ins (C dx:Addr) (fs:List (Str×V))
 | own (x:Addr)
 | exc (C:Addr) (nw:Bool) (fs:List (Str×V))
 | xd (fs:List (Str×V))
 | met (f x:Addr)
 | rng (lo hi:Int)
 | frz (o:Obj) (u:HO)
 | tbl (ps:aC)
 | ext (φ:Heap->Prop)
noncomputable abbrev Hp:=Addr->Option HO
noncomputable def upd (H:Hp)(a:Addr)(o:HO):Hp:=λb=>if b=a then some o else H b
def cM {H:Hp}{a:Addr}{o:HO}:upd H a o a=some o:=by unfold upd; rw[if_pos rfl]
def ca {H:Hp}{a b:Addr}{o:HO}(h:b≠a):upd H a o b=H b:=by unfold upd; rw[if_neg h]
def m9 {H:Hp}{a b:Addr}{o:HO}(h:H a=some o)(h':H b=none):a≠b:=by
 intro e; subst e; rw[h] at h'; cases h'
section
variable (P:Program)(w:World)
def TupN (h:Heap)(a:Addr)(items:aC):Prop:=∃o,h.get? a=some o/\o.cls=.type "tuple" /\ (∃n,o.data=.seq items n)/\o.dict=none
def TupN.tup {h:Heap}{a:Addr}{items:aC}(x:TupN h a items):IsTup h a items:=let ⟨o,e,c,d,_⟩:=x; ⟨o,e,c,d⟩
def TupN.new (h:Heap)(items:aC):TupN (h.push { cls:=.type "tuple",data:=.seq items }) h.objs.size items:=⟨_,df _ rfl,rfl,⟨_,rfl⟩,rfl⟩
noncomputable def ObjOk (H:Hp)(h:Heap)(a:Addr):HO->Prop
 | .lst xs=>xs.length<=sizeLine/\∃(its:ar) (n:Nat),Vals xs its/\h.get? a=some { cls:=.type "list",data:=.seq its.toArray n }
 | .tup xs=>xs.length<=sizeLine/\∃its:ar,Vals xs its/\TupN h a its.toArray
 | .dK kvs=>kvs.length<=sizeLine/\(a == sysModules)=false/\∃vs,KV kvs vs/\h.DictOf (fW P w) a vs
 | .dT kvs=>kvs.length<=sizeLine/\(a == sysModules)=false/\∃xs:List (List eH×Addr×Value),
   Paired (λ(p:List eH×V) (q:List eH×Addr×Value)=>p.1=q.1/\H q.2.1=some (.tup (p.1.map kV))/\RelV p.2 q.2.2) kvs xs /\
   ∃o es ep,h.get? a=some o/\o.ExactDict/\o.data=.dict es ep/\es.toList=xs.map (entryOfKey (tupleKind (fW P w)))/\(xs.map (·.1)).Nodup
 | .set S n=>h.SetOf (intKind P w) a S n
 | .ins C dx fs=>H dx=some (.own a)/\fs.length<=1000/\dx≠a/\h.get? a=some (PySem.W.instObj C dx) /\
   ∃mA,h.Ns1 dx mA/\(∀f,RelO (fs.lookup f) (mA f))/\PySem.Within mA (fs.map (·.1))
 | .own _=>∃o,h.get? a=some o
 | .exc C nw fs=>fs.length<=1000/\∃(o:Obj) (vs:aC),h.get? a=some o/\o.cls=.ref C/\o.data=.fields vs/\vs.size=6/\(nw=true->vs[1]? = some Value.none) /\
   ((o.dict=none/\fs=[])\/∃dx,o.dict=some dx/\H dx=some (.own a)/\dx≠a/\∃mA,h.Ns1 dx mA/\(∀f,RelO (fs.lookup f) (mA f))/\PySem.Within mA (fs.map (·.1)))
 | .xd fs=>∃mA,h.Ns1 a mA/\∀f,RelO (fs.lookup f) (mA f)
 | .rng lo hi=>∃t u v,h.get? a=some { cls:=.type "range",data:=.fields #[.int lo t,.int hi u,.int 1 v] }
 | .frz o u=>h.get? a=some o/\ObjOk H h a u
 | .tbl ps=>h.get? a=some { cls:=.none,data:=.fields ps }
 | .met f x=>h.get? a=some (PySem.W.methodObj (.ref f) (.ref x))
 | .ext φ=>φ h/\(∃o,h.get? a=some o)/\∀h1 h2:Heap,φ h1->(∀o,h1.get? a=some o->h2.get? a=some o)->φ h2
def HOk (H:Hp)(h:Heap):Prop:=∀a o,H a=some o->ObjOk P w H h a o
end
section
variable {P:Program}{w:World}{H H':Hp}{h h':Heap}{a:Addr}{o:HO}
theorem ObjOk.lt (x:ObjOk P w H h a o):a<h.objs.size:=by
 cases o with
 | lst xs=>obtain⟨_,_,_,_,e⟩:=x; exact bS e
 | tup xs=>obtain⟨_,_,_,p⟩:=x; exact p.tup.lt
 | dK kvs=>obtain⟨_,_,_,_,o,_,_,e,_⟩:=x; exact bS e
 | dT kvs=>obtain⟨_,_,_,_,o,_,_,e,_⟩:=x; exact bS e
 | set S n=>obtain⟨o,_,_,_,e,_⟩:=x; exact bS e
 | ins C dx fs=>obtain⟨_,_,_,e,_⟩:=x; exact bS e
 | own y=>obtain⟨_,e⟩:=x; exact bS e
 | exc C nw fs=>obtain⟨_,_,_,e,_⟩:=x; exact bS e
 | xd fs=>obtain⟨_,⟨_,_,_,e,_⟩,_⟩:=x; exact bS e
 | rng lo hi=>obtain⟨_,_,_,e⟩:=x; exact bS e
 | frz ob u=>obtain⟨e,_⟩:=x; exact bS e
 | tbl ps=>exact bS (show h.get? a=some _ from x)
 | met f y=>exact bS (show h.get? a=some _ from x)
 | ext φ=>obtain⟨_,⟨_,e⟩,_⟩:=x; exact bS e
theorem Paired.mapP {α β:Type}{F G:α->β->Prop}:∀{l₁:List α} {l₂:List β},Paired F l₁ l₂->(∀a b,F a b->G a b)->Paired G l₁ l₂
 | _,_,.nil,_=>.nil
 | _,_,.cons r t,f=>.cons (f _ _ r) (Paired.mapP t f)
def ObjOk.stay (x:ObjOk P w H h a o)(k:∀b u,(b=a\/H b=some (.own a))->h.get? b=some u->h'.get? b=some u)
  (ho:∀b,H b=some (.own a)->H' b=some (.own a))(ht:∀b xs,H b=some (.tup xs)->H' b=some (.tup xs)):ObjOk P w H' h' a o:=by
 induction o with
 | lst xs=>obtain⟨z,its,n,r,e⟩:=x; exact⟨z,its,n,r,k _ _ (.inl rfl) e⟩
 | tup xs=>obtain⟨z,its,r,ob,e,c⟩:=x; exact⟨z,its,r,ob,k _ _ (.inl rfl) e,c⟩
 | dK kvs=>obtain⟨z,y,vs,r,ob,es,ep,e,c⟩:=x; exact⟨z,y,vs,r,ob,es,ep,k _ _ (.inl rfl) e,c⟩
 | dT kvs=>
  obtain⟨z,y,xs,r,ob,es,ep,e,c⟩:=x;exact⟨z,y,xs,Paired.mapP r λp q z=>⟨z.1,ht _ _ z.2.1,z.2.2⟩,ob,es,ep,k _ _ (.inl rfl) e,c⟩
 | set S n=>obtain⟨ob,es,ep,t,e,c⟩:=x; exact⟨ob,es,ep,t,k _ _ (.inl rfl) e,c⟩
 | ins C dx fs=>
  obtain⟨d,z,ne,e,mA,⟨od,es,ep,e2,c⟩,r⟩:=x;exact⟨ho _ d,z,ne,k _ _ (.inl rfl) e,mA,⟨od,es,ep,k _ _ (.inr d) e2,c⟩,r⟩
 | own y=>obtain⟨ob,e⟩:=x; exact⟨ob,k _ _ (.inl rfl) e⟩
 | exc C nw fs=>
  obtain⟨z,o,vs,e,c1,c2,c3,c4,q⟩:=x;refine⟨z,o,vs,k _ _ (.inl rfl) e,c1,c2,c3,c4,?_⟩;rcases q with q | ⟨dx,d1,d2,d3,mA,⟨od,es,ep,e2,c⟩,r⟩
  .exact .inl q
  .exact .inr ⟨dx,d1,ho _ d2,d3,mA,⟨od,es,ep,k _ _ (.inr d2) e2,c⟩,r⟩
 | xd fs=>obtain⟨mA,⟨od,es,ep,e,c⟩,r⟩:=x; exact⟨mA,⟨od,es,ep,k _ _ (.inl rfl) e,c⟩,r⟩
 | rng lo hi=>obtain⟨t,u,v,e⟩:=x; exact⟨t,u,v,k _ _ (.inl rfl) e⟩
 | frz ob u ih=>obtain⟨e,q⟩:=x; exact⟨k _ _ (.inl rfl) e,ih q⟩
 | tbl ps=>
  have e:h.get? a=some { cls:=.none,data:=.fields ps }:=x;show h'.get? a=some { cls:=.none,data:=.fields ps };exact k a _ (.inl rfl) e
 | met f y=>
  have e:h.get? a=some (PySem.W.methodObj (.ref f) (.ref y)):=x;show h'.get? a=some (PySem.W.methodObj (.ref f) (.ref y));exact k a _ (.inl rfl) e
 | ext φ=>obtain⟨p,⟨o,e⟩,st⟩:=x; exact⟨st _ _ p λo q=>k _ _ (.inl rfl) q,⟨o,k _ _ (.inl rfl) e⟩,st⟩
theorem HOk.lt (x:HOk P w H h)(e:H a=some o):a<h.objs.size:=(x a o e).lt
def HOk.fresh (x:HOk P w H h)(e:h.objs.size<=a):H a=none:=by
 cases q:H a with
 | none=>rfl
 | some u=>exact absurd (eG (x.lt q) e) (HD _)
def HOk.kept (x:HOk P w H h)(k:∀b u,h.get? b=some u->h'.get? b=some u):HOk P w H h':=λa o e=>
 (x a o e).stay (λb u _ q=>k b u q) (λ_ q=>q) λ_ _ q=>q
def HOk.laid (x:HOk P w H h)(k:∀b u,h.get? b=some u->h'.get? b=some u)(hp:h.objs.size<=a)(new:ObjOk P w (upd H a o) h' a o):HOk P w (upd H a o) h':=λb u e=>by
 have hn:=x.fresh hp;by_cases hb:b=a
 .subst hb; rw[cM] at e; cases e; exact new
 .rw[ca hb] at e;exact (x b u e).stay (λc v _ q=>k c v q) (λc q=>by rw[ca (m9 q hn)]; exact q) λc xs q=>by rw[ca (m9 q hn)]; exact q
end
def Rd (H:Hp)(a:Addr)(u:HO):Prop:=H a=some u\/∃o,H a=some (.frz o u)
def Rd.ok {P:Program}{w:World}{H:Hp}{h:Heap}{a:Addr}{u:HO}(r:Rd H a u)(x:HOk P w H h):ObjOk P w H h a u:=by
 rcases r with r | ⟨o,r⟩
 .exact x a u r
 .obtain⟨_,q⟩:=x a _ r;exact q
noncomputable def oV:Option HO->Prop
 | some (.lst _)=>True
 | some (.dK _)=>True
 | some (.dT _)=>True
 | some (.set _ _)=>True
 | some (.ins _ _ _)=>True
 | some (.exc _ _ _)=>True
 | some (.ext _)=>True
 | _=>False
section
variable {P:Program}{w:World}{H:Hp}{h h':Heap}{x e:Addr}{o':HO}
def HOk.write (ok:HOk P w H h)(mu:oV (H x))(he:e=x\/H e=some (.own x))(k:∀b u,b≠e->h.get? b=some u->h'.get? b=some u)(heo:∃u,h'.get? e=some u)
  (new:ObjOk P w (upd H x o') h' x o'):HOk P w (upd H x o') h':=λb u q=>by
 have nown:∀c y,H c=some (.own y)->c≠x:=λc y r z=>by subst z; rw[r] at mu; exact mu
 have ntup:∀c xs,H c=some (.tup xs)->c≠x:=λc xs r z=>by subst z; rw[r] at mu; exact mu
 by_cases hb:b=x
 .subst hb; rw[cM] at q; cases q; exact new
 .rw[ca hb] at q;by_cases hbe:b=e
  .have q':H b=some (.own x):=by
    rcases he with z | z
    .exact absurd (hbe.trans z) hb
    .rw[hbe]; exact z
   rw[q] at q'; cases q';obtain⟨v,hv⟩:=heo;exact⟨v,by rw[hbe]; exact hv⟩
  .refine (ok b u q).stay (λc v hc r=>k c v ?_ r) (λc r=>by rw[ca (nown c b r)]; exact r) λc xs r=>by rw[ca (ntup c xs r)]; exact r
   rcases hc with rfl | hc
   .exact hbe
   .rintro rfl;rcases he with z | z
    .exact nown c b hc z
    .rw[hc] at z; cases z; exact hb rfl
end
structure Un (fs ex:aq)(H H':Hp)(h h':Heap):Prop where
 keep:∀b o,h.get? b=some o->H b=none->b∉fs->b∉ex->h'.get? b=some o
 slot:∀b o,h.get? b=some o->H b=none->b∈fs->b∉ex->∃sl,h'.get? b=some { o with slots:=sl }
 free:∀b o,h.get? b=some o->H b=none->b∉ex->H' b=none
 there:∀b o,h.get? b=some o->b∉ex->∃o',h'.get? b=some o'
 tups:∀b xs,H b=some (.tup xs)->H' b=some (.tup xs)
 frzs:∀b o u,H b=some (.frz o u)->H' b=some (.frz o u)
 tbls:∀b ps,H b=some (.tbl ps)->∃more,H' b=some (.tbl (ps++more))
section
variable {fs fs' ex ex':aq}{H H1 H2:Hp}{h h1 h2 h':Heap}{a x e:Addr}{o:HO}
def Un.any (u:Un fs ex H H1 h h1){b:Addr}{ob:Obj}(q:h.get? b=some ob)(n:H b=none)(hx:b∉ex):∃sl,h1.get? b=some { ob with slots:=sl }:=by
 by_cases hb:b∈fs
 .exact u.slot b ob q n hb hx
 .exact⟨ob.slots,u.keep b ob q n hb hx⟩
def Un.trans (a:Un fs ex H H1 h h1)(b:Un fs ex H1 H2 h1 h2):Un fs ex H H2 h h2 where
 keep:=λc ob q n hc hx=>b.keep c ob (a.keep c ob q n hc hx) (a.free c ob q n hx) hc hx
 slot:=λc ob q n hc hx=>by
  obtain⟨sl,e1⟩:=a.slot c ob q n hc hx;obtain⟨sl',e2⟩:=b.slot c _ e1 (a.free c ob q n hx) hc hx;exact⟨sl',e2⟩
 free:=λc ob q n hx=>by
  obtain⟨o',e1⟩:=a.there c ob q hx;exact b.free c o' e1 (a.free c ob q n hx) hx
 there:=λc ob q hx=>by
  obtain⟨o',e1⟩:=a.there c ob q hx;exact b.there c o' e1 hx
 tups:=λc xs q=>b.tups c xs (a.tups c xs q)
 frzs:=λc ob xs q=>b.frzs c ob xs (a.frzs c ob xs q)
 tbls:=λc ps q=>by
  obtain⟨m1,e1⟩:=a.tbls c ps q;obtain⟨m2,e2⟩:=b.tbls c _ e1;exact⟨m1++m2,by rw[e2,Array.append_assoc]⟩
def Un.kept (k:∀b u,h.get? b=some u->h'.get? b=some u):Un fs ex H H h h':=
 ⟨λb ob q _ _ _=>k b ob q,λb ob q _ _ _=>⟨ob.slots,k b ob q⟩,λ_ _ _ n _=>n,λb ob q _=>⟨ob,k b ob q⟩,λ_ _ q=>q,λ_ _ _ q=>q,λ_ ps q=>⟨#[],by rw[q]; simp⟩⟩
def Un.refl:Un fs ex H H h h:=Un.kept λ_ _ q=>q
def Un.laid (k:∀b u,h.get? b=some u->h'.get? b=some u)(hp:h.objs.size<=a)(hn:H a=none):Un fs ex H (upd H a o) h h' where
 keep:=λb u q _ _ _=>k b u q
 slot:=λb u q _ _ _=>⟨u.slots,k b u q⟩
 free:=λb u q n _=>by rw[ca (Ir (Nat.lt_of_lt_of_le (Heap.lt_size q) hp))]; exact n
 there:=λb u q _=>⟨u,k b u q⟩
 tups:=λb xs q=>by rw[ca (m9 q hn)]; exact q
 frzs:=λb u xs q=>by rw[ca (m9 q hn)]; exact q
 tbls:=λb ps q=>⟨#[],by rw[ca (m9 q hn),q]; simp⟩
def Un.write (mu:oV (H x))(he:e=x\/H e=some (.own x))(k:∀b u,b≠e->h.get? b=some u->h'.get? b=some u)(heo:∃u,h'.get? e=some u):Un fs ex H (upd H x o) h h':=by
 have hx:∀b,H b=none->b≠x:=λb n z=>by subst z; rw[n] at mu; exact mu
 have hb:∀b,H b=none->b≠e:=λb n z=>by
  subst z;rcases he with r | r
  .exact hx b n r
  .rw[n] at r; cases r
 have hm:∀b u,H b=some u->¬oV (some u)->b≠x:=λb u q nm z=>by subst z; rw[q] at mu; exact nm mu
 refine⟨λb u q n _ _=>k b u (hb b n) q,λb u q n _ _=>⟨u.slots,k b u (hb b n) q⟩,λb u q n _=>by rw[ca (hx b n)]; exact n,λb u q _=>?_,
  λb xs q=>by rw[ca (hm b _ q λz=>z)]; exact q,λb u xs q=>by rw[ca (hm b _ q λz=>z)]; exact q,λb ps q=>⟨#[],by rw[ca (hm b _ q λz=>z),q]; simp⟩⟩
 by_cases hbe:b=e
 .subst hbe; exact heo
 .exact⟨u,k b u hbe q⟩
end
noncomputable def oR (h:Heap)(H:Hp):aq:=(List.range h.objs.size).filter λa=>(H a).isSome
noncomputable def dZ (h:Heap)(H:Hp):Heap:=PySem.W.hideAll h (oR h H)
def EZ (h:Heap)(H:Hp):(dZ h H).objs.size=h.objs.size:=PySem.W.hideAll_size _ _
def yF {h:Heap}{H:Hp}{b:Addr}{o:Obj}(e:h.get? b=some o)(n:H b=none):(dZ h H).get? b=some o:=
 PySem.W.hideAll_get _ e λhm=>by
  have q:(H b).isSome=true:=(GB.mp hm).2;rw[n] at q; simp at q
def Bt {h:Heap}{H:Hp}{b:Addr}{o:Obj}(e:(dZ h H).get? b=some o):h.get? b=some o/\H b=none:=by
 have e':h.get? b=some o:=PySem.W.of_hideAll (oR h H) e;refine⟨e',?_⟩;cases q:H b with
 | none=>rfl
 | some x=>
  have hm:b∈oR h H:=GB.mpr ⟨GS.mpr (bS e'),by simp[q]⟩;have z:(dZ h H).get? b=none:=PySem.W.hideAll_none (oR h H) hm;rw[z] at e; cases e
noncomputable def iq (g h:Heap)(L:Addr):ah:=(List.range h.objs.size).filterMap λa=>if a=L\/(g.get? a).isSome=true then none else (h.get? a).map λo=>(a,o)
noncomputable def rest (g h:Heap)(L d:Addr):ah:=(iq g h L).filter λp=>decide (p.1≠d)
end L2
namespace L2
open PySem PySem.Spec PyProof.Rows
structure Mod (K:bq)(mg:Str->aB)(base:Heap):Prop where
 kin:K.In base
 glob:base.Ns mainGlobals mg
 blt:∃mb,base.Ns builtinsNs mb/\∀x:Str,x ≠ "__name__" -> mb x=bootBuiltins x
 nolimit:base.NoLimit
structure Cx where
 prog:Program
 w:World
 K:bq
 mg:Str->aB
 base:Heap
 A:Around
 N:au
 s₀:Shared
 H₀:Hp
 env:Env
 outer:List Env
 stack:List Env
 ex:aq
 fn:Str->Bool
 calm:Bool
 pn:ah
 xe:Value->Shared->Prop
noncomputable def frs (l:List Env):aq:=l.filterMap (·.frame)
noncomputable abbrev Cx.fs (X:Cx):aq:=frs X.outer
def qP (sc:Scope)(x:Str):Prop:=sc.names.lookup x=some .local\/sc.names.lookup x=some .cell\/sc.names.lookup x=some .free
def Loc (sc:Scope)(x:Str):Prop:=sc.names.lookup x=some .local\/sc.names.lookup x=some .cell
def Look (env:Env)(h:Heap)(m:Str->aB)(x:Str)(u:Value):Prop:=
 (env.kindOf x=some .local/\m x=some u)\/((env.kindOf x=some .cell\/env.kindOf x=some .free)/\∃c,env.cells.lookup x=some c/\h.IsCell c (some u))
structure Cx.Ok (X:Cx):Prop where
 mod:Mod X.K X.mg X.base
 kind:X.env.scope.kind=.function
 glob:X.env.globals=mainGlobals
 blt:X.env.builtins=builtinsNs
 above:X.s₀.heap.objs.size<=X.env.locals
 inj:∀x y c,X.env.cells.lookup x=some c->X.env.cells.lookup y=some c->x=y
 has:∀x,(X.env.kindOf x=some .cell\/X.env.kindOf x=some .free)->∃c,X.env.cells.lookup x=some c
 cab:∀x c,X.fn x=true->X.env.cells.lookup x=some c->X.s₀.heap.objs.size<=c
 hd:X.calm=true->X.A.handled=none
 frames:X.A.frames=some X.stack
 stk:X.stack=X.outer\/(X.stack=X.env::X.outer/\X.env.frame=some X.env.locals)
 exf:∀b∈X.ex,b≠X.env.locals/\∀x c,X.env.cells.lookup x=some c->c≠b
 bs:∀b o,X.base.get? b=some o->X.s₀.heap.get? b=some o/\X.H₀ b=none
 bsz:X.base.objs.size<=X.s₀.heap.objs.size
 noex:∀b o,X.base.get? b=some o->b∉X.ex
 exfs:∀b∈X.ex,b∉X.fs
 funs:X.s₀.heap.FunFrames X.base X.outer
 frf:∀b∈X.fs,X.H₀ b=none
structure Inv (X:Cx)(pins:ah)(σ:List (Option V))(H:Hp)(s:Shared):Prop where
 ok:X.Ok
 os:s.os=X.s₀.os
 bare:AllBare s.gens
 base:Un X.fs X.ex X.H₀ H X.s₀.heap s.heap
 loc:∃m,s.heap.Ns X.env.locals m/\∀(i:Nat) (x:Str) (v:V),X.N[i]? = some x->σ[i]? = some (some v)->qP X.env.scope x->∃u,RelV v u/\Look X.env s.heap m x u
 cell:∀x c,X.env.cells.lookup x=some c->∃v,s.heap.IsCell c v
 free:H X.env.locals=none
 freeC:∀x c,X.env.cells.lookup x=some c->H c=none
 pin:∀p∈X.pn++pins,s.heap.get? p.1=some p.2/\H p.1=none/\p.1≠X.env.locals/\p.1∉X.fs/\∀v,p.2.data≠.cell v
 hok:HOk X.prog X.w H s.heap
 len:σ.length=X.N.length
section
variable {X:Cx}{pins:ah}{σ:List (Option V)}{H H':Hp}{s:Shared}{h':Heap}
def Cx.Ok.nofr (ok:X.Ok){b:Addr}{o:Obj}(e:X.base.get? b=some o):b∉X.fs:=λhb=>by
 have:=(ok.funs.mem hb).1;rw[e] at this; cases this
theorem Inv.bs (I:Inv X pins σ H s):∀b o,X.base.get? b=some o->s.heap.get? b=some o/\H b=none:=λb o e=>
 ⟨I.base.keep b o (I.ok.bs b o e).1 (I.ok.bs b o e).2 (I.ok.nofr e) (I.ok.noex b o e),I.base.free b o (I.ok.bs b o e).1 (I.ok.bs b o e).2 (I.ok.noex b o e)⟩
def Inv.bk (I:Inv X pins σ H s):∀b o,X.base.get? b=some o->s.heap.get? b=some o:=λb o e=>(I.bs b o e).1
theorem Inv.mod (I:Inv X pins σ H s):Mod X.K X.mg X.base:=I.ok.mod
def Inv.kIn (I:Inv X pins σ H s):X.K.In s.heap:=I.ok.mod.kin.keeps I.bk
theorem Inv.lt (I:Inv X pins σ H s):X.env.locals<s.heap.objs.size:=let ⟨_,hn,_⟩:=I.loc; hn.lt
def Inv.sz (I:Inv X pins σ H s):X.s₀.heap.objs.size<=s.heap.objs.size:=bH I.ok.above (Iu I.lt)
def Inv.nofs (I:Inv X pins σ H s){a:Addr}(h:s.heap.objs.size<=a):a∉X.fs:=λhb=>by
 obtain⟨_,o,ho,_⟩:=I.ok.funs.mem hb;exact absurd (eG (bS ho) (bH I.sz h)) (HD _)
def Inv.cne (I:Inv X pins σ H s):∀x c,X.env.cells.lookup x=some c->c≠X.env.locals:=λx c e z=>by
 obtain⟨v,o,ho,hd⟩:=I.cell x c e;obtain⟨m,⟨o',es,ep,ho',hd',_⟩,_⟩:=I.loc;rw[z,ho'] at ho; cases ho; rw[hd'] at hd; cases hd
theorem Inv.funs (I:Inv X pins σ H s):s.heap.FunFrames X.base X.outer:=by
 have all:∀(l:List Env),(∀b∈frs l,b∈X.fs)->X.s₀.heap.FunFrames X.base l->s.heap.FunFrames X.base l:=by
  intro l;induction l with
  | nil=>intro _ _; trivial
  | cons env r ih=>
   intro hs hl;obtain⟨hk,⟨L,o,hf,hn,ho,hd⟩,hr⟩:=hl;have hL:L∈X.fs:=hs L (by unfold frs; rw[List.filterMap_cons,hf]; exact bQ);obtain⟨sl,e⟩:=I.base.slot L o ho (I.ok.frf L hL) hL λz=>I.ok.exfs L z hL;exact⟨hk,⟨L,_,hf,hn,e,hd⟩,ih (λb hb=>hs b (by unfold frs; rw[List.filterMap_cons,hf]; exact bN _ hb)) hr⟩
 exact all X.outer (λ_ hb=>hb) I.ok.funs
theorem Inv.stack (I:Inv X pins σ H s):s.heap.FunFrames X.base X.stack:=by
 rcases I.ok.stk with e | ⟨e,hf⟩
 .rw[e]; exact I.funs
 .rw[e];obtain⟨m,hn,_⟩:=I.loc;refine .cons (by rw[I.ok.kind]; decide) hf hn ?_ I.funs;exact Heap.get?_none_of_le (bH I.ok.bsz I.ok.above)
def Inv.stkSub (I:Inv X pins σ H s):∀b∈frs X.stack,b∈X.env.locals::X.fs:=λb hb=>by
 rcases I.ok.stk with e | ⟨e,hf⟩
 .rw[e] at hb; exact bN _ hb
 .rw[e] at hb;unfold frs at hb;rw[List.filterMap_cons,hf] at hb;exact hb
def Inv.stkFree (I:Inv X pins σ H s):∀b∈frs X.stack,H b=none:=λb hb=>by
 rcases cg (I.stkSub b hb) with e | hb
 .rw[e]; exact I.free
 .obtain⟨_,o,ho,_⟩:=I.ok.funs.mem hb;exact I.base.free b o ho (I.ok.frf b hb) λz=>I.ok.exfs b z hb
def Inv.step {g':Array GenState}{t':Nat}{d':Drawn}{ch:aq}(I:Inv X pins σ H s)
  (hch:∀b∈ch,(b∈X.ex\/X.s₀.heap.objs.size<=b)/\b≠X.env.locals/\(∀x c,X.env.cells.lookup x=some c->c≠b)/\∀p∈X.pn++pins,p.1≠b)
  (keep:∀b o,b≠X.env.locals->b∉X.fs->b∉ch->s.heap.get? b=some o->H b=none->h'.get? b=some o)
  (slot:∀b o,b≠X.env.locals->b∈X.fs->b∉ch->s.heap.get? b=some o->H b=none->∃sl,h'.get? b=some { o with slots:=sl })(free:∀b o,b∉ch->s.heap.get? b=some o->H b=none->H' b=none)
  (there:∀b o,b∉ch->s.heap.get? b=some o->∃o',h'.get? b=some o')
  (tups:∀b xs,H b=some (.tup xs)->H' b=some (.tup xs))(frzs:∀b o u,H b=some (.frz o u)->H' b=some (.frz o u))(tbls:∀b ps,H b=some (.tbl ps)->∃more,H' b=some (.tbl (ps++more)))
  (ns:∀m,s.heap.Ns X.env.locals m->h'.Ns X.env.locals m)(hok:HOk X.prog X.w H' h')(hg:AllBare g') :
  Inv X pins σ H' { s with heap:=h',gens:=g',drawn:=d',toks:=t' }:=by
 have neL:∀b o,X.s₀.heap.get? b=some o->b≠X.env.locals:=λb o e=>dk (eG (bS e) I.ok.above);have neC:∀b o,X.s₀.heap.get? b=some o->b∉X.ex->b∉ch:=λb o e hx hb=>by
  rcases (hch b hb).1 with z | z
  .exact hx z
  .exact absurd (eG (bS e) z) (HD _)
 have cellK:∀x c,X.env.cells.lookup x=some c->∀v,s.heap.IsCell c v->h'.IsCell c v:=λx c e v ⟨o,ho,hd⟩=>by
  have nch:c∉ch:=λz=>(hch c z).2.2.1 x c e rfl;by_cases hc:c∈X.fs
  .obtain⟨sl,q⟩:=slot c o (I.cne x c e) hc nch ho (I.freeC x c e);exact⟨_,q,hd⟩
  .exact⟨o,keep c o (I.cne x c e) hc nch ho (I.freeC x c e),hd⟩
 refine⟨I.ok,I.os,hg,⟨λb o e n hb hx=>?_,λb o e n hb hx=>?_,λb o e n hx=>?_,λb o e hx=>?_,λb xs e=>tups b xs (I.base.tups b xs e),λb o xs e=>frzs b o xs (I.base.frzs b o xs e),λb ps e=>?_⟩,?_,λx c e=>?_,?_,λx c e=>?_,λp hp=>?_,hok,I.len⟩
 .exact keep b o (neL b o e) hb (neC b o e hx) (I.base.keep b o e n hb hx) (I.base.free b o e n hx)
 .obtain⟨sl,e1⟩:=I.base.slot b o e n hb hx;obtain⟨sl',e2⟩:=slot b _ (neL b o e) hb (neC b o e hx) e1 (I.base.free b o e n hx);exact⟨sl',e2⟩
 .obtain⟨o',e1⟩:=I.base.there b o e hx;exact free b o' (neC b o e hx) e1 (I.base.free b o e n hx)
 .obtain⟨o',e1⟩:=I.base.there b o e hx;exact there b o' (neC b o e hx) e1
 .obtain⟨m1,e1⟩:=I.base.tbls b ps e;obtain⟨m2,e2⟩:=tbls b _ e1;exact⟨m1++m2,by rw[e2,Array.append_assoc]⟩
 .obtain⟨m,hn,hl⟩:=I.loc;refine⟨m,ns m hn,λi x v e1 e2 e3=>?_⟩;obtain⟨u,r,l⟩:=hl i x v e1 e2 e3;refine⟨u,r,?_⟩;rcases l with l | ⟨k,c,e,z⟩
  .exact .inl l
  .exact .inr ⟨k,c,e,cellK x c e _ z⟩
 .obtain⟨v,z⟩:=I.cell x c e;exact⟨v,cellK x c e v z⟩
 .obtain⟨m,⟨o,_,_,ho,_⟩,_⟩:=I.loc;exact free _ o (λz=>(hch _ z).2.1 rfl) ho I.free
 .obtain⟨v,o,ho,hd⟩:=I.cell x c e;exact free c o (λz=>(hch c z).2.2.1 x c e rfl) ho (I.freeC x c e)
 .obtain⟨e,n,ne,nf,d⟩:=I.pin p hp;have nch:p.1∉ch:=λz=>(hch p.1 z).2.2.2 p hp rfl;exact⟨keep p.1 p.2 ne nf nch e n,free p.1 p.2 nch e n,ne,nf,d⟩
def Inv.un {t':Nat}(I:Inv X pins σ H s)(u:Un X.fs [] H H' s.heap h')(hok:HOk X.prog X.w H' h'):Inv X pins σ H' { s with heap:=h',toks:=t' }:=by
 obtain⟨m,⟨o,es,ep,ho,r⟩,_⟩:=id I.loc;obtain⟨sl,hL⟩:=u.any ho I.free (by simp);exact I.step (g':=s.gens) (d':=s.drawn) (ch:=[]) (λ_ z=>nomatch z) (λb o _ hb _ e n=>u.keep b o e n hb (by simp)) (λb o _ hb _ e n=>u.slot b o e n hb (by simp)) (λb o _ e n=>u.free b o e n (by simp)) (λb o _ e=>u.there b o e (by simp)) u.tups u.frzs u.tbls (λm' hm=>by
  obtain⟨o',es',ep',ho',r'⟩:=hm;rw[ho] at ho'; cases ho';exact⟨_,es',ep',hL,r'⟩) hok I.bare
def Inv.call {g':Array GenState}{t':Nat}{d':Drawn}{ch:aq}(I:Inv X pins σ H s)(u:Un (frs X.stack) ch H H' s.heap h')(hok:HOk X.prog X.w H' h')(hg:AllBare g')
  (hch:∀b∈ch,(b∈X.ex\/X.s₀.heap.objs.size<=b)/\b≠X.env.locals/\(∀x c,X.env.cells.lookup x=some c->c≠b)/\∀p∈X.pn++pins,p.1≠b) :
  Inv X pins σ H' { s with heap:=h',gens:=g',drawn:=d',toks:=t' }:=by
 obtain⟨m,⟨o,es,ep,ho,r⟩,_⟩:=id I.loc;obtain⟨sl,hL⟩:=u.any ho I.free λz=>(hch _ z).2.1 rfl;exact I.step (ch:=ch) hch (λb o hL hb hc e n=>u.keep b o e n (λz=>(cg (I.stkSub b z)).elim hL hb) hc) (λb o _ _ hc e n=>u.any e n hc) (λb o hc e n=>u.free b o e n hc) (λb o hc e=>u.there b o e hc) u.tups u.frzs u.tbls (λm' hm=>by
  obtain⟨o',es',ep',ho',r'⟩:=hm;rw[ho] at ho'; cases ho';exact⟨_,es',ep',hL,r'⟩) hok hg
def Inv.turned {t':Nat}{it:Addr}(I:Inv X pins σ H s)(k:∀b o,b≠it->s.heap.get? b=some o->h'.get? b=some o)(hn:H it=none)(hL:it≠X.env.locals)
  (h1:it∈X.ex\/X.s₀.heap.objs.size<=it)(h2:∀x c,X.env.cells.lookup x=some c->c≠it)(h3:∀p∈X.pn++pins,p.1≠it):Inv X pins σ H { s with heap:=h',toks:=t' }:=by
 have nit:∀b u,H b=some u->b≠it:=λb u e z=>by rw[z,hn] at e; cases e
 refine I.step (g':=s.gens) (d':=s.drawn) (ch:=[it]) (λb hb=>?_) (λb o _ _ hc e _=>k b o (λz=>hc (by simp[z])) e) (λb o _ _ hc e _=>⟨o.slots,k b o (λz=>hc (by simp[z])) e⟩) (λ_ _ _ _ n=>n)
  (λb o hc e=>⟨o,k b o (λz=>hc (by simp[z])) e⟩) (λ_ _ e=>e) (λ_ _ _ e=>e) (λb ps e=>⟨#[],by rw[e]; simp⟩) (λm hm=>?_) (λb u e=>?_) I.bare
 .have e:b=it:=by simpa using hb
  subst e;exact⟨h1,hL,h2,h3⟩
 .obtain⟨o,es,ep,ho,r⟩:=hm;exact⟨o,es,ep,k _ o (Iv hL) ho,r⟩
 .refine (I.hok b u e).stay (λc v hc q=>k c v ?_ q) (λ_ q=>q) λ_ _ q=>q;rcases hc with z | z
  .rw[z]; exact nit b u e
  .exact nit c _ z
def Inv.tok (I:Inv X pins σ H s)(t:Nat):Inv X pins σ H { s with toks:=t }:=I.un (h':=s.heap) (t':=t) Un.refl I.hok
theorem Inv.kept {t':Nat}(I:Inv X pins σ H s)(k:∀b u,s.heap.get? b=some u->h'.get? b=some u):Inv X pins σ H { s with heap:=h',toks:=t' }:=I.un (Un.kept k) (I.hok.kept k)
theorem Inv.laid {a:Addr}{o:HO}{t':Nat}(I:Inv X pins σ H s)(k:∀b u,s.heap.get? b=some u->h'.get? b=some u)(hp:s.heap.objs.size<=a)(new:ObjOk X.prog X.w (upd H a o) h' a o) :
  Inv X pins σ (upd H a o) { s with heap:=h',toks:=t' }:=I.un (Un.laid k hp (I.hok.fresh hp)) (I.hok.laid k hp new)
theorem Inv.write {x e:Addr}{o:HO}{t':Nat}(I:Inv X pins σ H s)(mu:oV (H x))(he:e=x\/H e=some (.own x))(k:∀b u,b≠e->s.heap.get? b=some u->h'.get? b=some u)(heo:∃u,h'.get? e=some u)
  (new:ObjOk X.prog X.w (upd H x o) h' x o):Inv X pins σ (upd H x o) { s with heap:=h',toks:=t' }:=I.un (Un.write mu he k heo) (I.hok.write mu he k heo new)
def Inv.pins_of {pins':ah}(I:Inv X pins σ H s)(h:∀p∈pins',s.heap.get? p.1=some p.2/\H p.1=none/\p.1≠X.env.locals/\p.1∉X.fs/\∀v,p.2.data≠.cell v):Inv X pins' σ H s:=
 ⟨I.ok,I.os,I.bare,I.base,I.loc,I.cell,I.free,I.freeC,λp hp=>(dm hp).elim (λz=>I.pin p (eI _ z)) (h p),I.hok,I.len⟩
def pG {N:au}(hN:N.Nodup){i j:Nat}{x:Str}(a:N[i]? = some x)(b:N[j]? = some x):i=j:=by
 obtain⟨h1,e1⟩:=dO a;obtain⟨h2,e2⟩:=dO b;exact (List.getElem_inj hN).mp (e1.trans e2.symm)
def DW {M:Model}{A:Around}{E:Value->Shared->Prop}{i:Nat}{x:Str}{v:V}{u:Value}{Q:Unit->Shared->Prop}(I:Inv X pins σ H s)(hN:X.N.Nodup)(hi:X.N[i]? = some x)(hx:Loc X.env.scope x)(r:RelV v u)
  (h:∀s',Inv X pins (σ.set i (some v)) H s'->(∃a,Heap.SameBut a s.heap s'.heap/\(a=X.env.locals\/X.env.cells.lookup x=some a))->Q () s')(hf:X.fn x=true\/X.env.scope.names.lookup x=some .local:=by first | exact .inl rfl | exact .inr rfl | assumption):wpAny M A (storeName X.env x u) Q E s:=by
 obtain⟨m,hn,hl⟩:=id I.loc;have hcls:(X.env.scope.kind == .class||(X.env.scope.kind == .module&&X.env.locals != X.env.globals))=false:=by rw[I.ok.kind]; rfl
 have hiσ:i < σ.length:=by rw[I.len]; exact (dO hi).1
 have cne:=I.cne;have tracked:∀{a:Addr} {h':Heap},(∃o,s.heap.get? a=some o/\H a=none)->Heap.SameBut a s.heap h'->HOk X.prog X.w H h':=λ{a h'} ha hs b ob e=>by
  obtain⟨_,_,hfree⟩:=ha;refine (I.hok b ob e).stay (λc w' hc q=>(hs.2 c ?_).trans q) (λ_ q=>q) λ_ _ q=>q;rintro rfl;rcases hc with rfl | hc
  .rw[hfree] at e; cases e
  .rw[hfree] at hc; cases hc
 rcases hx with hk | hk
 .refine wpAny_storeName_local hk hn (λh' hn' hs=>?_) hcls;obtain⟨oL,_,_,hoL,_⟩:=id hn;refine h _ ⟨I.ok,I.os,I.bare,⟨λb o e n hb hx=>?_,λb o e n hb hx=>?_,I.base.free,λb o e hx=>?_,I.base.tups,I.base.frzs,I.base.tbls⟩,⟨_,hn',λj y v' e1 e2 e3=>?_⟩,λy c e=>?_,I.free,I.freeC,λp hp=>?_,tracked ⟨oL,hoL,I.free⟩ hs,by simpa using I.len⟩ ⟨_,hs,.inl rfl⟩
  .exact (hs.2 b (dk (eG (bS e) I.ok.above))).trans (I.base.keep b o e n hb hx)
  .obtain⟨sl,e1⟩:=I.base.slot b o e n hb hx;exact⟨sl,(hs.2 b (dk (eG (bS e) I.ok.above))).trans e1⟩
  .obtain⟨o',e1⟩:=I.base.there b o e hx;exact⟨o',(hs.2 b (dk (eG (bS e) I.ok.above))).trans e1⟩
  .by_cases hj:j=i
   .subst hj;rw[hi] at e1; cases e1;rw[GM hiσ] at e2;cases e2;exact⟨u,r,.inl ⟨hk,by simp⟩⟩
   .rw[GI (Iv hj)] at e2;obtain⟨u',r',q⟩:=hl j y v' e1 e2 e3;refine⟨u',r',?_⟩;rcases q with ⟨k,e⟩ | ⟨k,c,e,z⟩
    .refine .inl ⟨k,?_⟩;have:y≠x:=λe=>hj (pG hN e1 (e ▸ hi));simp[this,e]
    .exact .inr ⟨k,c,e,z.sameBut hs (cne y c e)⟩
  .obtain⟨w',z⟩:=I.cell y c e;exact⟨w',z.sameBut hs (cne y c e)⟩
  .obtain⟨e,n,ne,nf,d⟩:=I.pin p hp;exact⟨(hs.2 p.1 ne).trans e,n,ne,nf,d⟩
 .have hfn:X.fn x=true:=by
   rcases hf with z | z
   .exact z
   .rw[z] at hk; cases hk
  obtain⟨c,hc⟩:=I.ok.has x (.inl hk);obtain⟨w',z⟩:=I.cell x c hc;refine wpAny_storeName_cell I.ok.kind hk hc z (λh' hc' hs=>?_);obtain⟨oc,hoc,hocd⟩:=id z;refine h { s with heap:=h' } ⟨I.ok,I.os,I.bare,⟨λb o e n hb hx=>?_,λb o e n hb hx=>?_,I.base.free,λb o e hx=>?_,I.base.tups,I.base.frzs,I.base.tbls⟩,⟨m,hn.sameBut hs (Iv (cne x c hc)),λj y v' e1 e2 e3=>?_⟩,λy c' e=>?_,I.free,I.freeC,λp hp=>?_,tracked ⟨oc,hoc,I.freeC x c hc⟩ hs,by simpa using I.len⟩ ⟨c,hs,.inr hc⟩
  .exact (hs.2 b (dk (eG (bS e) (I.ok.cab x c hfn hc)))).trans (I.base.keep b o e n hb hx)
  .obtain⟨sl,e1⟩:=I.base.slot b o e n hb hx;exact⟨sl,(hs.2 b (dk (eG (bS e) (I.ok.cab x c hfn hc)))).trans e1⟩
  .obtain⟨o',e1⟩:=I.base.there b o e hx;exact⟨o',(hs.2 b (dk (eG (bS e) (I.ok.cab x c hfn hc)))).trans e1⟩
  .by_cases hj:j=i
   .subst hj;rw[hi] at e1; cases e1;rw[GM hiσ] at e2;cases e2;exact⟨u,r,.inr ⟨.inl hk,c,hc,hc'⟩⟩
   .rw[GI (Iv hj)] at e2;obtain⟨u',r',q⟩:=hl j y v' e1 e2 e3;refine⟨u',r',?_⟩;rcases q with q | ⟨k,c',e,z'⟩
    .exact .inl q
    .refine .inr ⟨k,c',e,z'.sameBut hs ?_⟩;rintro rfl;exact hj (pG hN e1 (I.ok.inj _ _ _ e hc ▸ hi))
  .by_cases hcc:c'=c
   .subst hcc; exact⟨_,hc'⟩
   .obtain⟨w2,z2⟩:=I.cell y c' e;exact⟨w2,z2.sameBut hs hcc⟩
  .obtain⟨e,n,ne,nf,d⟩:=I.pin p hp;refine⟨(hs.2 p.1 ?_).trans e,n,ne,nf,d⟩;intro q;rw[q,hoc] at e;have q':oc=p.2:=cO e;exact d w' (by rw[<-q']; exact hocd)
def uZ {M:Model}{A:Around}{E:Value->Shared->Prop}{i:Nat}{x:Str}{v:V}{u:Value}{Q:Unit->Shared->Prop}(I:Inv X pins σ H s)(hN:X.N.Nodup)(hi:X.N[i]? = some x)(hx:Loc X.env.scope x)(r:RelV v u)
  (h:∀s',Inv X pins (σ.set i (some v)) H s'->Q () s')(hf:X.fn x=true\/X.env.scope.names.lookup x=some .local:=by first | exact .inl rfl | exact .inr rfl | assumption):wpAny M A (storeName X.env x u) Q E s:=
 DW I hN hi hx r (λs' I' _=>h s' I') hf
def Inv.call' {s':Shared}{ch:aq}(I:Inv X pins σ H s)(ho:s'.os=s.os)(u:Un (frs X.stack) ch H H' s.heap s'.heap)(hok:HOk X.prog X.w H' s'.heap)(hg:AllBare s'.gens)
  (hch:∀b∈ch,(b∈X.ex\/X.s₀.heap.objs.size<=b)/\b≠X.env.locals/\(∀x c,X.env.cells.lookup x=some c->c≠b)/\∀p∈X.pn++pins,p.1≠b):Inv X pins σ H' s':=by
 obtain⟨h',g',d',t',o'⟩:=s';have e:o'=s.os:=ho;subst e;exact I.call (g':=g') (t':=t') (d':=d') u hok hg hch
end
abbrev XK:=Value->aF->Hp->Prop
noncomputable abbrev St:=List (Option V)
abbrev VK:=V->Hp->Prop
abbrev TE:=St->Hp->VK->Prop
abbrev TT:=St->Hp->(Bool->Hp->Prop)->Prop
abbrev TA:=St->Hp->(aw->Hp->Prop)->Prop
structure Ends where
 nx:St->Hp->Prop
 rt:VK
 bk:St->Hp->Prop:=λ_ _=>False
 ct:St->Hp->Prop:=λ_ _=>False
abbrev TS:=Ends->St->Hp->Prop
def EP (X:Cx)(pins:ah)(σ:St)(Q:VK)(u:Value)(s':Shared):Prop:=∃v H',Inv X pins σ H' s'/\RelV v u/\Q v H'
def TP (X:Cx)(pins:ah)(σ:St)(Q:Bool->Hp->Prop)(b:Bool)(s':Shared):Prop:=∃H',Inv X pins σ H' s'/\Q b H'
def AP (X:Cx)(pins:ah)(σ:St)(Q:aw->Hp->Prop)(us:ar)(s':Shared):Prop:=∃vs H',Inv X pins σ H' s'/\Vals vs us/\Q vs H'
def SP (X:Cx)(pins:ah)(D:Ends)(f:Flow)(s':Shared):Prop:=
 match f with
 | .next=>∃σ' H',Inv X pins σ' H' s'/\D.nx σ' H'
 | .brk=>∃σ' H',Inv X pins σ' H' s'/\D.bk σ' H'
 | .cont=>∃σ' H',Inv X pins σ' H' s'/\D.ct σ' H'
 | .ret u=>∃v σ' H',Inv X pins σ' H' s'/\RelV v u/\D.rt v H'
def PE (X:Cx)(e:Expr)(t:TE):Prop:=
 ∀(pins:ah) (s:Shared) (σ:St) (H:Hp) (Q:VK),Inv X pins σ H s->t σ H Q->wpAny (model X.prog X.w) X.A (eval e X.env) (EP X pins σ Q) X.xe s
def PT (X:Cx)(e:Expr)(t:TT):Prop:=
 ∀(pins:ah) (s:Shared) (σ:St) (H:Hp) (Q:Bool->Hp->Prop),Inv X pins σ H s->t σ H Q->wpAny (model X.prog X.w) X.A (isTrue e X.env (eval e X.env)) (TP X pins σ Q) X.xe s
def PW (X:Cx)(e:Expr)(t:TT):Prop:=
 ∀(whole:Sem Value) (pins:ah) (s:Shared) (σ:St) (H:Hp) (Q:Bool->Hp->Prop),Inv X pins σ H s->t σ H Q->wpAny (model X.prog X.w) X.A (isTrue e X.env whole) (TP X pins σ Q) X.xe s
def PW.pt {X:Cx}{e:Expr}{t:TT}(h:PW X e t):PT X e t:=h _
def PA (X:Cx)(es:av)(t:TA):Prop:=
 ∀(pos:Pos) (pins:ah) (s:Shared) (σ:St) (H:Hp) (Q:aw->Hp->Prop),Inv X pins σ H s->t σ H Q->wpAny (model X.prog X.w) X.A (spliced (backTo pos (starEach es X.env))) (AP X pins σ Q) X.xe s
def PS (X:Cx)(st:Stmt)(t:TS):Prop:=
 ∀(pins:ah) (s:Shared) (σ:St) (H:Hp) (D:Ends),Inv X pins σ H s->t D σ H->wpAny (model X.prog X.w) X.A (exec st X.env) (SP X pins D) X.xe s
def PSs (X:Cx)(st:aH)(t:TS):Prop:=
 ∀(pins:ah) (s:Shared) (σ:St) (H:Hp) (D:Ends),Inv X pins σ H s->t D σ H->wpAny (model X.prog X.w) X.A (execs st X.env) (SP X pins D) X.xe s
def bi {α:Type}{t:Sem α}{Q Q':α->Shared->Prop}{M:Model}{A:Around}{E:Value->Shared->Prop}{s:Shared}(h:wpAny M A t Q E s)(hQ:∀a s,Q a s->Q' a s):wpAny M A t Q' E s:=Ho h hQ λ_ _ x=>x
end L2
namespace L2
open PySem PySem.Spec PyProof.Rows
section
variable {X:Cx}
def cW (i:Nat):TE:=λσ H Q=>∃v,σ[i]? = some (some v)/\Q v H
def tC (v:V):TE:=λ_ H Q=>Q v H
def qY {i:Nat}{x:Str}{pos:Pos}(hN:X.N[i]? = some x)(hv:qP X.env.scope x)(hd:(x == ("__debug__" : Str))=false:=by decide)(hcd:(x == ("__classdict__" : Str))=false:=by decide):PE X (.Name x pos) (cW i):=by
 intro pins s σ H Q I h;obtain⟨v,e,h⟩:=h;obtain⟨m,hn,hl⟩:=I.loc;obtain⟨u,r,l⟩:=hl i x v hN e hv;have fin:EP X pins σ Q u s:=⟨v,H,I,r,h⟩
 rcases l with ⟨hk,hm⟩ | ⟨hk,c,hc,hcell⟩
 .exact wpAny_Name (wpAny_loadName_local I.ok.kind hk hn hm fin) hd
 .rcases hk with hk | hk
  .exact wpAny_Name (wpAny_loadName_cell I.ok.kind hk hc hcell fin) hd
  .exact wpAny_Name (wpAny_loadName_free I.ok.kind hk hc hcell fin hcd) hd
def vL {i j pos}:PE X (.Constant (.int i) j pos) (tC (.int i)):=λ_ _ _ H _ I h=>wpAny_Constant_int ⟨.int i,H,I.tok _,⟨_,rfl⟩,h⟩
def yI {b j pos}:PE X (.Constant (.bool b) j pos) (tC (.bl b)):=λ_ _ _ H _ I h=>Constant_bool ⟨.bl b,H,I,rfl,h⟩
def Cq {j pos}:PE X (.Constant .none j pos) (tC .non):=λ_ _ _ H _ I h=>Constant_none ⟨.non,H,I,rfl,h⟩
def vD {x j pos}:PE X (.Constant (.str x) j pos) (tC (.str x)):=λ_ _ _ H _ I h=>Calls.Constant_str ⟨.str x,H,I.tok _,⟨_,rfl⟩,h⟩
def Gl (X:Cx)(x:Str):Prop:=X.env.kindOf x=some .globalImplicit
def lD {E:Value->Shared->Prop}{pins:ah}{s:Shared}{σ:St}{H:Hp}{x:Str}{u:Value}{pos:Pos}{Q:Value->Shared->Prop}(I:Inv X pins σ H s)(hg:Gl X x)(hm:X.mg x=some u)(h:Q u s)
  (hd:(x == ("__debug__" : Str))=false:=by decide):wpAny (model X.prog X.w) X.A (eval (.Name x pos) X.env) Q E s:=
 Calls.Name_function_global I.ok.kind hg (Calls.loadGlobal_global (by rw[I.ok.glob]; exact I.mod.glob.keeps I.bk) hm h) hd
def gr {E:Value->Shared->Prop}{pins:ah}{s:Shared}{σ:St}{H:Hp}{x:Str}{u:Value}{pos:Pos}{Q:Value->Shared->Prop}(I:Inv X pins σ H s)(hg:Gl X x)(hm:X.mg x=none)(hv:bootBuiltins x=some u)(h:Q u s)
  (hn:x ≠ "__name__":=by decide)(hd:(x == ("__debug__" : Str))=false:=by decide):wpAny (model X.prog X.w) X.A (eval (.Name x pos) X.env) Q E s:=by
 obtain⟨mb,h1,h2⟩:=I.mod.blt;exact Calls.Name_function_global I.ok.kind hg (Calls.loadGlobal_builtin (by rw[I.ok.glob]; exact I.mod.glob.keeps I.bk) hm (by rw[I.ok.blt]; exact h1.keeps I.bk) ((h2 x hn).trans hv) h) hd
def u9 {x:Str}{v:V}{u:Value}{pos:Pos}(hg:Gl X x)(hm:X.mg x=some u)(r:RelV v u)(hd:(x == ("__debug__" : Str))=false:=by decide):PE X (.Name x pos) (tC v):=
 λ_ _ _ H _ I h=>lD I hg hm ⟨v,H,I,r,h⟩ hd
def yK {x:Str}{v:V}{u:Value}{pos:Pos}(hg:Gl X x)(hm:X.mg x=none)(hv:bootBuiltins x=some u)(r:RelV v u)(hn:x ≠ "__name__":=by decide)(hd:(x == ("__debug__" : Str))=false:=by decide):PE X (.Name x pos) (tC v):=
 λ_ _ _ H _ I h=>gr I hg hm hv ⟨v,H,I,r,h⟩ hn hd
variable {a b:Expr}{ta tb:TE}{pos:Pos}
def PC (X:Cx)(op:CmpOp)(a b:Expr)(t:TE):Prop:=
 ∀(pins:ah) (s:Shared) (σ:St) (H:Hp) (Q:VK),Inv X pins σ H s->t σ H Q ->
  wpAny (model X.prog X.w) X.A (eval a X.env) (λv s₁=>wpAny (model X.prog X.w) X.A (eval b X.env) (λu s₂=>wpAny (model X.prog X.w) X.A (compareOp op v u) (EP X pins σ Q) X.xe s₂) X.xe s₁) X.xe s
def vG (b:Expr){op:CmpOp}(h:op≠.In)(h2:op≠.NotIn):behindInMarks op b=false:=by
 have e1:(op == CmpOp.In)=false:=by cases op <;> first | rfl | exact absurd rfl h
 have e2:(op == CmpOp.NotIn)=false:=by cases op <;> first | rfl | exact absurd rfl h2
 cases b <;> simp[behindInMarks,e1,e2]
def sO (ta:TE):TE:=λσ H Q=>ta σ H λx H1=>Q (.bl (decide (x=.non))) H1
def mK (ta:TE):TE:=λσ H Q=>ta σ H λx H1=>Q (.bl (!decide (x=.non))) H1
def RelV.none_iff {x:V}{v:Value}(r:RelV x v):(v == Value.none)=decide (x=.non):=by
 cases x with
 | non=>cases r; rfl
 | bl _=>cases r; rfl
 | int _=>obtain⟨t,rfl⟩:=r; rfl
 | str _=>obtain⟨t,rfl⟩:=r; rfl
 | byt _=>obtain⟨t,rfl⟩:=r; rfl
 | flt _=>obtain⟨t,rfl⟩:=r; rfl
 | ref _=>cases r; rfl
 | ty _=>cases r; rfl
def tN {j pos'}(ha:PE X a ta):PC X .Is a (.Constant .none j pos') (sO ta):=by
 intro pins s σ H Q I h;refine bi (ha pins s σ H _ I h) λv s1 hZz=>?_;obtain⟨x,H1,I1,r1,q1⟩:=hZz;exact Constant_none (is_none_gen ⟨.bl _,H1,I1,by rw[r1.none_iff]; rfl,q1⟩)
def v3 {j pos'}(ha:PE X a ta):PC X .IsNot a (.Constant .none j pos') (mK ta):=by
 intro pins s σ H Q I h;refine bi (ha pins s σ H _ I h) λv s1 hZz=>?_;obtain⟨x,H1,I1,r1,q1⟩:=hZz;exact Constant_none (isnot_none_gen ⟨.bl _,H1,I1,by rw[r1.none_iff]; rfl,q1⟩)
def tB (t:TE):TT:=λσ H Q=>t σ H λx H1=>∃c,x=.bl c/\Q c H1
def tZ {op:CmpOp}{t:TE}(h:PC X op a b t)(h1:behindInMarks op b=false:=by first | exact vG _ (by decide) (by decide) | rfl):PE X (.Compare a [op] [b] pos) t:=λpins s σ H Q I hw=>wpAny_Compare1 (h pins s σ H Q I hw) h1
def vA {op:CmpOp}{t:TE}(h:PC X op a b t)(h1:behindInMarks op b=false:=by first | exact vG _ (by decide) (by decide) | rfl):PT X (.Compare a [op] [b] pos) (tB t):=by
 intro pins s σ H Q I hw;refine wpAny_isTrue_Compare1 (bi (h pins s σ H _ I hw) λv s1 h1=>bi h1 λu s2 h2=>bi h2 λc s3 hZz=>?_) h1;obtain⟨x,H1,I1,r1,q1⟩:=hZz;obtain⟨d,rfl,q⟩:=q1;cases r1;exact G6 ⟨H1,I1,q⟩
def DO {e:Expr}{t:TE}(h:PE X e t)(he:∀whole,isTrue e X.env whole=(do let v <-whole; standAt e.pos; holding [v] (truthy v)):=by intro _; rfl):PT X e (tB t):=by
 intro pins s σ H Q I hw;refine isTrue_plain (bi (h pins s σ H _ I hw) λv s1 hZz=>?_) (he _);obtain⟨x,H1,I1,r1,q1⟩:=hZz;obtain⟨d,rfl,q⟩:=q1;cases r1;exact G6 ⟨H1,I1,q⟩
variable {tA tB':TT}{rest:av}
def jx (t u:TT):TT:=λσ H Q=>t σ H λc H1=>if c=true then u σ H1 Q else Q false H1
def sd (t u:TT):TT:=λσ H Q=>t σ H λc H1=>if c=true then Q true H1 else u σ H1 Q
def kc (t:TT):TT:=λσ H Q=>t σ H λc H1=>Q (!c) H1
def BP (ha:PT X a tA):PW X (.BoolOp .And [a] pos) tA:=by
 intro wh pins s σ H Q I h;refine isTrue_and (bi (ha pins s σ H Q I h) λc s1 e=>?_);cases c with
 | true=>exact isTrue_and_nil e
 | false=>exact e
def BG (ha:PT X a tA):PW X (.BoolOp .Or [a] pos) tA:=by
 intro wh pins s σ H Q I h;refine isTrue_or (bi (ha pins s σ H Q I h) λc s1 e=>?_);cases c with
 | false=>exact isTrue_or_nil e
 | true=>exact e
def DU (ha:PT X a tA)(hb:PW X (.BoolOp .And (b::rest) pos) tB'):PW X (.BoolOp .And (a::b::rest) pos) (jx tA tB'):=by
 intro wh pins s σ H Q I h;refine isTrue_and (bi (ha pins s σ H _ I h) λc s1 hZz=>?_);obtain⟨H1,I1,q1⟩:=hZz;cases c with
 | true=>exact hb wh pins s1 σ H1 Q I1 q1
 | false=>exact⟨H1,I1,q1⟩
def Gi (ha:PT X a tA)(hb:PW X (.BoolOp .Or (b::rest) pos) tB'):PW X (.BoolOp .Or (a::b::rest) pos) (sd tA tB'):=by
 intro wh pins s σ H Q I h;refine isTrue_or (bi (ha pins s σ H _ I h) λc s1 hZz=>?_);obtain⟨H1,I1,q1⟩:=hZz;cases c with
 | true=>exact⟨H1,I1,q1⟩
 | false=>exact hb wh pins s1 σ H1 Q I1 q1
def C9 (ha:PT X a tA):PT X (.UnaryOp .Not a pos) (kc tA):=by
 intro pins s σ H Q I h;exact isTrue_not (ha pins s σ H (λc H1=>Q (!c) H1) I h)
def gJ (ta tb:TE):TE:=λσ H Q=>ta σ H λx H1=>∃c,x=.bl c/\if c=true then tb σ H1 Q else Q (.bl false) H1
def kz (ta tb:TE):TE:=λσ H Q=>ta σ H λx H1=>∃c,x=.bl c/\if c=true then Q (.bl true) H1 else tb σ H1 Q
def mZ (ta:TE):TE:=λσ H Q=>ta σ H λx H1=>∃c,x=.bl c/\Q (.bl (!c)) H1
def zw {op}{t:TE}(h:PE X a t):PE X (.BoolOp op [a] pos) t:=λpins s σ H Q I hw=>BoolOp_one (h pins s σ H Q I hw)
def ES (ha:PE X a ta)(hb:PE X (.BoolOp .And (b::rest) pos) tb):PE X (.BoolOp .And (a::b::rest) pos) (gJ ta tb):=by
 intro pins s σ H Q I h;refine BoolOp_and (bi (ha pins s σ H _ I h) λv s1 hZz=>?_);obtain⟨x,H1,I1,r1,q1⟩:=hZz;obtain⟨c,rfl,q1⟩:=q1;cases r1;refine G6 ?_;cases c with
 | true=>exact hb pins s1 σ H1 Q I1 q1
 | false=>exact⟨.bl false,H1,I1,rfl,q1⟩
def BR (ha:PE X a ta)(hb:PE X (.BoolOp .Or (b::rest) pos) tb):PE X (.BoolOp .Or (a::b::rest) pos) (kz ta tb):=by
 intro pins s σ H Q I h;refine BoolOp_or (bi (ha pins s σ H _ I h) λv s1 hZz=>?_);obtain⟨x,H1,I1,r1,q1⟩:=hZz;obtain⟨c,rfl,q1⟩:=q1;cases r1;refine G6 ?_;cases c with
 | false=>exact hb pins s1 σ H1 Q I1 q1
 | true=>exact⟨.bl true,H1,I1,rfl,q1⟩
def xP (ha:PE X a ta):PE X (.UnaryOp .Not a pos) (mZ ta):=by
 intro pins s σ H Q I h;refine UnaryOp_ (bi (ha pins s σ H _ I h) λv s1 hZz=>?_);obtain⟨x,H1,I1,r1,q1⟩:=hZz;obtain⟨c,rfl,q1⟩:=q1;cases r1;exact not_of (G6 ⟨.bl (!c),H1,I1,rfl,q1⟩)
end
end L2
namespace L2
open PySem PySem.Spec PyProof.Rows
def SqL (K:bq)(H:Hp)(a:Addr)(xs:aw):Prop:=
 Rd H a (.lst xs) \/
  ∃(o:Obj) (its:aC) (n:Nat),K.lookup a=some o/\o.cls=.type "list" /\ o.dict=none/\o.data=.seq its n/\its.size<=sizeLine/\Vals xs its.toList
def SqT (K:bq)(H:Hp)(a:Addr)(xs:aw):Prop:=
 Rd H a (.tup xs) \/
  ∃(o:Obj) (its:aC) (n:Nat),K.lookup a=some o/\o.cls=.type "tuple" /\ o.dict=none/\o.data=.seq its n/\its.size<=sizeLine/\Vals xs its.toList
noncomputable def sk:Value->Option V
 | .none=>some .non
 | .bool b=>some (.bl b)
 | .int i _=>some (.int i)
 | .str x _=>some (.str x)
 | .bytes b _=>some (.byt b)
 | .float b _=>some (.flt b)
 | .ref a=>some (.ref a)
 | .type n=>some (.ty n)
 | _=>none
def RelV.abs {x:V}{u:Value}(r:RelV x u):sk u=some x:=by
 cases x with
 | non=>cases r; rfl
 | bl _=>cases r; rfl
 | int _=>obtain⟨t,rfl⟩:=r; rfl
 | str _=>obtain⟨t,rfl⟩:=r; rfl
 | byt _=>obtain⟨t,rfl⟩:=r; rfl
 | flt _=>obtain⟨t,rfl⟩:=r; rfl
 | ref _=>cases r; rfl
 | ty _=>cases r; rfl
theorem RelV.inj {x y:V}{u:Value}(r:RelV x u)(q:RelV y u):x=y:=cO (r.abs.symm.trans q.abs)
theorem Vals.inj:∀{xs ys:aw} {us:ar},Vals xs us->Vals ys us->xs=ys
 | _,_,_,.nil,.nil=>rfl
 | _,_,_,.cons r t,.cons r' t'=>by rw[r.inj r',Vals.inj t t']
section
variable {X:Cx}{pins:ah}{σ:St}{H:Hp}{s:Shared}{a:Addr}{xs ys:aw}
def SqT.of {K:bq}(h:H a=some (.tup xs)):SqT K H a xs:=.inl (.inl h)
def Inv.list (I:Inv X pins σ H s)(h:SqL X.K H a xs):∃its:ar,Vals xs its/\PlainL s.heap a its.toArray/\xs.length<=sizeLine:=by
 rcases h with h | ⟨o,its,n,hk,hc,hd,hs,hz,r⟩
 .obtain⟨z,its,n,r,e⟩:=h.ok I.hok;exact⟨its,r,⟨_,n,e,rfl,rfl,rfl⟩,z⟩
 .refine⟨its.toList,r,⟨o,n,I.kIn a o hk,hc,hd,by simpa using hs⟩,?_⟩;have e:=r.length;simp only[Array.length_toList] at e;omega
def Inv.tupN (I:Inv X pins σ H s)(h:SqT X.K H a xs):∃its:ar,Vals xs its/\TupN s.heap a its.toArray/\xs.length<=sizeLine:=by
 rcases h with h | ⟨o,its,n,hk,hc,hn,hs,hz,r⟩
 .obtain⟨z,its,r,p⟩:=h.ok I.hok;exact⟨its,r,p,z⟩
 .refine⟨its.toList,r,⟨o,I.kIn a o hk,hc,⟨n,by simpa using hs⟩,hn⟩,?_⟩;have e:=r.length;simp only[Array.length_toList] at e;omega
def Inv.tuple (I:Inv X pins σ H s)(h:SqT X.K H a xs):∃its:ar,Vals xs its/\IsTup s.heap a its.toArray/\xs.length<=sizeLine:=
 let ⟨its,r,p,z⟩:=I.tupN h
 ⟨its,r,p.tup,z⟩
def Inv.list_inj (I:Inv X pins σ H s)(h:SqL X.K H a xs)(h':SqL X.K H a ys):xs=ys:=by
 obtain⟨its,r,⟨o,n,e,_,_,d⟩,_⟩:=I.list h;obtain⟨its',r',⟨o',n',e',_,_,d'⟩,_⟩:=I.list h';rw[e] at e'; cases e';rw[d] at d';injection d' with d1 _;have:its=its':=by simpa using congrArg Array.toList d1
 subst this;exact r.inj r'
def Inv.tuple_inj (I:Inv X pins σ H s)(h:SqT X.K H a xs)(h':SqT X.K H a ys):xs=ys:=by
 obtain⟨its,r,⟨o,e,_,n,d⟩,_⟩:=I.tuple h;obtain⟨its',r',⟨o',e',_,n',d'⟩,_⟩:=I.tuple h';rw[e] at e'; cases e';rw[d] at d';injection d' with d1 _;have:its=its':=by simpa using congrArg Array.toList d1
 subst this;exact r.inj r'
end
noncomputable abbrev Cx.wish (X:Cx)(E:Value->Shared->Prop):Cx:={ X with xe:=E }
noncomputable abbrev Cx.nox (X:Cx):Cx:=X.wish λ_ _=>False
theorem Cx.Ok.wish {X:Cx}(ok:X.Ok)(E:Value->Shared->Prop):(X.wish E).Ok:=
 ⟨ok.mod,ok.kind,ok.glob,ok.blt,ok.above,ok.inj,ok.has,ok.cab,ok.hd,ok.frames,ok.stk,ok.exf,ok.bs,ok.bsz,ok.noex,ok.exfs,ok.funs,ok.frf⟩
def Cx.Ok.unwish {X:Cx}{E:Value->Shared->Prop}(ok:(X.wish E).Ok):X.Ok:=
 ⟨ok.mod,ok.kind,ok.glob,ok.blt,ok.above,ok.inj,ok.has,ok.cab,ok.hd,ok.frames,ok.stk,ok.exf,ok.bs,ok.bsz,ok.noex,ok.exfs,ok.funs,ok.frf⟩
section
variable {X:Cx}{pins:ah}{σ:St}{H:Hp}{s:Shared}{E:Value->Shared->Prop}
theorem Inv.wish (I:Inv X pins σ H s)(E:Value->Shared->Prop):Inv (X.wish E) pins σ H s:=⟨I.ok.wish E,I.os,I.bare,I.base,I.loc,I.cell,I.free,I.freeC,I.pin,I.hok,I.len⟩
theorem Inv.unwish (I:Inv (X.wish E) pins σ H s):Inv X pins σ H s:=⟨I.ok.unwish,I.os,I.bare,I.base,I.loc,I.cell,I.free,I.freeC,I.pin,I.hok,I.len⟩
theorem PE.nox {e:Expr}{t:TE}(h:PE X.nox e t):PE X e t:=λpins s σ H Q I hw=>
 Ho (h pins s σ H Q (I.wish _) hw) (λ_ _ ⟨v,H',I',r,q⟩=>⟨v,H',I'.unwish,r,q⟩) λ_ _ z=>False.elim z
end
section
variable {X:Cx}{st:Stmt}{rest:aH}{t u:TS}{e:Expr}{te:TE}{pos:Pos}
def mG:TS:=λD σ H=>D.nx σ H
def rZ (t u:TS):TS:=λD σ H=>t { D with nx:=u D } σ H
def EM:PSs X [] mG:=λ_ _ σ H _ I h=>wpAny_execs_nil ⟨σ,H,I,h⟩
def Gk (h1:PS X st t)(h2:PSs X rest u):PSs X (st::rest) (rZ t u):=by
 intro pins s σ H D I h;refine wpAny_execs_cons (bi (h1 pins s σ H { D with nx:=u D } I h) λf s1 q=>?_);cases f with
 | next=>
  obtain⟨σ',H',I',q⟩:=q;exact h2 pins s1 σ' H' D I' q
 | ret v=>exact q
 | brk=>exact q
 | cont=>exact q
def Inv.quiet {pins:ah}{σ:St}{H:Hp}{s:Shared}(I:Inv X pins σ H s):interactive X.env=false:=by simp[interactive,I.ok.kind]
def cY (te:TE):TS:=λD σ H=>te σ H λ_ H1=>D.nx σ H1
def nF (he:PE X e te)(hs:swapsWith e none pos.line X.env=pure false:=by rfl):PS X (.Expr e pos) (cY te):=by
 intro pins s σ H D I h;exact wpAny_Expr_any (bi (he pins s σ H _ I h) λv s1 ⟨x,H1,I1,r1,q1⟩=>⟨σ,H1,I1,q1⟩) I.quiet hs
def nu (te:TE):TS:=λD σ H=>te σ H D.rt
def qZ (he:PE X e te):PS X (.Return (some e) pos) (nu te):=by
 intro pins s σ H D I h;exact wpAny_Return_some (bi (he pins s σ H _ I h) λv s1 ⟨x,H1,I1,r1,q1⟩=>⟨x,σ,H1,I1,r1,q1⟩)
def lH:TS:=λD _ H=>D.rt .non H
def Be:PS X (.Return none pos) lH:=λ_ _ σ H _ I h=>wpAny_Return_none ⟨.non,σ,H,I,rfl,h⟩
def kr (c:TT)(t u:TS):TS:=λD σ H=>c σ H λb H1=>if b=true then t D σ H1 else u D σ H1
def FR {c:Expr}{a b:aH}{tc:TT}(hc:PT X c tc)(ha:PSs X a t)(hb:PSs X b u):PS X (.If c a b pos) (kr tc t u):=by
 intro pins s σ H D I h;refine wpAny_If (bi (hc pins s σ H _ I h) λd s1 hZz=>?_);obtain⟨H1,I1,q1⟩:=hZz;cases d with
 | true=>exact ha pins s1 σ H1 D I1 q1
 | false=>exact hb pins s1 σ H1 D I1 q1
end
abbrev TG:=V->St->Hp->(St->Hp->Prop)->Prop
abbrev gR:=aw->St->Hp->(St->Hp->Prop)->Prop
def PG (X:Cx)(target:Expr)(t:TG):Prop:=
 ∀(pins:ah) (s:Shared) (σ:St) (H:Hp) (v:V) (u:Value) (Q:St->Hp->Prop),Inv X pins σ H s->RelV v u->t v σ H Q ->
  wpAny (model X.prog X.w) X.A (assign target X.env u) (λ_ s'=>∃σ' H',Inv X pins σ' H' s'/\Q σ' H') X.xe s
def k9 (X:Cx)(ts:av)(t:gR):Prop:=
 ∀(pins:ah) (s:Shared) (σ:St) (H:Hp) (vs:aw) (us:ar) (Q:St->Hp->Prop),Inv X pins σ H s->Vals vs us->t vs σ H Q ->
  wpAny (model X.prog X.w) X.A (assignInOrder ((assignEach ts X.env).map (·.2)) us) (λ_ s'=>∃σ' H',Inv X pins σ' H' s'/\Q σ' H') X.xe s
noncomputable abbrev r6:=V->V->V->Hp->(Hp->Prop)->Prop
def si (X:Cx)(t:r6):Prop:=
 ∀(pins:ah) (s:Shared) (σ:St) (H:Hp) (o i v:V) (ov iv u:Value) (Q:Hp->Prop),Inv X pins σ H s->RelV o ov->RelV i iv->RelV v u->t o i v H Q ->
  wpAny (model X.prog X.w) X.A (setItem ov iv u) (λ_ s'=>∃H',Inv X pins σ H' s'/\Q H') X.xe s
section
variable {X:Cx}{pos:Pos}
def eZ (i:Nat):TG:=λv σ H Q=>Q (σ.set i (some v)) H
def sG {i:Nat}{x:Str}(hN:X.N.Nodup)(hi:X.N[i]? = some x)(hx:Loc X.env.scope x)(hf:X.fn x=true\/X.env.scope.names.lookup x=some .local:=by first | exact .inl rfl | exact .inr rfl | assumption):PG X (.Name x pos) (eZ i):=by
 intro pins s σ H v u Q I r h;exact wpAny_assign_Name (uZ I hN hi hx r (λs' I'=>⟨_,H,I',h⟩) hf)
def mY:gR:=λvs σ H Q=>vs=[]/\Q σ H
def jm (t:TG)(u:gR):gR:=λvs σ H Q=>∃v r,vs=v::r/\t v σ H λσ' H'=>u r σ' H' Q
def xO:k9 X [] mY:=by
 intro pins s σ H vs us Q I r h;obtain⟨e,h⟩:=h;subst e;cases r;exact assignInOrder_nil ⟨σ,H,I,h⟩
def DD {e:Expr}{es:av}{t:TG}{u:gR}(h1:PG X e t)(h2:k9 X es u)
  (hs:(assignEach (e::es) X.env).map (·.2)=assign e X.env::(assignEach es X.env).map (·.2):=by rfl):k9 X (e::es) (jm t u):=by
 intro pins s σ H vs us Q I r h;obtain⟨v,vr,e1,h⟩:=h;subst e1;cases r with
 | cons r rr=>
  rw[hs];refine assignInOrder_cons (bi (h1 pins s σ H _ _ _ I r h) λ_ s1 hZz=>?_);obtain⟨σ1,H1,I1,q1⟩:=hZz;exact h2 pins s1 σ1 H1 _ _ Q I1 rr q1
def mW (K:bq)(n:Nat)(t:gR):TG:=λv σ H Q=>∃a xs,v=.ref a/\SqT K H a xs/\xs.length=n/\t xs σ H Q
def FJ {es:av}{k:Nat}{t:gR}{n:Nat}(hc:X.calm=true)(h:k9 X es t)
  (hn:(assignEach es X.env).length=n:=by rfl)(hst:(assignEach es X.env).findIdx? (·.1)=none:=by rfl):PG X (.Tuple es k pos) (mW X.K n t):=by
 intro pins s σ H v u Q I r hw;obtain⟨a,xs,e1,hq,hl,hw⟩:=hw;subst e1;cases r;obtain⟨its,rv,ht,hz⟩:=I.tuple hq;refine assign_Tuple_tuple (I.ok.hd hc) ht (by simp[hn,<-hl,rv.length]) hst λh' hx=>?_;have I1:Inv X pins σ H { s with heap:=h' }:=I.kept (t':=s.toks) λb o e=>hx b o (dk (bS e)) e;exact h pins _ σ H xs _ Q I1 (by simpa using rv) hw
def jY (te:TE)(g:TG):TS:=λD σ H=>te σ H λx H1=>g x σ H1 D.nx
def rl {tg e:Expr}{te:TE}{g:TG}(he:PE X e te)(hg:PG X tg g)(hs:swapsWithSole [tg] e pos.line X.env=pure false:=by rfl)(hw:swappedStores [tg] e X.env=pure none:=by rfl)
  (h1:(assignEach [tg] X.env).map (·.2)=[assign tg X.env]:=by rfl):PS X (.Assign [tg] e pos) (jY te g):=by
 intro pins s σ H D I h;refine wpAny_Assign_stores (bi (he pins s σ H _ I h) λv s1 hZz=>?_) hs hw;obtain⟨x,H1,I1,r1,q1⟩:=hZz;rw[h1];exact bi (hg pins s1 σ H1 x v _ I1 r1 q1) λ_ s2 q=>q
def um {i:Nat}{x:Str}{e:Expr}{te:TE}{pos':Pos}(hN:X.N.Nodup)(hi:X.N[i]? = some x)(hx:Loc X.env.scope x)(he:PE X e te)(hs:swapsWith e (some (.Name x pos')) pos.line X.env=pure false:=by rfl)(hf:X.fn x=true\/X.env.scope.names.lookup x=some .local:=by first | exact .inl rfl | exact .inr rfl | assumption) :
  PS X (.Assign [.Name x pos'] e pos) (jY te (eZ i)):=by
 intro pins s σ H D I h;refine wpAny_Assign_Name (bi (he pins s σ H _ I h) λv s1 hZz=>?_) hs;obtain⟨y,H1,I1,r1,q1⟩:=hZz;exact uZ I1 hN hi hx r1 (λs2 I2=>⟨_,H1,I2,q1⟩) hf
end
section
variable {X:Cx}{pos:Pos}
def ft (c:TT)(tb:TS):TS:=λD σ H=>∃W:Nat->St->Hp->Prop,(∃m,W m σ H)/\∀m σ H,W m σ H ->
 c σ H λb H1=>if b=true then ∃N:St->Hp->Prop,(∀σ' H',N σ' H'->∃m',m'<m/\W m' σ' H')/\tb { D with nx:=N,ct:=N,bk:=D.nx } σ H1 else D.nx σ H1
def ya {c:Expr}{body:aH}{tc:TT}{tb:TS}(hp:PassesOwn (model X.prog X.w) X.A X.env X.xe)(hc:PT X c tc)(hb:PSs X body tb):PS X (.While c body [] pos) (ft tc tb):=by
 intro pins s σ H D I h;obtain⟨W,⟨m0,w0⟩,turn⟩:=h;refine wpAny_While (codeAny_whileLoop (λn s'=>∃σ' H',Inv X pins σ' H' s'/\W n σ' H') ?_ m0 ⟨σ,H,I,w0⟩);rintro n s1 ⟨σ1,H1,I1,w1⟩;refine HJ hp (bi (hc pins s1 σ1 H1 _ I1 (turn n σ1 H1 w1)) λb s2 hZz=>?_);obtain⟨H2,I2,q2⟩:=hZz;cases b with
 | true=>
  obtain⟨N,hN,q2⟩:=q2;rw[if_pos rfl];refine HJ hp (bi (hb pins s2 σ1 H2 _ I2 q2) λf s3 q3=>?_);cases f with
  | next=>
   obtain⟨σ3,H3,I3,n3⟩:=q3;obtain⟨m',hm,w3⟩:=hN σ3 H3 n3;exact⟨m',hm,σ3,H3,I3,w3⟩
  | cont=>
   obtain⟨σ3,H3,I3,n3⟩:=q3;obtain⟨m',hm,w3⟩:=hN σ3 H3 n3;exact⟨m',hm,σ3,H3,I3,w3⟩
  | brk=>exact q3
  | ret v=>exact q3
 | false=>
  rw[if_neg GR];exact wpAny_execs_nil ⟨σ1,H2,I2,q2⟩
end
structure It where
 go:Nat->Hp->Prop
 yld:Nat->Hp->V->Hp->Prop
 stop:Nat->Hp->Prop
def cP (X:Cx)(pins:ah)(H:Hp)(b:Addr):Prop:=
 H b=none/\b≠X.env.locals/\b∉X.fs/\(b∈X.ex\/X.s₀.heap.objs.size<=b)/\(∀x c,X.env.cells.lookup x=some c->c≠b)/\∀p∈X.pn++pins,p.1≠b
def Inv.fpOk {X:Cx}{pins:ah}{σ:St}{H H':Hp}{s:Shared}{b:Addr}(I:Inv X pins σ H s)(hb:s.heap.objs.size<=b)(hn:H' b=none):cP X pins H' b:=by
 refine⟨hn,HK (eG I.lt hb),I.nofs hb,.inr (bH I.sz hb),λx c e z=>?_,λp hp z=>?_⟩
 .obtain⟨v,q⟩:=I.cell x c e;exact absurd (eG q.lt (by rw[z]; exact hb)) (HD _)
 .exact absurd (eG (bS (I.pin p hp).1) (by rw[z]; exact hb)) (HD _)
structure Turn (P:Program)(w:World)(K:bq)(tg:Expr)(J:It)(fp:aq)(it:Addr)(tn:Nat->Heap->Prop):Prop where
 mem:it∈fp
 obj:∀i h,tn i h->∀b∈fp,∃o,h.get? b=some o/\∀v,o.data≠.cell v
 keep:∀i h h',tn i h->(∀b∈fp,∀o,h.get? b=some o->h'.get? b=some o)->tn i h'
 item:∀(X:Cx),X.prog=P->X.w=w->X.K=K->X.calm=true->∀(i:Nat) (pins:ah) (s:Shared) (σ:St) (H:Hp) (E:Value->Shared->Prop),Inv X pins σ H s->(∀b∈fp,cP X pins H b)->tn i s.heap->J.go i H ->
  wpAny (model P w) X.A (pyNext (.ref it)) (λr s1=>∃u,r=some u /\
   wpAny (model P w) X.A (letOwnedTupleGo tg (.ref it) u) (λ_ s2=>∃x H',Inv X pins σ H' s2/\RelV x u/\J.yld i H x H'/\tn (i+1) s2.heap/\∀b∈fp,H' b=none) E s1) E s
 done:∀(X:Cx),X.prog=P->X.w=w->X.K=K->X.calm=true->∀(i:Nat) (pins:ah) (s:Shared) (σ:St) (H:Hp) (E:Value->Shared->Prop),Inv X pins σ H s->(∀b∈fp,cP X pins H b)->tn i s.heap->J.stop i H ->
  wpAny (model P w) X.A (pyNext (.ref it)) (λr s1=>r=none/\Inv X pins σ H s1) E s
 self:∀(A:Around) (i:Nat) (s:Shared) (Q:Value->Shared->Prop) (E:Value->Shared->Prop),tn i s.heap->Q (.ref it) s->wpAny (model P w) A (pyIter (.ref it)) Q E s
abbrev TI:=St->Hp->(It->Hp->Prop)->Prop
def vQ (X:Cx)(pins:ah)(σ:St)(tg:Expr)(R:It->Hp->Prop)(itv:Value)(s2:Shared):Prop:=
 ∃(it:Addr) (fp:aq) (tn:Nat->Heap->Prop) (J:It) (H':Hp),itv=.ref it/\Inv X pins σ H' s2/\Turn X.prog X.w X.K tg J fp it tn/\tn 0 s2.heap/\(∀b∈fp,cP X pins H' b)/\R J H'
def PI (X:Cx)(tg iter:Expr)(wi:TI):Prop:=
 ∀(pins:ah) (s:Shared) (σ:St) (H:Hp) (R:It->Hp->Prop),Inv X pins σ H s->wi σ H R ->
  wpAny (model X.prog X.w) X.A (eval iter X.env) (λv s1=>wpAny (model X.prog X.w) X.A (pyIter v) (vQ X pins σ tg R) X.xe s1) X.xe s
def qS {M:Model}{A:Around}{E:Value->Shared->Prop}{s:Shared}{tg:Expr}{it:Addr}{u:Value}{o:Obj}{n:String}{vs:aC}{Q:Unit->Shared->Prop}(ho:s.heap.get? it=some o)(hc:o.cls=.type n)(hd:o.data=.fields vs)
    (hn:["enumerate", "zip", "dict_itemiterator", "dict_reverseitemiterator", "odict_iterator", "itertools.zip_longest", "itertools.pairwise"].contains n=false)(hQ:Q () s):wpAny M A (letOwnedTupleGo tg (.ref it) u) Q E s:=by
  unfold letOwnedTupleGo;cases tg <;> first
    | exact bh hQ
    | (cases u <;> first
        | exact bh hQ
        | (refine aS (wpAny_load ho ?_)
           rw[hc,hd];show wpAny M A (if (["enumerate", "zip", "dict_itemiterator", "dict_reverseitemiterator", "odict_iterator", "itertools.zip_longest", "itertools.pairwise"].contains n&&vs[0]? == some (rawInt _))=true then _ else _) Q E s;rw[if_neg (by intro h; rw[hn,Bool.false_and] at h; cases h)];exact bh hQ))
noncomputable def qq (K:bq)(a:Addr):It:=
 ⟨λi H=>∃xs x,SqL K H a xs/\xs[i]? = some x,λi H x H'=>H'=H/\∀xs,SqL K H a xs->xs[i]? = some x,λi H=>∃xs,SqL K H a xs/\xs.length<=i⟩
noncomputable def se (K:bq)(a:Addr):It:=
 ⟨λi H=>∃xs x,SqT K H a xs/\xs[i]? = some x,λi H x H'=>H'=H/\∀xs,SqT K H a xs->xs[i]? = some x,λi H=>∃xs,SqT K H a xs/\xs.length<=i⟩
noncomputable def kT (lo:Int)(n:Nat):It:=⟨λi _=>i<n,λi H x H'=>H'=H/\x=.int (lo+i),λi _=>n<=i⟩
def C2 {P:Program}{w:World}{K:bq}{tg:Expr}(a it:Addr):Turn P w K tg (qq K a) [it] it (λi h=>h.IsListIter it a i) where
 mem:=by simp
 obj:=λi h st b hb=>by
  have e:b=it:=by simpa using hb
  subst e;obtain⟨o,e,c,d⟩:=st;exact⟨o,e,λv z=>by rw[d] at z; cases z⟩
 keep:=λi h h' st k=>st.at λo e=>k it (by simp) o e
 item:=by
  intro X hP hw hK hc i pins s σ H E I hf st hg;subst hP hw hK;obtain⟨xs,x,hq,hx⟩:=hg;obtain⟨its,rv,p,hz⟩:=I.list hq;obtain⟨u,hu,ru⟩:=rv.get hx;obtain⟨f0,f1,f2,f3,f4,f5⟩:=hf it (by simp);refine wpAny_pyNext_list_item st p.isList (x:=u) (by simpa using hu) λh' st' sb=>?_;have I1:Inv X pins σ H { s with heap:=h' }:=I.turned (t':=s.toks) (λb o hb e=>(sb.2 b hb).trans e) f0 f1 f3 f4 f5;obtain⟨o,e,c,d⟩:=id st';exact⟨u,rfl,qS (s:={ s with heap:=h' }) e c d (by decide) ⟨x,H,I1,ru,⟨rfl,λys hy=>by rw[I.list_inj hy hq]; exact hx⟩,st',λb hb=>(hf b hb).1⟩⟩
 done:=by
  intro X hP hw hK hc i pins s σ H E I hf st hg;subst hP hw hK;obtain⟨xs,hq,hx⟩:=hg;obtain⟨its,rv,p,hz⟩:=I.list hq;obtain⟨f0,f1,f2,f3,f4,f5⟩:=hf it (by simp);have hl:=rv.length;exact wpAny_pyNext_list_end (I.ok.hd hc) st p.isList (by simp; omega) λh' eb=>⟨rfl,I.turned (t':=s.toks) (λb o hb e=>eb b o hb e) f0 f1 f3 f4 f5⟩
 self:=λ_ _ _ _ _ st h=>wpAny_pyIter_listiter st h
def B5 {P:Program}{w:World}{K:bq}{tg:Expr}(a it:Addr):Turn P w K tg (se K a) [it] it (λi h=>h.IsTupleIter it a i) where
 mem:=by simp
 obj:=λi h st b hb=>by
  have e:b=it:=by simpa using hb
  subst e;obtain⟨o,e,c,d⟩:=st;exact⟨o,e,λv z=>by rw[d] at z; cases z⟩
 keep:=λi h h' st k=>st.at λo e=>k it (by simp) o e
 item:=by
  intro X hP hw hK hc i pins s σ H E I hf st hg;subst hP hw hK;obtain⟨xs,x,hq,hx⟩:=hg;obtain⟨its,rv,p,hz⟩:=I.tuple hq;obtain⟨u,hu,ru⟩:=rv.get hx;obtain⟨f0,f1,f2,f3,f4,f5⟩:=hf it (by simp);refine wpAny_pyNext_tuple_item st (show s.heap.IsTuple a its.toArray from p) (x:=u) (by simpa using hu) λh' st' sb=>?_;have I1:Inv X pins σ H { s with heap:=h' }:=I.turned (t':=s.toks) (λb o hb e=>(sb.2 b hb).trans e) f0 f1 f3 f4 f5;obtain⟨o,e,c,d⟩:=id st';exact⟨u,rfl,qS (s:={ s with heap:=h' }) e c d (by decide) ⟨x,H,I1,ru,⟨rfl,λys hy=>by rw[I.tuple_inj hy hq]; exact hx⟩,st',λb hb=>(hf b hb).1⟩⟩
 done:=by
  intro X hP hw hK hc i pins s σ H E I hf st hg;subst hP hw hK;obtain⟨xs,hq,hx⟩:=hg;obtain⟨its,rv,p,hz⟩:=I.tuple hq;obtain⟨f0,f1,f2,f3,f4,f5⟩:=hf it (by simp);have hl:=rv.length;exact wpAny_pyNext_tuple_end (I.ok.hd hc) st (show s.heap.IsTuple a its.toArray from p) (by simp; omega) λh' eb=>⟨rfl,I.turned (t':=s.toks) (λb o hb e=>eb b o hb e) f0 f1 f3 f4 f5⟩
 self:=λ_ _ _ _ _ st h=>wpAny_pyIter_tupleiter st h
def FD {P:Program}{w:World}{K:bq}{tg:Expr}(it:Addr)(lo:Int)(n:Nat):Turn P w K tg (kT lo n) [it] it (λi h=>IsRangeIter h it (lo+(i:Nat) * 1) ((n:Int) - (i:Nat)) 1) where
 mem:=by simp
 obj:=λi h st b hb=>by
  have e:b=it:=by simpa using hb
  subst e;exact⟨_,st,λv z=>by
   have z':Data.fields _=Data.cell v:=z;cases z'⟩
 keep:=λi h h' st k=>k it (by simp) _ st
 item:=by
  intro X hP hw hK hc i pins s σ H E I hf st hg;subst hP hw hK;obtain⟨f0,f1,f2,f3,f4,f5⟩:=hf it (by simp);have W:=Walks.range (prog:=X.prog) (w:=X.w) (I.ok.hd hc) it lo 1 n;refine W.item i s _ _ hg st λv h' tk hv st' kk=>?_;obtain⟨t,rfl⟩:=hv;have I1:Inv X pins σ H { s with heap:=h',toks:=tk }:=I.turned (λb o hb e=>kk b o (by simpa using hb) e) f0 f1 f3 f4 f5;refine⟨_,rfl,qS (s:={ s with heap:=h',toks:=tk }) (n := "range_iterator") st' rfl rfl (by decide) ⟨.int (lo+i),H,I1,⟨t,?_⟩,⟨rfl,rfl⟩,st',λb hb=>(hf b hb).1⟩⟩;rw[Int.mul_one]
 done:=by
  intro X hP hw hK hc i pins s σ H E I hf st hg;subst hP hw hK;obtain⟨f0,f1,f2,f3,f4,f5⟩:=hf it (by simp);exact wpAny_pyNext_range_end (I.ok.hd hc) st (by have:n<=i:=hg; omega) λh' eb=>⟨rfl,I.turned (t':=s.toks) (λb o hb e=>eb b o hb e) f0 f1 f3 f4 f5⟩
 self:=λ_ _ _ _ _ st h=>wpAny_pyIter_rangeiter st h
end L2
namespace L2
open PySem PySem.Spec PyProof.Rows
section
variable {X:Cx}{tg:Expr}
def mq (K:bq)(tl:TE):TI:=λσ H R=>tl σ H λx H1=>∃a,x=.ref a/\(∃xs,SqL K H1 a xs)/\R (qq K a) H1
def rX (K:bq)(tl:TE):TI:=λσ H R=>tl σ H λx H1=>∃a,x=.ref a/\(∃xs,SqT K H1 a xs)/\R (se K a) H1
def we {l:Expr}{tl:TE}(hl:PE X l tl):PI X tg l (mq X.K tl):=by
 intro pins s σ H R I h;refine bi (hl pins s σ H _ I h) λv s1 hZz=>?_;obtain⟨x,H1,I1,r1,q1⟩:=hZz;obtain⟨a,e,⟨xs,hq⟩,q⟩:=q1;subst e;cases r1;obtain⟨its,rv,p,hz⟩:=I1.list hq;refine IR p.isList ?_;refine⟨s1.heap.objs.size,[s1.heap.objs.size],_,_,H1,rfl,I1.kept (t':=s1.toks) λb o e=>b7 _ e,C2 a _,⟨_,df _ rfl,rfl,rfl⟩,λb hb=>?_,q⟩;have e:b=s1.heap.objs.size:=by simpa using hb
 subst e;exact I1.fpOk (bC _) (I1.hok.fresh (bC _))
def Et {l:Expr}{tl:TE}(hl:PE X l tl):PI X tg l (rX X.K tl):=by
 intro pins s σ H R I h;refine bi (hl pins s σ H _ I h) λv s1 hZz=>?_;obtain⟨x,H1,I1,r1,q1⟩:=hZz;obtain⟨a,e,⟨xs,hq⟩,q⟩:=q1;subst e;cases r1;obtain⟨its,rv,p,hz⟩:=I1.tuple hq;refine Jz (show s1.heap.IsTuple a its.toArray from p) ?_;refine⟨s1.heap.objs.size,[s1.heap.objs.size],_,_,H1,rfl,I1.kept (t':=s1.toks) λb o e=>b7 _ e,B5 a _,⟨_,df _ rfl,rfl,rfl⟩,λb hb=>?_,q⟩;have e:b=s1.heap.objs.size:=by simpa using hb
 subst e;exact I1.fpOk (bC _) (I1.hok.fresh (bC _))
def tQ {pins:ah}{σ:St}{H:Hp}{s:Shared}{R:It->Hp->Prop}{E:Value->Shared->Prop}{lo hi:Int}{t u v:Tok}{tk:Nat}(I:Inv X pins σ H s)(h1 : -(2 ^ 62)<=lo)(h2:lo<2 ^ 62)(h3 : -(2 ^ 62)<=hi)(h4:hi<2 ^ 62)
  (q:R (kT lo (hi - lo).toNat) H):wpAny (model X.prog X.w) X.A (pyIter (.ref s.heap.objs.size)) (vQ X pins σ tg R) E { s with heap:=s.heap.push { cls:=.type "range",data:=.fields #[.int lo t,.int hi u,.int 1 v] },toks:=tk }:=by
 refine wpAny_pyIter_range (IsRange.new ..) (small_one h1 h2 h3 h4) ?_;have I1:Inv X pins σ H { s with heap:=s.heap.push { cls:=.type "range",data:=.fields #[.int lo t,.int hi u,.int 1 v] },toks:=tk }:=I.kept λb o e=>b7 _ e;refine⟨(s.heap.push { cls:=.type "range",data:=.fields #[.int lo t,.int hi u,.int 1 v] }).objs.size,[(s.heap.push { cls:=.type "range",data:=.fields #[.int lo t,.int hi u,.int 1 v] }).objs.size],_,_,H,rfl,
  I1.kept (t':=tk) λb o e=>b7 _ e,FD _ lo (hi - lo).toNat,?_,λb hb=>?_,q⟩
 .have e1:lo+((0:Nat):Int) * 1=lo:=by simp
  have e2:(((hi - lo).toNat:Nat):Int) - ((0:Nat):Int)=Builtin.Range.rangeSize lo hi 1:=by rw[rangeSize_one]; split <;> omega
  show IsRangeIter _ _ (lo+((0:Nat):Int) * 1) ((((hi - lo).toNat:Nat):Int) - ((0:Nat):Int)) 1;rw[e1,e2];exact df _ rfl
 .have e:b=(s.heap.push { cls:=.type "range",data:=.fields #[.int lo t,.int hi u,.int 1 v] }).objs.size:=by simpa using hb
  subst e;exact I1.fpOk (bC _) (I1.hok.fresh (bC _))
def ma (ta:TA):TI:=λσ H R=>ta σ H λvs H1=>∃j:Int,vs=[.int j] /\ -(2 ^ 62)<=j/\j<2 ^ 62/\R (kT 0 j.toNat) H1
def mU (ta:TA):TI:=λσ H R=>ta σ H λvs H1=>∃i j:Int,vs=[.int i,.int j]/\(-(2 ^ 62)<=i/\i<2 ^ 62 /\ -(2 ^ 62)<=j/\j<2 ^ 62)/\R (kT i (j - i).toNat) H1
def Ax {a:Expr}{ta:TA}{p pos:Pos}(hg:Gl X "range")(hm:X.mg "range" = none)(ha:PA X [a] ta)(hs:starEach [a] X.env=[(false,eval a X.env)]:=by rfl):PI X tg (.Call (.Name "range" p) [a] [] pos) (ma ta):=by
 intro pins s σ H R I h;refine Call_ (gr I hg hm boot_range (GU (bi (ha pos pins s σ H _ I h) λus s1 hZz=>?_) hs rfl));obtain⟨vs,H1,I1,r1,q1⟩:=hZz;obtain⟨j,e,q1,q2,q⟩:=q1;subst e;cases r1 with
 | cons r rr=>
  cases rr;obtain⟨t,rfl⟩:=r;exact call_range_1 (tQ I1 (by omega) (by omega) q1 q2 (by simpa using q))
def Gc {a b:Expr}{ta:TA}{p pos:Pos}(hg:Gl X "range")(hm:X.mg "range" = none)(ha:PA X [a,b] ta)(hs:starEach [a,b] X.env=[(false,eval a X.env),(false,eval b X.env)]:=by rfl)(hs2:starEach [b] X.env=[(false,eval b X.env)]:=by rfl) :
  PI X tg (.Call (.Name "range" p) [a,b] [] pos) (mU ta):=by
 intro pins s σ H R I h;refine Call_ (gr I hg hm boot_range (GU (bi (ha pos pins s σ H _ I h) λus s1 hZz=>?_) (by rw[hs,hs2]) (by rw[hs2]; rfl)));obtain⟨vs,H1,I1,r1,q1⟩:=hZz;obtain⟨i,j,e,⟨q1,q2,q3,q4⟩,q⟩:=q1;subst e;cases r1 with
 | cons r rr=>
  cases rr with
  | cons r' rr=>
   cases rr;obtain⟨t,rfl⟩:=r;obtain⟨t',rfl⟩:=r';exact call_range_2 (tQ I1 q1 q2 q3 q4 q)
def gu (wi:TI)(g:TG)(tb:TS):TS:=λD σ H=>wi σ H λJ H1=>∃W:Nat->Nat->St->Hp->Prop,(∃m,W 0 m σ H1)/\∀i m σ H,W i m σ H ->
 (J.stop i H/\D.nx σ H)\/(J.go i H/\∃N:St->Hp->Prop,(∀σ' H',N σ' H'->∃m',m'<m/\W (i+1) m' σ' H')/\∀x H',J.yld i H x H'->g x σ H' λσ2 H2=>tb { D with nx:=N,ct:=N,bk:=D.nx } σ2 H2)
noncomputable def dg (fp:aq)(h:Heap):ah:=fp.filterMap λb=>(h.get? b).map λo=>(b,o)
def k6 {fp:aq}{h:Heap}{b:Addr}{o:Obj}(hb:b∈fp)(e:h.get? b=some o):(b,o)∈dg fp h:=IG.mpr ⟨b,hb,by rw[e]; rfl⟩
def Cf {fp:aq}{h:Heap}{p:Addr×Obj}(hp:p∈dg fp h):p.1∈fp/\h.get? p.1=some p.2:=by
 obtain⟨b,hb,e⟩:=IG.mp hp;cases q:h.get? b with
 | none=>rw[q] at e; cases e
 | some o=>
  rw[q] at e;have e':(b,o)=p:=cO e;subst e';exact⟨hb,q⟩
def Inv.pinned {pins:ah}{σ:St}{H:Hp}{s:Shared}{fp:aq}(I:Inv X pins σ H s)(hf:∀b∈fp,cP X pins H b)(ho:∀b∈fp,∃o,s.heap.get? b=some o/\∀v,o.data≠.cell v):Inv X (pins++dg fp s.heap) σ H s:=
 I.pins_of λp hp=>(dm hp).elim (λz=>I.pin p (cG _ z)) λz=>by
  obtain⟨hb,e⟩:=Cf z;obtain⟨f0,f1,f2,_⟩:=hf p.1 hb;obtain⟨o,e',d⟩:=ho p.1 hb;rw[e] at e'; cases e';exact⟨e,f0,f1,f2,d⟩
def Inv.unpinned {pins pl:ah}{σ:St}{H:Hp}{s:Shared}(I:Inv X (pins++pl) σ H s):Inv X pins σ H s:=I.pins_of λp hp=>I.pin p (cG _ (eI _ hp))
def wM {iter:Expr}{body:aH}{wi:TI}{g:TG}{tb:TS}{pos:Pos}(hp:PassesOwn (model X.prog X.w) X.A X.env X.xe)(hc:X.calm=true)(hi:PI X tg iter wi)(hg:PG X tg g)(hb:PSs X body tb)
  (hs:∀x,foldedSetIterable iter X.env x=pure x:=by intro _; rfl):PS X (.For tg iter body [] pos) (gu wi g tb):=by
 intro pins s σ H D I h;refine wpAny_For (bi (hi pins s σ H _ I h) λv s1 h1=>bi h1 λitv s2 h2=>?_) hs;obtain⟨it,fp,tn,J,H2,e,I2,T,st2,f2,W,⟨m0,w0⟩,turn⟩:=h2;subst e;have stat:∀{H':Hp},(∀b∈fp,H' b=none)->∀b∈fp,cP X pins H' b:=λhn b hb=>⟨hn b hb,(f2 b hb).2⟩
 refine codeAny_forLoop_any (λn s'=>∃i σ' H',Inv X pins σ' H' s'/\tn i s'.heap/\(∀b∈fp,H' b=none)/\W i n σ' H') ?_ m0 ⟨0,σ,H2,I2,st2,λb hb=>(f2 b hb).1,w0⟩;rintro n s3 ⟨i,σ3,H3,I3,st3,fr3,w3⟩;rcases turn i n σ3 H3 w3 with ⟨stop,qn⟩ | ⟨go,N,hN,step⟩
 .refine HJ hp (bi (T.done X rfl rfl rfl hc i pins s3 σ3 H3 X.xe I3 (stat fr3) st3 stop) λr s4 hZz=>?_);obtain⟨hr,I4⟩:=hZz;subst hr;exact wpAny_execs_nil ⟨σ3,H3,I4,qn⟩
 .refine HJ hp (bi (T.item X rfl rfl rfl hc i pins s3 σ3 H3 X.xe I3 (stat fr3) st3 go) λr s4 hZz=>?_);obtain⟨u,hr,h4⟩:=hZz;subst hr;refine HJ hp (bi h4 λ_ s5 hZz=>?_);obtain⟨x,H5,I5,r5,y5,st5,fr5⟩:=hZz;have I5':=I5.pinned (stat fr5) (T.obj _ _ st5);refine HJ hp (bi (hg _ s5 σ3 H5 x u _ I5' r5 (step x H5 y5)) λ_ s6 hZz=>?_);obtain⟨σ6,H6,I6,q6⟩:=hZz;refine HJ hp (bi (hb _ s6 σ6 H6 _ I6 q6) λf s7 q7=>?_);have again:∀{σ7:St} {H7:Hp},Inv X (pins++dg fp s5.heap) σ7 H7 s7->N σ7 H7->∃m,m<n/\∃i σ' H',Inv X pins σ' H' s7/\tn i s7.heap/\(∀b∈fp,H' b=none)/\W i m σ' H':=λ{σ7 H7} I7 n7=>by
   obtain⟨m',hm,w7⟩:=hN σ7 H7 n7;refine⟨m',hm,i+1,σ7,H7,I7.unpinned,T.keep _ _ _ st5 λb hb o e=>(I7.pin (b,o) (cG _ (cG _ (k6 hb e)))).1,λb hb=>?_,w7⟩;obtain⟨o,e,d⟩:=T.obj _ _ st5 b hb;exact (I7.pin (b,o) (cG _ (cG _ (k6 hb e)))).2.1
  cases f with
  | next=>obtain⟨σ7,H7,I7,n7⟩:=q7; exact again I7 n7
  | cont=>obtain⟨σ7,H7,I7,n7⟩:=q7; exact again I7 n7
  | brk=>obtain⟨σ7,H7,I7,q7⟩:=q7; exact⟨σ7,H7,I7.unpinned,q7⟩
  | ret v=>obtain⟨x7,σ7,H7,I7,r7,q7⟩:=q7; exact⟨x7,σ7,H7,I7.unpinned,r7,q7⟩
end
end L2
namespace L2
open PySem PySem.Spec PyProof.Rows
abbrev R2:=V->V->Hp->VK->Prop
def OpR (X:Cx)(f:Value->Value->Sem Value)(r:R2):Prop:=
 ∀(pins:ah) (s:Shared) (σ:St) (H:Hp) (x y:V) (v u:Value) (Q:VK),Inv X pins σ H s->RelV x v->RelV y u->r x y H Q ->
  wpAny (model X.prog X.w) X.A (f v u) (EP X pins σ Q) X.xe s
def rF (X:Cx)(f:Value->Sem Value)(r:V->Hp->VK->Prop):Prop:=
 ∀(pins:ah) (s:Shared) (σ:St) (H:Hp) (x:V) (v:Value) (Q:VK),Inv X pins σ H s->RelV x v->r x H Q ->
  wpAny (model X.prog X.w) X.A (f v) (EP X pins σ Q) X.xe s
def CallR (X:Cx)(f:Value)(r:aw->Hp->VK->Prop):Prop:=
 ∀(pins:ah) (s:Shared) (σ:St) (H:Hp) (xs:aw) (us:ar) (Q:VK),Inv X pins σ H s->Vals xs us->r xs H Q ->
  wpAny (model X.prog X.w) X.A (call f us) (EP X pins σ Q) X.xe s
def kC (r:R2)(ta tb:TE):TE:=λσ H Q=>ta σ H λx H1=>tb σ H1 λy H2=>r x y H2 Q
def pF (r:V->Hp->VK->Prop)(ta:TE):TE:=λσ H Q=>ta σ H λx H1=>r x H1 Q
def rI (C:Int->Int->Prop)(g:Int->Int->V):R2:=λx y H Q=>∃i j,x=.int i/\y=.int j/\C i j/\Q (g i j) H
def jf (g:Int->Int->V):R2:=λx y H Q=>∃i j,x=.int i/\y=.int j/\Q (g i j) H
def rU (g:Int->V):V->Hp->VK->Prop:=λx H Q=>∃i,x=.int i/\Q (g i) H
section
variable {X:Cx}{a b c:Expr}{ta tb tc:TE}{pos:Pos}
def ka (ha:PE X a ta)(hb:PE X b tb){pins:ah}{s:Shared}{σ:St}{H:Hp}{R:V->V->Hp->Prop}(I:Inv X pins σ H s)
  (h:ta σ H λx H1=>tb σ H1 λy H2=>R x y H2){Q:Value->Shared->Prop}{f:Value->Value->Sem Value}
  (hf:∀v u s2 x y H2,Inv X pins σ H2 s2->RelV x v->RelV y u->R x y H2->wpAny (model X.prog X.w) X.A (f v u) Q X.xe s2) :
  wpAny (model X.prog X.w) X.A (eval a X.env) (λv s₁=>wpAny (model X.prog X.w) X.A (eval b X.env) (λu s₂=>wpAny (model X.prog X.w) X.A (f v u) Q X.xe s₂) X.xe s₁) X.xe s:=by
 refine bi (ha pins s σ H _ I h) λv s1 hZz=>?_;obtain⟨x,H1,I1,r1,q1⟩:=hZz;refine bi (hb pins s1 σ H1 _ I1 q1) λu s2 hZz=>?_;obtain⟨y,H2,I2,r2,q2⟩:=hZz;exact hf v u s2 x y H2 I2 r1 r2 q2
def kO {op:Operator}{r:R2}(ho:OpR X (binaryOp op) r)(ha:PE X a ta)(hb:PE X b tb):PE X (.BinOp a op b pos) (kC r ta tb):=by
 intro pins s σ H Q I h;exact wpAny_BinOp (ka ha hb I h λv u s2 x y H2 I2 rx ry q=>ho pins s2 σ H2 x y v u Q I2 rx ry q)
def uQ {op:UnaryOp}{r:V->Hp->VK->Prop}(ho:rF X (unaryOp op) r)(ha:PE X a ta):PE X (.UnaryOp op a pos) (pF r ta):=by
 intro pins s σ H Q I h;exact UnaryOp_ (bi (ha pins s σ H _ I h) λv s1 ⟨x,H1,I1,r1,q1⟩=>ho pins s1 σ H1 x v Q I1 r1 q1)
def nQ {f:Value->Value->Sem Value}{C:Int->Int->Prop}{g:Int->Int->Int}
  (rule:∀(i j:Int) (t u:Tok) (s:Shared) (Q:Value->Shared->Prop) (E:Value->Shared->Prop),C i j->Q (.int (g i j) s.toks) { s with toks:=s.toks+1 }->wpAny (model X.prog X.w) X.A (f (.int i t) (.int j u)) Q E s) :
  OpR X f (rI C λi j=>.int (g i j)):=by
 intro pins s σ H x y v u Q I rx ry h;obtain⟨i,j,rfl,rfl,hc,q⟩:=h;obtain⟨t,rfl⟩:=rx;obtain⟨t',rfl⟩:=ry;exact rule i j t t' s _ _ hc ⟨.int (g i j),H,I.tok _,⟨_,rfl⟩,q⟩
def mE {f:Value->Value->Sem Value}{g:Int->Int->Int}
  (rule:∀(i j:Int) (t u:Tok) (s:Shared) (Q:Value->Shared->Prop) (E:Value->Shared->Prop),Q (.int (g i j) s.toks) { s with toks:=s.toks+1 }->wpAny (model X.prog X.w) X.A (f (.int i t) (.int j u)) Q E s) :
  OpR X f (jf λi j=>.int (g i j)):=by
 intro pins s σ H x y v u Q I rx ry h;obtain⟨i,j,rfl,rfl,q⟩:=h;obtain⟨t,rfl⟩:=rx;obtain⟨t',rfl⟩:=ry;exact rule i j t t' s _ _ ⟨.int (g i j),H,I.tok _,⟨_,rfl⟩,q⟩
def iD {f:Value->Value->Sem Value}{g:Int->Int->Bool}
  (rule:∀(i j:Int) (t u:Tok) (s:Shared) (Q:Value->Shared->Prop) (E:Value->Shared->Prop),Q (.bool (g i j)) s->wpAny (model X.prog X.w) X.A (f (.int i t) (.int j u)) Q E s) :
  OpR X f (jf λi j=>.bl (g i j)):=by
 intro pins s σ H x y v u Q I rx ry h;obtain⟨i,j,rfl,rfl,q⟩:=h;obtain⟨t,rfl⟩:=rx;obtain⟨t',rfl⟩:=ry;exact rule i j t t' s _ _ ⟨.bl (g i j),H,I,rfl,q⟩
def sN (i j:Int):Prop:=0<=j/\j<=1000000/\i.natAbs<2 ^ 64
def CMul (i j:Int):Prop:=(-(2 ^ 64)<i/\i<2 ^ 64)\/(-(2 ^ 64)<j/\j<2 ^ 64)
def CMul.ok {i j:Int}(h:CMul i j):IntMulOk i j:=by
 rcases h with ⟨h1,h2⟩ | ⟨h1,h2⟩
 .exact .of_left (intBits_le_64 h1 h2)
 .exact .of_right (intBits_le_64 h1 h2)
def Df:OpR X (binaryOp .Add) (jf λi j=>.int (i+j)):=mE λ_ _ _ _ _ _ _ q=>add_int q
def DS:OpR X (binaryOp .Sub) (jf λi j=>.int (i - j)):=mE λ_ _ _ _ _ _ _ q=>sub_int q
def Ag:OpR X (binaryOp .Mult) (rI CMul λi j=>.int (i * j)):=nQ λ_ _ _ _ _ _ _ hc q=>mul_int q hc.ok
def zq:OpR X (binaryOp .Mod) (rI (λ_ j=>0<j) λi j=>.int (i % j)):=nQ λi j _ _ _ _ _ hc q=>by
 have h1:(0:Int)<j:=hc;exact mod_int' (by omega) (by rw[Int.fmod_eq_emod_of_nonneg i (by omega)]; exact q)
def CT:OpR X (binaryOp .Pow) (rI sN λi j=>.int (i ^ j.toNat)):=nQ λ_ _ _ _ _ _ _ hc q=>pow_int_small hc.1 hc.2.1 hc.2.2 q
def Dk {f:Value->Sem Value}{g:Int->Int}
  (rule:∀(i:Int) (t:Tok) (s:Shared) (Q:Value->Shared->Prop) (E:Value->Shared->Prop),Q (.int (g i) s.toks) { s with toks:=s.toks+1 }->wpAny (model X.prog X.w) X.A (f (.int i t)) Q E s) :
  rF X f (rU λi=>.int (g i)):=by
 intro pins s σ H x v Q I rx h;obtain⟨i,rfl,q⟩:=h;obtain⟨t,rfl⟩:=rx;exact rule i t s _ _ ⟨.int (g i),H,I.tok _,⟨_,rfl⟩,q⟩
def uO:rF X (unaryOp .USub) (rU λi=>.int (-i)):=Dk λ_ _ _ _ _ q=>neg_int q
end
noncomputable def scal:V->V->Bool
 | .non,.non=>true | .non,.int _=>true | .int _,.non=>true | .non,.bl _=>true | .bl _,.non=>true | .non,.str _=>true | .str _,.non=>true
 | .int _,.int _=>true | .bl _,.bl _=>true | .str _,.str _=>true | .byt _,.byt _=>true
 | .int _,.str _=>true | .str _,.int _=>true | .bl _,.str _=>true | .str _,.bl _=>true
 | _,_=>false
section
variable {X:Cx}{a b c:Expr}{ta tb tc:TE}{pos:Pos}
def D6:OpR X (compareOp .Lt) (jf λi j=>.bl (decide (i<j))):=iD λ_ _ _ _ _ _ _ q=>lt_int q
def BH:OpR X (compareOp .LtE) (jf λi j=>.bl (decide (i<=j))):=iD λ_ _ _ _ _ _ _ q=>le_int q
def FW:OpR X (compareOp .Gt) (jf λi j=>.bl (decide (j<i))):=iD λ_ _ _ _ _ _ _ q=>gt_int q
def F5:OpR X (compareOp .GtE) (jf λi j=>.bl (decide (j<=i))):=iD λ_ _ _ _ _ _ _ q=>ge_int q
def OpR.or {f:Value->Value->Sem Value}{r r':R2}(h:OpR X f r)(h':OpR X f r'):OpR X f (λx y H Q=>r x y H Q\/r' x y H Q):=by
 intro pins s σ H x y v u Q I rx ry q;rcases q with q | q
 .exact h pins s σ H x y v u Q I rx ry q
 .exact h' pins s σ H x y v u Q I rx ry q
def km (b:Expr){op:CmpOp}(h:op≠.In:=by decide)(h2:op≠.NotIn:=by decide):behindInMarks op b=false:=by
 have e1:(op == CmpOp.In)=false:=by cases op <;> first | rfl | exact absurd rfl h
 have e2:(op == CmpOp.NotIn)=false:=by cases op <;> first | rfl | exact absurd rfl h2
 cases b <;> simp[behindInMarks,e1,e2]
def Fp {op:CmpOp}{r:R2}(ho:OpR X (compareOp op) r)(ha:PE X a ta)(hb:PE X b tb)(hm:behindInMarks op b=false):PE X (.Compare a [op] [b] pos) (kC r ta tb):=by
 intro pins s σ H Q I h;exact wpAny_Compare1 (ka ha hb I h λv u s2 x y H2 I2 rx ry q=>ho pins s2 σ H2 x y v u Q I2 rx ry q) hm
def iO (t:TE):TT:=λσ H Q=>t σ H λx H'=>∃k,x=.bl k/\Q k H'
def Bl {op:CmpOp}{r:R2}(ho:OpR X (compareOp op) r)(ha:PE X a ta)(hb:PE X b tb)(hm:behindInMarks op b=false):PT X (.Compare a [op] [b] pos) (iO (kC r ta tb)):=by
 intro pins s σ H Q I h;refine wpAny_isTrue_Compare1 (bi (ha pins s σ H _ I h) λv s1 ⟨x,H1,I1,r1,q1⟩=>bi (hb pins s1 σ H1 _ I1 q1) λu s2 ⟨y,H2,I2,r2,q2⟩=>
  bi (ho pins s2 σ H2 x y v u _ I2 r1 r2 q2) λc s3 ⟨z,H3,I3,r3,k,e,q3⟩=>?_) hm
 subst e;cases r3;exact G6 ⟨H3,I3,q3⟩
def d9 (r r':R2)(ta tb tc:TE):TE:=λσ H Q=>ta σ H λx H1=>tb σ H1 λy H2=>r x y H2 λz H3=>∃k,z=.bl k /\
 (if k=true then tc σ H3 λw' H4=>r' y w' H4 Q else Q (.bl false) H3)
def Fx {op op':CmpOp}{r r':R2}(ho:OpR X (compareOp op) r)(ho':OpR X (compareOp op') r')(ha:PE X a ta)(hb:PE X b tb)(hc:PE X c tc)
  (hm:lastMarks [op,op'] [b,c]=false:=by with_unfolding_all rfl):PE X (.Compare a [op,op'] [b,c] pos) (d9 r r' ta tb tc):=by
 intro pins s σ H Q I h;refine Compare_chain (bi (ha pins s σ H _ I h) λv s1 ⟨x,H1,I1,r1,q1⟩=>chain_link (bi (hb pins s1 σ H1 _ I1 q1) λu s2 ⟨y,H2,I2,r2,q2⟩=>
  bi (ho pins s2 σ H2 x y v u _ I2 r1 r2 q2) λd s3 ⟨z,H3,I3,r3,k,e,q3⟩=>?_)) hm
 subst e;cases r3;refine G6 ?_;cases k with
 | false=>exact ite_ff ⟨.bl false,H3,I3,rfl,q3⟩
 | true=>exact ite_tt (chain_last (bi (hc pins s3 σ H3 _ I3 q3) λw' s4 ⟨z',H4,I4,r4,q4⟩=>ho' pins s4 σ H4 y z' u w' Q I4 r2 r4 q4))
def zy {op op':CmpOp}{r r':R2}(ho:OpR X (compareOp op) r)(ho':OpR X (compareOp op') r')(ha:PE X a ta)(hb:PE X b tb)(hc:PE X c tc)
  (hm:lastMarks [op,op'] [b,c]=false:=by with_unfolding_all rfl):PT X (.Compare a [op,op'] [b,c] pos) (iO (d9 r r' ta tb tc)):=by
 intro pins s σ H Q I h;refine isTrue_chain (bi (ha pins s σ H _ I h) λv s1 ⟨x,H1,I1,r1,q1⟩=>test_link (bi (hb pins s1 σ H1 _ I1 q1) λu s2 ⟨y,H2,I2,r2,q2⟩=>
  bi (ho pins s2 σ H2 x y v u _ I2 r1 r2 q2) λd s3 ⟨z,H3,I3,r3,k,e,q3⟩=>?_)) hm
 subst e;cases r3;refine G6 ?_;cases k with
 | false=>
  obtain⟨k',e',q'⟩:=q3;cases e';exact ite_ff ⟨H3,I3,q'⟩
 | true=>
  refine ite_tt (test_last (bi (hc pins s3 σ H3 _ I3 q3) λw' s4 ⟨z',H4,I4,r4,q4⟩=>bi (ho' pins s4 σ H4 y z' u w' _ I4 r2 r4 q4) λd' s5 hZz=>?_));obtain⟨z2,H5,I5,r5,k2,e2,q5⟩:=hZz;subst e2;cases r5;exact G6 ⟨H5,I5,q5⟩
def d7:(sizeLine:Nat)<2 ^ 63:=by rw[HL]; decide
def vals1 {x:V}{us:ar}(r:Vals [x] us):∃u,us=[u]/\RelV x u:=by
 cases r with
 | cons r1 r2=>cases r2; exact⟨_,rfl,r1⟩
def vals2 {x y:V}{us:ar}(r:Vals [x,y] us):∃u w',us=[u,w']/\RelV x u/\RelV y w':=by
 cases r with
 | cons r1 r2=>
  cases r2 with
  | cons r3 r4=>cases r4; exact⟨_,_,rfl,r1,r3⟩
def EO (hc:X.calm=true):CallR X (.builtin "max") (λxs H Q=>∃i j,xs=[.int i,.int j]/\Q (.int (if j > i then j else i)) H):=by
 intro pins s σ H xs us Q I r h;obtain⟨i,j,rfl,q⟩:=h;obtain⟨u,w',rfl,⟨t,rfl⟩,⟨t',rfl⟩⟩:=vals2 r;refine max_two_ints (I.ok.hd hc) λh' tk k=>⟨_,H,I.kept k,?_,q⟩
 by_cases hj:j > i
 .rw[if_pos hj,if_pos hj]; exact⟨_,rfl⟩
 .rw[if_neg hj,if_neg hj]; exact⟨_,rfl⟩
def za:CallR X (.type "int") (λxs H Q=>(∃i,xs=[.int i]/\Q (.int i) H)\/∃k,xs=[.bl k]/\Q (.int (if k then 1 else 0)) H):=by
 intro pins s σ H xs us Q I r h;rcases h with ⟨i,rfl,q⟩ | ⟨k,rfl,q⟩
 .obtain⟨u,rfl,t,rfl⟩:=vals1 r;exact call_int_int ⟨.int i,H,I,⟨_,rfl⟩,q⟩
 .obtain⟨u,rfl,r1⟩:=vals1 r;cases r1;exact call_int_bool ⟨.int (if k then 1 else 0),H,I.tok _,⟨_,rfl⟩,q⟩
end
end L2
namespace L2
open PySem PySem.Spec PyProof.Rows
structure ObjM (h:Heap)(x dx C:Addr)(mA:Str->aB):Prop where
 obj:h.get? x=some (PySem.W.instObj C dx)
 ns:h.Ns1 dx mA
 ne:dx≠x
def Af {h:Heap}{dx:Addr}{mA:Str->aB}(n:h.Ns1 dx mA):∃od,h.get? dx=some od/\∀name,PySem.W.lookIn name od=some (mA name):=by
 obtain⟨o,es,ep,ho,hd,hk,_,hm⟩:=n;refine⟨o,ho,λname=>?_⟩;have e:=hm name;unfold nsFind findBy at e;rw[<-Array.find?_toList] at e;unfold PySem.W.lookIn;rw[hd];dsimp only;split
 .rename_i y q;rw[q] at e;exact congrArg some e
 .rename_i q;rw[q] at e;have a:es.toList.any (·.refKey)=false:=by
   rw[List.any_eq_false];intro y hy;obtain⟨z,t,hkey⟩:=hk y (Array.mem_toList_iff.mp hy);simp[DictEntry.refKey,hkey]
  have a':¬es.toList.any (·.refKey)=true:=by rw[a]; exact GR
  rw[if_neg a'];exact congrArg some e
def ObjM.look {h:Heap}{x dx C:Addr}{mA:Str->aB}(I:ObjM h x dx C mA):∃od,PySem.W.InstAt h x (PySem.W.instObj C dx) C (some od)/\∀name,PySem.W.lookIn name od=some (mA name):=
 let ⟨od,ho,hl⟩:=Af I.ns
 ⟨od,⟨I.obj,rfl,rfl,ho⟩,hl⟩
section
variable {prog:Program}{w:World}{A:Around}{E:Value->Shared->Prop}{s:Shared}{K:bq}{x dx C f:Addr}{mA:Str->aB}{name:Str}{v:Value}
def zS {expr:Bool}{Q:Value->Shared->Prop}(X:K.In s.heap)(I:ObjM s.heap x dx C mA)(hg:PySem.W.plainGet K C name=true)(hh:PySem.W.hasDictIn K C=true)
  (ha:PySem.W.findIn K (.ref C) name=some none)(hv:mA name=some v)(hv':PySem.W.handedIn v=true)(h:Q v { s with toks:=s.toks+1 }) :
  wpAny (model prog w) A (getAttr (.ref x) name expr) Q E s:=by
 obtain⟨od,J,hl⟩:=I.look;exact PySem.W.get_value X J (Ju hg).1 (PySem.W.findObj_own hh ha rfl (by rw[hl,hv])) hv' h
def Cm {pl:Sem Bool}{Q:Value×ar->Shared->Prop}(X:K.In s.heap)(I:ObjM s.heap x dx C mA)(hg:PySem.W.plainGet K C name=true)
  (hf:PySem.W.findIn K (.ref C) name=some (some (.ref f)))(ht:PySem.W.isFn K (.ref f)=true)(hv:mA name=none)(h:Q (.ref f,[.ref x]) s) :
  wpAny (model prog w) A (getMethod (.ref x) name pl) Q E s:=by
 obtain⟨od,J,hl⟩:=I.look;exact PySem.W.method_fn X J (Ju hg).1 (Ju hg).2 hf (GC.mp ht) (by show (PySem.W.lookIn name od).map (·.isSome)=some false; rw[hl,hv]; rfl) h
def Gn {ns:au}{Q:Unit->Shared->Prop}(X:K.In s.heap)(I:ObjM s.heap x dx C mA)
  (hs:PySem.W.findIn K (.ref C) "__setattr__" = some (some (.builtin "object.__setattr__")))(hp:PySem.W.plainOver K C=true)(ht:PySem.W.takerIn K C name=some none)(hh:PySem.W.hasDictIn K C=true)
  (hw:PySem.Within mA ns)(hsz:ns.length<=sizeLine)
  (h:∀h',ObjM h' x dx C (λy=>if y=name then some v else mA y)->Heap.SameBut dx s.heap h'->Q () { s with heap:=h',toks:=s.toks+2 }) :
  wpAny (model prog w) A (setAttr (.ref x) name v) Q E s:=by
 obtain⟨od,J,hl⟩:=I.look;refine PySem.W.set_plain X J hs (PySem.W.osa_open (s:={ s with toks:=s.toks+1 }) (r:=none) X J hp ht λb=>?_);obtain⟨cd,hc,hd'⟩:=PySem.W.any_some hh;have hx:s.heap.get? x=some ⟨.ref C,some dx,.plain,#[]⟩:=I.obj;refine aS (bh (aS (aS (wpAny_loadPart hx (aS (PySem.W.Looks.here (s:={ s with toks:=s.toks+1 }) (PySem.W.looks_clsIn X hc) ?_))))));rw[hd'];refine bh (a:=some dx) (aS (bh (aS ?_)));refine wpAny_nsSet1 (s:={ s with toks:=s.toks+1 }) I.ns λh' hn2 hs2=>?_;obtain⟨oD,esD,epD,hoD,hdD,hcD⟩:=hn2.count (PySem.Within.cons name v hw);refine aS (wpAny_lookBehind hoD (by rw[hdD]; exact pastItsLine_dict (bH hcD (by rw[List.length_cons]; omega))) ?_);exact bh (h _ ⟨(hs2.2 _ (Iv I.ne)).trans I.obj,hn2,I.ne⟩ hs2)
def Ba {R:Result->Shared->Prop}{vs:ar}{kw:aj}(X:K.In s.heap)(hm:PySem.W.makesIn K C=true)
  (hi:PySem.W.findIn K (.ref C) "__init__" = some (some (.ref f)))(hf:PySem.W.typeIn K (.ref f)=some (.type "function"))
  (h:codeAny (model prog w) (A.under (.builtin "type.__call__" ⟨.ref C::vs,kw⟩)) (.call (.ref f) ⟨.ref (s.heap.objs.size+1)::vs,kw⟩) (PySem.W.InitBack (s.heap.objs.size+1) R)
   { s with heap:=(s.heap.push PySem.W.emptyDict).push (PySem.W.instObj C s.heap.objs.size) }) :
  codeAny (model prog w) A (.call (.ref C) ⟨vs,kw⟩) R s:=by
 obtain⟨hh,g,d,t,os⟩:=s;exact PySem.W.make_core (PySem.W.makes_of X hm) (PySem.W.looks_findIn X hi) (λself=>PySem.W.bind_fn X self hf) (.inl rfl) h
end
noncomputable def putF (f:Str)(v:V):List (Str×V)->List (Str×V)
 | []=>[(f,v)]
 | (g,x)::r=>if g=f then (g,v)::r else (g,x)::putF f v r
theorem ux (f g:Str)(v:V):∀fs:List (Str×V),(putF f v fs).lookup g=if g=f then some v else fs.lookup g
 | []=>by
  show List.lookup g [(f,v)]=_;by_cases h:g=f
  .have hb:(g == f)=true:=GC.mpr h;simp only[List.lookup,hb,if_pos h]
  .have hb:(g == f)=false:=Hu.mpr h;simp only[List.lookup,hb,if_neg h]
 | (k,x)::r=>by
  have ih:=ux f g v r;rw[show putF f v ((k,x)::r)=(if k=f then (k,v)::r else (k,x)::putF f v r) from rfl];by_cases hk:k=f
  .rw[if_pos hk];by_cases h:g=k
   .have hb:(g == k)=true:=GC.mpr h;simp only[List.lookup,hb,if_pos (h.trans hk)]
   .have hb:(g == k)=false:=Hu.mpr h;simp only[List.lookup,hb,if_neg (λe:g=f=>h (e.trans hk.symm))]
  .rw[if_neg hk];by_cases h:g=k
   .have hb:(g == k)=true:=GC.mpr h;simp only[List.lookup,hb,if_neg (λe:g=f=>hk (h.symm.trans e))]
   .have hb:(g == k)=false:=Hu.mpr h;simp only[List.lookup,hb];exact ih
theorem sD (f:Str)(v:V):∀fs:List (Str×V),f∈(putF f v fs).map (·.1)/\∀g,g∈fs.map (·.1)->g∈(putF f v fs).map (·.1)
 | []=>⟨by simp[putF],λg h=>by simp at h⟩
 | (k,x)::r=>by
  obtain⟨i1,i2⟩:=sD f v r;rw[show putF f v ((k,x)::r)=(if k=f then (k,v)::r else (k,x)::putF f v r) from rfl];by_cases hk:k=f
  .rw[if_pos hk];subst hk;exact⟨by simp,λg h=>by simpa using h⟩
  .rw[if_neg hk];refine⟨?_,λg h=>?_⟩
   .rw[GA];exact bN _ i1
   .rw[GA] at h ⊢;rcases cg h with e | e
    .exact GO.mpr (.inl e)
    .exact bN _ (i2 g e)
theorem vV (f:Str)(v:V):∀fs:List (Str×V),(putF f v fs).length<=fs.length+1
 | []=>by simp[putF]
 | (k,x)::r=>by
  have ih:=vV f v r;rw[show putF f v ((k,x)::r)=(if k=f then (k,v)::r else (k,x)::putF f v r) from rfl];by_cases hk:k=f
  .rw[if_pos hk,List.length_cons,List.length_cons]; omega
  .rw[if_neg hk,List.length_cons,List.length_cons]; omega
def RelO.some_of {v:V}{o:aB}(r:RelO (some v) o):∃u,o=some u/\RelV v u:=by
 cases o with
 | none=>exact (show False from r).elim
 | some u=>exact⟨u,rfl,r⟩
def RelO.none_of {o:aB}(r:RelO none o):o=none:=by
 cases o with
 | none=>rfl
 | some u=>exact (show False from r).elim
def yH {v:V}{u:Value}(r:RelV v u):PySem.W.handedIn u=true:=by
 cases v with
 | non=>cases (show u=Value.none from r); rfl
 | bl b=>cases (show u=Value.bool b from r); rfl
 | int i=>obtain⟨t,e⟩:=(show ∃t,u=Value.int i t from r); cases e; rfl
 | str x=>obtain⟨t,e⟩:=(show ∃t,u=Value.str x t from r); cases e; rfl
 | byt b=>obtain⟨t,e⟩:=(show ∃t,u=Value.bytes b t from r); cases e; rfl
 | flt b=>obtain⟨t,e⟩:=(show ∃t,u=Value.float b t from r); cases e; rfl
 | ref a=>cases (show u=Value.ref a from r); rfl
 | ty n=>cases (show u=Value.type n from r); rfl
section
variable {P:Program}{w:World}{H H':Hp}{h h':Heap}{a C dx:Addr}{fs fs':List (Str×V)}
def oH (hok:HOk P w H h)(e:H a=some (.ins C dx fs)):∃mA,ObjM h a dx C mA/\(∀f,RelO (fs.lookup f) (mA f))/\PySem.Within mA (fs.map (·.1))/\fs.length<=1000/\H dx=some (.own a):=by
 obtain⟨d,z,ne,ob,mA,n,r,q⟩:=(show ObjOk P w H h a (.ins C dx fs) from hok a _ e)
 exact⟨mA,⟨ob,n,ne⟩,r,q,z,d⟩
end
structure Cls (K:bq)(C:Addr):Prop where
 pg:PySem.W.plainGet K C Str.empty=true
 hd:PySem.W.hasDictIn K C=true
 po:PySem.W.plainOver K C=true
 sa:PySem.W.findIn K (.ref C) "__setattr__" = some (some (.builtin "object.__setattr__"))
def Cls.get {K:bq}{C:Addr}(c:Cls K C)(f:Str):PySem.W.plainGet K C f=true:=c.pg
def NoAttr (K:bq)(C:Addr)(f:Str):Prop:=PySem.W.findIn K (.ref C) f=some none
def NoAttr.taker {K:bq}{C:Addr}{f:Str}(n:NoAttr K C f):PySem.W.takerIn K C f=some none:=by
 unfold PySem.W.takerIn;rw[show PySem.W.findIn K (.ref C) f=some none from n];rfl
structure Meth (K:bq)(C:Addr)(m:Str)(f:Addr):Prop where
 at_:PySem.W.findIn K (.ref C) m=some (some (.ref f))
 fn:PySem.W.isFn K (.ref f)=true
 kp:PySem.W.keepIn K (.ref f)=true
section
variable {X:Cx}{pins:ah}{σ:St}{H:Hp}{s:Shared}{a C dx:Addr}{fs:List (Str×V)}{f:Str}{v:V}{A:Around}{E:Value->Shared->Prop}
def Eg {b:Bool}{Q:Value->Shared->Prop}(I:Inv X pins σ H s)(e:H a=some (.ins C dx fs))(c:Cls X.K C)(n:NoAttr X.K C f)(l:fs.lookup f=some v)
  (h:∀u s',Inv X pins σ H s'->RelV v u->Q u s'):wpAny (model X.prog X.w) A (getAttr (.ref a) f b) Q E s:=by
 obtain⟨mA,O,r,_,_,_⟩:=oH I.hok e;obtain⟨u,hu,ru⟩:=RelO.some_of (v:=v) (o:=mA f) (by rw[<-l]; exact r f);exact zS I.kIn O (c.get f) c.hd n hu (yH ru) (h u _ (I.tok _) ru)
def uA {m:Str}{g:Addr}{pl:Sem Bool}{Q:Value×ar->Shared->Prop}(I:Inv X pins σ H s)(e:H a=some (.ins C dx fs))(c:Cls X.K C)(k:Meth X.K C m g)(l:fs.lookup m=none)
  (h:Q (.ref g,[.ref a]) s):wpAny (model X.prog X.w) A (getMethod (.ref a) m pl) Q E s:=by
 obtain⟨mA,O,r,_,_,_⟩:=oH I.hok e;have hn:mA m=none:=RelO.none_of (by rw[<-l]; exact r m);exact Cm I.kIn O (c.get m) k.at_ k.fn hn h
def zb {y:V}{u:Value}{Q:Unit->Shared->Prop}(I:Inv X pins σ H s)(e:H a=some (.ins C dx fs))(c:Cls X.K C)(n:NoAttr X.K C f)(hl:fs.length<1000)(ry:RelV y u)
  (h:∀s',Inv X pins σ (upd H a (.ins C dx (putF f y fs))) s'->Q () s'):wpAny (model X.prog X.w) A (setAttr (.ref a) f u) Q E s:=by
 obtain⟨mA,O,r,wi,_,ho⟩:=oH I.hok e;have hz:(fs.map (·.1)).length<=sizeLine:=by rw[Gx,HL]; omega
 refine Gn I.kIn O c.sa c.po n.taker c.hd wi hz λh' O' sb=>h _ ?_;have hd:∃o,h'.get? dx=some o:=let ⟨o,_,_,e',_⟩:=O'.ns; ⟨o,e'⟩
 refine I.write (x:=a) (e:=dx) (by rw[e]; exact Jm) (.inr ho) (λb q hb z=>(sb.2 b hb).trans z) hd ?_;refine⟨by rw[ca O.ne]; exact ho,?_,O.ne,O'.obj,_,O'.ns,λg=>?_,λg hg=>?_⟩
 .have:=vV f y fs; omega
 .show RelO ((putF f y fs).lookup g) (if g=f then some u else mA g);rw[ux];by_cases q:g=f
  .rw[if_pos q,if_pos q]; exact ry
  .rw[if_neg q,if_neg q]; exact r g
 .by_cases q:g=f
  .rw[q]; exact (sD f y fs).1
  .refine (sD f y fs).2 g (wi g λz=>hg ?_);show (if g=f then some u else mA g)=none;rw[if_neg q]; exact z
def Inv.made (I:Inv X pins σ H s):Inv X pins σ (upd (upd H s.heap.objs.size (.own (s.heap.objs.size+1))) (s.heap.objs.size+1) (.ins C s.heap.objs.size []))
  { s with heap:=(s.heap.push PySem.W.emptyDict).push (PySem.W.instObj C s.heap.objs.size) }:=by
 have e1:(s.heap.push PySem.W.emptyDict).get? s.heap.objs.size=some PySem.W.emptyDict:=df s.heap rfl;have e2:((s.heap.push PySem.W.emptyDict).push (PySem.W.instObj C s.heap.objs.size)).get? (s.heap.objs.size+1)=some (PySem.W.instObj C s.heap.objs.size):=by
  have:=df (s.heap.push PySem.W.emptyDict) (o:=PySem.W.instObj C s.heap.objs.size) rfl
  rwa [GT] at this
 have e3:(s.heap.push PySem.W.emptyDict).Ns s.heap.objs.size (λ_=>none):=⟨PySem.W.emptyDict,#[],_,e1,rfl,(λe he=>absurd he (by simp)),λ_=>rfl⟩
 have I1:=I.laid (a:=s.heap.objs.size) (o:=.own (s.heap.objs.size+1)) (h':=s.heap.push PySem.W.emptyDict) (t':=s.toks) (λb u q=>b7 _ q) (bC _) ⟨_,e1⟩;refine I1.laid (a:=s.heap.objs.size+1) (o:=.ins C s.heap.objs.size []) (t':=s.toks) (λb u q=>b7 _ q) (Jx (GT _ _)) ?_;have ne:s.heap.objs.size≠s.heap.objs.size+1:=dk (HF _);refine⟨by rw[ca ne,cM],GX _,ne,e2,λ_=>none,(Heap.Ns1.of_empty e3).at λo q=>b7 _ q,λ_=>Jm,λy hy=>absurd rfl hy⟩
def yx {prog:Program}{w:World}{env:Env}{e:Expr}{f:Str}{pos:Pos}{s:Shared}{Q:Value->Shared->Prop}(hb:attributeBase e f env (eval e env)=eval e env)
  (h:wpAny (model prog w) A (eval e env) (λo s₁=>wpAny (model prog w) A (getAttr o f true) Q E s₁) E s):wpAny (model prog w) A (eval (.Attribute e f pos) env) Q E s:=
 Attribute_any_ h (by rw[arm_eval_Attribute,hb])
end
def pI (K:bq)(ta:TE)(f:Str):TE:=λσ H Q=>ta σ H λx H1=>∃a C dx fs v,x=.ref a/\H1 a=some (.ins C dx fs)/\Cls K C/\NoAttr K C f/\fs.lookup f=some v/\Q v H1
def gG (K:bq)(ta tv:TE)(f:Str):TS:=λD σ H=>tv σ H λy H1=>ta σ H1 λx H2=>∃a C dx fs,x=.ref a/\H2 a=some (.ins C dx fs)/\Cls K C/\NoAttr K C f/\fs.length<1000 /\
 D.nx σ (upd H2 a (.ins C dx (putF f y fs)))
section
variable {X:Cx}{o e value:Expr}{f:Str}{pos pos' tpos:Pos}{ta tv:TE}
def Ge (he:PE X e ta)(hb:attributeBase e f X.env (eval e X.env)=eval e X.env):PE X (.Attribute e f pos) (pI X.K ta f):=by
 intro pins s σ H Q I h;refine yx hb (bi (he pins s σ H _ I h) λu s1 hZz=>?_);obtain⟨x,H1,I1,rx,a,C,dx,fs,v,ex,ea,c,n,l,q⟩:=hZz;subst ex;obtain rfl:u=Value.ref a:=rx;exact Eg I1 ea c n l λu' s2 I2 ru=>⟨v,H1,I2,ru,q⟩
def yD (ha:PE X o ta)(hv:PE X value tv)(hs:swapsWith value (some (.Attribute o f pos')) pos.line X.env=pure false):PS X (.Assign [.Attribute o f pos'] value pos) (gG X.K ta tv f):=by
 intro pins s σ H D I h;refine plainObj_wpAny_Assign_Attribute (bi (hv pins s σ H _ I h) λu s1 ⟨y,H1,I1,ry,q⟩=>bi (ha pins s1 σ H1 _ I1 q) λov s2 hZz=>?_) hs;obtain⟨x,H2,I2,rx,a,C,dx,fs,ex,ea,c,n,l,q2⟩:=hZz;subst ex;obtain rfl:ov=Value.ref a:=rx;exact zb I2 ea c n l ry λs3 I3=>⟨σ,_,I3,q2⟩
end
section
variable {X:Cx}{pins:ah}{σ:St}{H:Hp}{s:Shared}{A:Around}{E:Value->Shared->Prop}{Q:Value->Shared->Prop}{c:Value}{b:Bool}
inductive TyOf (K:bq) (H:Hp):V->Value->Prop where
 | non:TyOf K H .non (.type "NoneType")
 | bl (x:Bool):TyOf K H (.bl x) (.type "bool")
 | int (i:Int):TyOf K H (.int i) (.type "int")
 | str (x:Str):TyOf K H (.str x) (.type "str")
 | flt (x:UInt64):TyOf K H (.flt x) (.type "float")
 | lst {a:Addr} {xs:aw} (e:H a=some (.lst xs)):TyOf K H (.ref a) (.type "list")
 | frz {a:Addr} {o:Obj} {xs:aw} (e:H a=some (.frz o (.lst xs))):TyOf K H (.ref a) (.type "list")
 | tup {a:Addr} {xs:aw} (e:H a=some (.tup xs)):TyOf K H (.ref a) (.type "tuple")
 | dK {a:Addr} {kvs:List (eH×V)} (e:H a=some (.dK kvs)):TyOf K H (.ref a) (.type "dict")
 | dT {a:Addr} {kvs:List (List eH×V)} (e:H a=some (.dT kvs)):TyOf K H (.ref a) (.type "dict")
 | ins {a C dx:Addr} {fs:List (Str×V)} (e:H a=some (.ins C dx fs)) (cl:Cls K C) (ha:PySem.W.findIn K (.ref C) "__class__" = some (some (.builtin "object.__class__")))
   (hn:PySem.W.specialIn K (.builtin "object.__class__") "__get__" = some (some (.builtin "getset_descriptor.__get__"))) (htk:PySem.W.takesIn K (.builtin "object.__class__")=some true)
   (hm:PySem.W.mroIn K C (.type "object")=some true):TyOf K H (.ref a) (.ref C)
def jy {x:V}{u t:Value}(I:Inv X pins σ H s)(rx:RelV x u)(ty:TyOf X.K H x t)(e:PySem.W.kitOne X.K t c=some b)(h:∀tk,Q (.bool b) { s with toks:=tk }) :
  wpAny (model X.prog X.w) A (call (.builtin "isinstance") [u,c]) Q E s:=by
 cases ty with
 | non=>cases (show u=Value.none from rx); exact Hb PySem.W.kitx_none I.kIn Jm e (λz=>nomatch z) h
 | bl y=>cases (show u=Value.bool y from rx); exact Hb PySem.W.kitx_bool I.kIn Jm e (λz=>nomatch z) h
 | int i=>obtain⟨t,q⟩:=(show ∃t,u=Value.int i t from rx); cases q; exact Hb PySem.W.kitx_int I.kIn Jm e (λz=>nomatch z) h
 | str y=>obtain⟨t,q⟩:=(show ∃t,u=Value.str y t from rx); cases q; exact Hb PySem.W.kitx_str I.kIn Jm e (λz=>nomatch z) h
 | flt y=>obtain⟨t,q⟩:=(show ∃t,u=Value.float y t from rx); cases q; exact Hb PySem.W.kitx_float I.kIn Jm e (λz=>nomatch z) h
 | @lst a xs ea=>
  cases (show u=Value.ref a from rx);obtain⟨_,_,n,_,h1⟩:=(show ObjOk X.prog X.w H s.heap a (.lst xs) from I.hok a _ ea)
  exact Hb PySem.W.kitx_list I.kIn ⟨_,h1,rfl⟩ e (λz=>nomatch z) h
 | @frz a ob xs ea=>
  cases (show u=Value.ref a from rx);obtain⟨_,_,_,n,_,h1⟩:=(show ObjOk X.prog X.w H s.heap a (.frz ob (.lst xs)) from I.hok a _ ea)
  exact Hb PySem.W.kitx_list I.kIn ⟨_,h1,rfl⟩ e (λz=>nomatch z) h
 | @tup a xs ea=>
  cases (show u=Value.ref a from rx);obtain⟨_,_,_,p⟩:=(show ObjOk X.prog X.w H s.heap a (.tup xs) from I.hok a _ ea)
  obtain⟨o,h1,h2,_⟩:=p;exact Hb PySem.W.kitx_tuple I.kIn ⟨o,h1,h2⟩ e (λz=>nomatch z) h
 | @dK a kvs ea=>
  cases (show u=Value.ref a from rx);obtain⟨_,_,vs,_,p⟩:=(show ObjOk X.prog X.w H s.heap a (.dK kvs) from I.hok a _ ea)
  obtain⟨o,es,ep,h1,h2,_⟩:=p;exact Hb PySem.W.kitx_dict I.kIn ⟨o,h1,h2.1⟩ e (λz=>nomatch z) h
 | @dT a kvs ea=>
  cases (show u=Value.ref a from rx);obtain⟨_,_,xs,_,o,es,ep,h1,h2,_⟩:=(show ObjOk X.prog X.w H s.heap a (.dT kvs) from I.hok a _ ea)
  exact Hb PySem.W.kitx_dict I.kIn ⟨o,h1,h2.1⟩ e (λz=>nomatch z) h
 | @ins a C dx fs ea cl ha hn htk hm=>
  cases (show u=Value.ref a from rx);obtain⟨mA,O,_⟩:=oH I.hok ea;obtain⟨od,J,_⟩:=O.look;exact Hb (PySem.W.kitx_own (cl.get _) cl.hd ha hn htk hm) I.kIn J e (λz=>nomatch z) h
end
end L2
namespace L2
open PySem PySem.Spec PyProof.Rows
structure Room (k:Nat)(A:Around):Prop where
 hd:A.handled=none
 dp:A.depth+3 * k+5<recursionLimit
 un:A.units+16 * k+200<cLine
def Room.mono {j k:Nat}{A:Around}(r:Room k A)(h:j<=k):Room j A:=⟨r.hd,by have:=r.dp; omega,by have:=r.un; omega⟩
theorem Room.deeper {k:Nat}{A:Around}(r:Room (k+1) A)(env:Env):Room k (A.deeper env):=
 ⟨r.hd,by have:=r.dp; show A.depth+1+3 * k+5<_; omega,by have:=r.un; show A.units+3+16 * k+200<_; omega⟩
def Bf {A:Around}{C:Addr}{us:ar}{kw:aj}:(A.under (.builtin "type.__call__" ⟨.ref C::us,kw⟩)).depth=A.depth+1:=by
 first | rfl | simp[Around.under,Code.weight,Code.isCreation,Code.isGuard,Code.isCaller,Code.frames,Code.isFrame,guardIds]
def E5 {A:Around}{C:Addr}{us:ar}{kw:aj}:(A.under (.builtin "type.__call__" ⟨.ref C::us,kw⟩)).units=A.units+1:=by
 first | rfl | simp[Around.under,Code.cUnits,Code.frames,Code.isFrame]
def Room.make {k:Nat}{A:Around}(r:Room (k+1) A)(C:Addr)(us:ar)(kw:aj):Room k (A.under (.builtin "type.__call__" ⟨.ref C::us,kw⟩)):=
 ⟨r.hd,by have:=r.dp; rw[Bf]; omega,by have:=r.un; rw[E5]; omega⟩
theorem Room.depth {k:Nat}{A:Around}(r:Room k A):A.depth<recursionLimit:=by have:=r.dp; omega
theorem Room.units {k:Nat}{A:Around}(r:Room k A):A.units+64<cLine:=by have:=r.un; omega
def dI:TA:=λ_ H Q=>Q [] H
def bZ (ta:TE)(tr:TA):TA:=λσ H Q=>ta σ H λx H1=>tr σ H1 λxs H2=>Q (x::xs) H2
section
variable {X:Cx}{e:Expr}{es:av}{te:TE}{t:TA}{pos:Pos}
def jR:PA X [] dI:=λ_ _ _ _ H Q I h=>Ij ⟨[],H,I,.nil,h⟩
def gQ (ha:PE X e te)(hr:PA X es t)(hs:starEach (e::es) X.env=(false,eval e X.env)::starEach es X.env:=by rfl):PA X (e::es) (bZ te t):=by
 intro pos pins s σ H Q I h;rw[hs];show wpAny _ _ (spliced ((false,eval e X.env)::backTo pos (starEach es X.env))) _ _ s;refine HV (bi (ha pins s σ H _ I h) λu s1 hZz=>?_);obtain⟨x,H1,I1,r1,q1⟩:=hZz;exact bi (hr pos pins s1 σ H1 _ I1 q1) λus s2 ⟨xs,H2,I2,r2,q2⟩=>⟨x::xs,H2,I2,.cons r1 r2,q2⟩
def nB (t:TA):TE:=λσ H Q=>t σ H λxs H1=>xs.length<=sizeLine/\∀p,H1 p=none->Q (.ref p) (upd H1 p (.tup xs))
def sQ (t:TA):TE:=λσ H Q=>t σ H λxs H1=>xs.length<=sizeLine/\∀p,H1 p=none->Q (.ref p) (upd H1 p (.lst xs))
def w8 {x1}(h:PA X es t):PE X (.Tuple es x1 pos) (nB t):=by
 intro pins s σ H Q I hq;refine wpAny_Tuple_spliced (bi (h pos pins s σ H _ I hq) λus s1 ⟨xs,H1,I1,r,z,q⟩=>⟨by rw[<-r.length]; exact z,?_⟩);have hf:H1 s1.heap.objs.size=none:=I1.hok.fresh (bC _);refine⟨.ref s1.heap.objs.size,upd H1 s1.heap.objs.size (.tup xs),I1.laid (t':=s1.toks) (λb u e=>b7 _ e) (bC _) ?_,rfl,q _ hf⟩;exact⟨z,us,r,⟨_,df _ rfl,rfl,⟨_,rfl⟩,rfl⟩⟩
def F7 (h:PA X es t):PE X (.List es pos) (sQ t):=by
 intro pins s σ H Q I hq;refine wpAny_List_spliced (bi (h pos pins s σ H _ I hq) λus s1 ⟨xs,H1,I1,r,z,q⟩=>⟨by rw[<-r.length]; exact z,?_⟩);have hf:H1 s1.heap.objs.size=none:=I1.hok.fresh (bC _);refine⟨.ref s1.heap.objs.size,upd H1 s1.heap.objs.size (.lst xs),I1.laid (t':=s1.toks) (λb u e=>b7 _ e) (bC _) ?_,rfl,q _ hf⟩;exact⟨z,us,0,r,df _ rfl⟩
end
abbrev Sp:=aw->Hp->VK->XK->Prop
noncomputable abbrev gk:=List Env->Hp->Shared->XK->Value->Shared->Prop
structure Env0 (P:Program)(w:World)(K:bq)(mg:Str->aB)(base:Heap)(A:Around)(outer:List Env)(s:Shared)(H:Hp):Prop where
 frames:A.frames=some outer
 mod:Mod K mg base
 bs:∀b o,base.get? b=some o->s.heap.get? b=some o/\H b=none
 bsz:base.objs.size<=s.heap.objs.size
 funs:s.heap.FunFrames base outer
 frf:∀b∈frs outer,H b=none
 hok:HOk P w H s.heap
 bare:AllBare s.gens
def CE (outer:List Env)(P:Program)(w:World)(H:Hp)(s:Shared)(Q:VK)(u:Value)(s':Shared):Prop:=
 ∃v H',s'.os=s.os/\AllBare s'.gens/\Un (frs outer) [] H H' s.heap s'.heap/\HOk P w H' s'.heap/\RelV v u/\Q v H'
def CR (CX:gk)(outer:List Env)(P:Program)(w:World)(H:Hp)(s:Shared)(Q:VK)(E:XK)(r:Result)(s':Shared):Prop:=
 match r with
 | .ok (.ret u)=>CE outer P w H s Q u s'
 | .ok _=>False
 | .error e=>CX outer H s E e s'
structure FnOk (P:Program)(w:World)(K:bq)(mg:Str->aB)(base:Heap)(CX:gk)(k:Nat)(f:Addr)(fd:FuncData)(ps:au)(sp:Sp):Prop where
 len:∀vs H Q E,sp vs H Q E->vs.length=ps.length
 run:∀(A:Around) (outer:List Env) (s:Shared) (H:Hp) (args:Args) (us:ar) (vs:aw) (Q:VK) (E:XK),Room k A->Env0 P w K mg base A outer s H->BindsTo s fd args (ps.zip us)->Vals vs us->sp vs H Q E ->
  codeAny (model P w) A (.call (.ref f) args) (CR CX outer P w H s Q E) s
def FnOk.imp {P:Program}{w:World}{K:bq}{mg:Str->aB}{base:Heap}{CX:gk}{k:Nat}{f:Addr}{fd:FuncData}{ps:au}{sp sp':Sp}(F:FnOk P w K mg base CX k f fd ps sp)
  (h:∀vs H Q E,sp' vs H Q E->sp vs H Q E):FnOk P w K mg base CX k f fd ps sp':=
 ⟨λvs H Q E q=>F.len vs H Q E (h _ _ _ _ q),λA outer s H args us vs Q E hr he hb hv hs=>F.run A outer s H args us vs Q E hr he hb hv (h _ _ _ _ hs)⟩
def Env0.make {P:Program}{w:World}{K:bq}{mg:Str->aB}{base:Heap}{A:Around}{outer:List Env}{s:Shared}{H:Hp}(e:Env0 P w K mg base A outer s H)(C:Addr)(us:ar)(kw:aj) :
  Env0 P w K mg base (A.under (.builtin "type.__call__" ⟨.ref C::us,kw⟩)) outer s H:=⟨by first | exact e.frames | (simpa[Around.under,Code.envs,Code.isFrame,pushEnvs] using e.frames),e.mod,e.bs,e.bsz,e.funs,e.frf,e.hok,e.bare⟩
section
variable {X:Cx}{pins:ah}{σ:St}{H:Hp}{s s':Shared}
def Inv.env0 (I:Inv X pins σ H s):Env0 X.prog X.w X.K X.mg X.base X.A X.stack s H:=
 ⟨I.ok.frames,I.ok.mod,I.bs,bH I.ok.bsz I.sz,I.stack,I.stkFree,I.hok,I.bare⟩
def Inv.after {Q:VK}{u:Value}(I:Inv X pins σ H s)(h:CE X.stack X.prog X.w H s Q u s'):EP X pins σ Q u s':=by
 obtain⟨v,H',os,bare,un,hok,r,q⟩:=h;obtain⟨hh,g,d,t,os'⟩:=s';obtain rfl:os'=s.os:=os;exact⟨v,H',I.call (h':=hh) (g':=g) (d':=d) (t':=t) (ch:=[]) un hok bare (λb z=>absurd z (by simp)),r,q⟩
end
def fP (sp:Sp)(dvs:aw)(E:St->XK)(t:TA):TE:=λσ H Q=>t σ H λvs H1=>sp (vs++dvs) H1 Q (E σ)
def eY (C:Addr)(m:Str)(sp:Sp)(dvs:aw)(E:St->XK)(ta:TE)(t:TA):TE:=λσ H Q=>ta σ H λx H1=>∃a dx fs,x=.ref a/\H1 a=some (.ins C dx fs)/\fs.lookup m=none /\
 t σ H1 λvs H2=>sp (x::(vs++dvs)) H2 Q (E σ)
def fY (C:Addr)(sp:Sp)(dvs:aw)(E:St->XK)(t:TA):TE:=λσ H Q=>t σ H λvs H1=>∀x dx,H1 x=none->H1 dx=none->dx≠x ->
 sp (.ref x::(vs++dvs)) (upd (upd H1 dx (.own x)) x (.ins C dx [])) (λv H2=>v=.non/\Q (.ref x) H2) (E σ)
def Binds (K:bq)(fd:FuncData)(ps:au)(ds:ar):Prop:=
 ∀(s:Shared) (us:ar),K.In s.heap->(us++ds).length=ps.length->BindsTo s fd ⟨us,[]⟩ (ps.zip (us++ds))
def Binds.all {K:bq}{fd:FuncData}{ps:au}(h:∀us:ar,us.length=ps.length->bindArgs fd ⟨us,[]⟩=pure (ps.zip us)):Binds K fd ps []:=λs us _ hl=>by
 rw[Hn] at hl ⊢;exact .of_eq (h us hl)
def bU (CX:gk)(X:Cx)(E:St->XK):Prop:=∀(pins:ah) (σ:St) (H:Hp) (s:Shared) (e:Value) (s':Shared),Inv X pins σ H s->CX X.stack H s (E σ) e s'->X.xe e s'
section
variable {X:Cx}{CX:gk}{k:Nat}{f C:Addr}{fd:FuncData}{ps:au}{sp:Sp}{dvs:aw}{ds:ar}{E:St->XK}{x m:Str}{p pos apos:Pos}{e o:Expr}{es:av}{ta:TE}{t:TA}
def oQ {pins:ah}{σ:St}{H:Hp}{s:Shared}{Q:VK}{us:ar}{vs:aw}(F:FnOk X.prog X.w X.K X.mg X.base CX k f fd ps sp)(hr:Room k X.A)(hb:Binds X.K fd ps ds)(hd:Vals dvs ds)(hx:bU CX X E)
  (I:Inv X pins σ H s)(r:Vals vs us)(h:sp (vs++dvs) H Q (E σ)):wpAny (model X.prog X.w) X.A (call (.ref f) us) (EP X pins σ Q) X.xe s:=by
 have r2:Vals (vs++dvs) (us++ds):=r.append hd;have hl:(us++ds).length=ps.length:=by rw[<-r2.length]; exact F.len _ _ _ _ h
 refine wpAny_call (IS (F.run X.A X.stack s H ⟨us,[]⟩ (us++ds) (vs++dvs) Q (E σ) hr I.env0 (hb s us I.kIn hl) r2 h) λr s' hq=>?_);cases r with
 | error e=>exact hx pins σ H s e s' I hq
 | ok fl=>
  cases fl with
  | ret u=>exact I.after hq
  | next=>exact False.elim hq
  | brk=>exact False.elim hq
  | cont=>exact False.elim hq
def CZ (F:FnOk X.prog X.w X.K X.mg X.base CX k f fd ps sp)(hr:Room k X.A)(hg:Gl X x)(hm:X.mg x=some (.ref f))(hk:PySem.W.keepIn X.K (.ref f)=true)(hb:Binds X.K fd ps ds)(hd:Vals dvs ds)(hx:bU CX X E)
  (ha:PA X (e::es) t)(hdb:(x == ("__debug__" : Str))=false:=by decide)(he:starEach (e::es) X.env=(false,eval e X.env)::starEach es X.env:=by rfl)(hpl:(backTo pos (starEach es X.env)).any (·.1)=false:=by rfl) :
  PE X (.Call (.Name x p) (e::es) [] pos) (fP sp dvs E t):=by
 intro pins s σ H Q I h;refine G9 (lD I hg hm ?_ hdb);refine JA (h₀:=X.base) I.ok.mod.kin hk (bi (ha pos pins s σ H _ I h) λus s1 ⟨vs,H1,I1,r,q⟩=>⟨I1.kIn,?_⟩) he hpl;exact oQ F hr hb hd hx I1 r q
def yy (F:FnOk X.prog X.w X.K X.mg X.base CX k f fd ps sp)(hr:Room k X.A)(hg:Gl X x)(hm:X.mg x=some (.ref f))(hk:PySem.W.keepIn X.K (.ref f)=true)(hb:Binds X.K fd ps ds)(hd:Vals dvs ds)(hx:bU CX X E)
  (hdb:(x == ("__debug__" : Str))=false:=by decide):PE X (.Call (.Name x p) [] [] pos) (fP sp dvs E dI):=by
 intro pins s σ H Q I h;refine G9 (lD I hg hm ?_ hdb);exact Jv I.kIn hk (oQ (us:=[]) F hr hb hd hx I .nil h)
def F9 {pl:Sem Bool}(he:PE X o ta)(c:Cls X.K C)(hm:Meth X.K C m f)(F:FnOk X.prog X.w X.K X.mg X.base CX k f fd ps sp)(hr:Room k X.A)(hb:Binds X.K fd ps ds)(hd:Vals dvs ds)(hx:bU CX X E)(ha:PA X (e::es) t)
  (hst:starEach (e::es) X.env=(false,eval e X.env)::starEach es X.env:=by rfl)(hpl:(backTo pos (starEach es X.env)).any (·.1)=false:=by rfl)
  (ht:eval (.Call (.Attribute o m apos) (e::es) [] pos) X.env=(do
   let ov <-eval o X.env
   standAt apos.atName
   let (f,first) <-holding [ov] (getMethod ov m pl)
   callWith pos f first (backTo pos (starEach (e::es) X.env)) (backToKw pos (keywordEach [] X.env))):=by rfl) :
  PE X (.Call (.Attribute o m apos) (e::es) [] pos) (eY C m sp dvs E ta t):=by
 intro pins s σ H Q I h;refine Ji (pl:=pl) (bi (he pins s σ H _ I h) λu s1 hZz=>?_) ht;obtain⟨x,H1,I1,rx,a,dx,fs,ex,ea,l,q⟩:=hZz;subst ex;obtain rfl:u=Value.ref a:=rx;refine uA I1 ea c hm l ?_;refine JA (first:=[.ref a]) (h₀:=X.base) I.ok.mod.kin hm.kp (bi (ha pos pins s1 σ H1 _ I1 q) λus s2 ⟨vs,H2,I2,r,q2⟩=>⟨I2.kIn,?_⟩) hst hpl;exact oQ (us:=.ref a::us) (vs:=.ref a::vs) F hr hb hd hx I2 (.cons rfl r) q2
def Ai {pl:Sem Bool}(he:PE X o ta)(c:Cls X.K C)(hm:Meth X.K C m f)(F:FnOk X.prog X.w X.K X.mg X.base CX k f fd ps sp)(hr:Room k X.A)(hb:Binds X.K fd ps ds)(hd:Vals dvs ds)(hx:bU CX X E)
  (ht:eval (.Call (.Attribute o m apos) [] [] pos) X.env=(do
   let ov <-eval o X.env
   standAt apos.atName
   let (f,first) <-holding [ov] (getMethod ov m pl)
   callWith pos f first (backTo pos (starEach [] X.env)) (backToKw pos (keywordEach [] X.env))):=by rfl) :
  PE X (.Call (.Attribute o m apos) [] [] pos) (eY C m sp dvs E ta dI):=by
 intro pins s σ H Q I h;refine Ji (pl:=pl) (bi (he pins s σ H _ I h) λu s1 hZz=>?_) ht;obtain⟨x,H1,I1,rx,a,dx,fs,ex,ea,l,q⟩:=hZz;subst ex;obtain rfl:u=Value.ref a:=rx;refine uA I1 ea c hm l ?_;exact Jv (first:=[.ref a]) I1.kIn hm.kp (oQ (us:=[.ref a]) (vs:=[.ref a]) F hr hb hd hx I1 (.cons rfl .nil) q)
structure Mk (K:bq)(C f:Addr):Prop where
 makes:PySem.W.makesIn K C=true
 init:PySem.W.findIn K (.ref C) "__init__" = some (some (.ref f))
 fn:PySem.W.isFn K (.ref f)=true
 kp:PySem.W.keepIn K (.ref C)=true
def vY {pins:ah}{σ:St}{H:Hp}{s:Shared}{Q:VK}{us:ar}{vs:aw}(M:Mk X.K C f)(F:FnOk X.prog X.w X.K X.mg X.base CX k f fd ps sp)(hr:Room (k+1) X.A)(hb:Binds X.K fd ps ds)(hd:Vals dvs ds)
  (hx:bU CX X E)(I:Inv X pins σ H s)(r:Vals vs us)
  (h:∀x dx,H x=none->H dx=none->dx≠x->sp (.ref x::(vs++dvs)) (upd (upd H dx (.own x)) x (.ins C dx [])) (λv H2=>v=.non/\Q (.ref x) H2) (E σ)) :
  wpAny (model X.prog X.w) X.A (call (.ref C) us) (EP X pins σ Q) X.xe s:=by
 have hq:=h (s.heap.objs.size+1) s.heap.objs.size (I.hok.fresh (HE _)) (I.hok.fresh (bC _)) (dk (HF _));have I2:=Inv.made (C:=C) I;have r2:Vals (V.ref (s.heap.objs.size+1)::(vs++dvs)) (Value.ref (s.heap.objs.size+1)::(us++ds)):=.cons rfl (r.append hd);have hl:(Value.ref (s.heap.objs.size+1)::us++ds).length=ps.length:=by
  have e:=r2.length;rw[F.len _ _ _ _ hq] at e;exact e.symm
 refine wpAny_call (Ba (f:=f) I.kIn M.makes M.init (GC.mp M.fn) (IS (F.run _ X.stack _ _ ⟨Value.ref (s.heap.objs.size+1)::us,[]⟩ (Value.ref (s.heap.objs.size+1)::(us++ds)) _ _ (E σ) (hr.make C us [])
  (I2.env0.make C us []) (hb _ (Value.ref (s.heap.objs.size+1)::us) I2.kIn hl) r2 hq) λr s' hq'=>?_))
 cases r with
 | error e=>exact hx pins σ _ _ e s' I2 hq'
 | ok fl=>
  cases fl with
  | ret u=>
   obtain⟨v,H',I3,rv,ev,q3⟩:=I2.after hq';subst ev;exact⟨rv,⟨V.ref (s.heap.objs.size+1),H',I3,rfl,q3⟩⟩
  | next=>exact False.elim hq'
  | brk=>exact False.elim hq'
  | cont=>exact False.elim hq'
def Ev (M:Mk X.K C f)(F:FnOk X.prog X.w X.K X.mg X.base CX k f fd ps sp)(hr:Room (k+1) X.A)(hg:Gl X x)(hm:X.mg x=some (.ref C))(hb:Binds X.K fd ps ds)(hd:Vals dvs ds)(hx:bU CX X E)
  (ha:PA X (e::es) t)(hdb:(x == ("__debug__" : Str))=false:=by decide)(he:starEach (e::es) X.env=(false,eval e X.env)::starEach es X.env:=by rfl)(hpl:(backTo pos (starEach es X.env)).any (·.1)=false:=by rfl) :
  PE X (.Call (.Name x p) (e::es) [] pos) (fY C sp dvs E t):=by
 intro pins s σ H Q I h;refine G9 (lD I hg hm ?_ hdb);refine JA (h₀:=X.base) I.ok.mod.kin M.kp (bi (ha pos pins s σ H _ I h) λus s1 ⟨vs,H1,I1,r,q⟩=>⟨I1.kIn,?_⟩) he hpl;exact vY M F hr hb hd hx I1 r q
def Go (M:Mk X.K C f)(F:FnOk X.prog X.w X.K X.mg X.base CX k f fd ps sp)(hr:Room (k+1) X.A)(hg:Gl X x)(hm:X.mg x=some (.ref C))(hb:Binds X.K fd ps ds)(hd:Vals dvs ds)(hx:bU CX X E)
  (hdb:(x == ("__debug__" : Str))=false:=by decide):PE X (.Call (.Name x p) [] [] pos) (fY C sp dvs E dI):=by
 intro pins s σ H Q I h;refine G9 (lD I hg hm ?_ hdb);exact Jv I.kIn M.kp (vY (us:=[]) M F hr hb hd hx I .nil h)
end
section
variable {X:Cx}{CX:gk}{k:Nat}{f C:Addr}{fd:FuncData}{ps ks:au}{sp:Sp}{E:St->XK}{x m:Str}{p pos apos kpos:Pos}{e o:Expr}{es:av}{kws:List Keyword}{te ta:TE}{t tk:TA}{nm:Option Str}
variable {g:ar->ar->ar}{gV:aw->aw->aw}
end
structure FnScope (N P:au)(sc:Scope):Prop where
 kind:sc.kind=.function
 co:sc.isCoroutine=false
 gen:sc.isGenerator=false
 nd:N.Nodup
 pre:N.take P.length=P
 par:∀x∈P,sc.names.lookup x=some .local\/sc.names.lookup x=some .cell
 nofree:∀y∈sc.names,y.2≠.free
theorem ww {kindOf:Str->Option NameKind}{x:Str}:∀{binds:aj} {m:Str->aB},(∀v,(x,v)∉binds)->bindL kindOf binds m x=m x
 | [],_,_=>rfl
 | (n,v)::r,m,h=>by
  unfold bindL;rw[ww λw hw=>h w (Hh _ hw)];split
  .have:x≠n:=by rintro rfl; exact h v bQ
   simp[this]
  .rfl
theorem wy {kindOf:Str->Option NameKind}{x:Str}:∀{binds:aj} {m:Str->aB},(∀v,(x,v)∉binds)->bindC kindOf binds m x=m x
 | [],_,_=>rfl
 | (n,v)::r,m,h=>by
  unfold bindC;rw[wy λw hw=>h w (Hh _ hw)];split
  .rfl
  .have:x≠n:=by rintro rfl; exact h v bQ
   simp[this]
theorem wZ {kindOf:Str->Option NameKind}{x:Str}{v:Value}:∀{P:au} {vs:ar} {i:Nat} {m:Str->aB},P.Nodup->P[i]? = some x->vs[i]? = some v->kindOf x=some .local ->
  bindL kindOf (P.zip vs) m x=some v
 | [],_,_,_,_,h,_,_=>by simp at h
 | _::_,[],_,_,_,_,h,_=>by simp at h
 | p::P,w::vs,0,m,nd,h1,h2,hk=>by
  simp at h1 h2; subst h1; subst h2;show bindL kindOf ((p,w)::P.zip vs) m p=_;unfold bindL;rw[ww λv hv=>(GP.mp nd).1 (List.of_mem_zip hv).1,if_pos hk];simp
 | p::P,w::vs,i+1,m,nd,h1,h2,hk=>by
  show bindL kindOf ((p,w)::P.zip vs) m x=_;unfold bindL;exact wZ (i:=i) (GP.mp nd).2 (by simpa using h1) (by simpa using h2) hk
theorem wL {kindOf:Str->Option NameKind}{x:Str}{v:Value}:∀{P:au} {vs:ar} {i:Nat} {m:Str->aB},P.Nodup->P[i]? = some x->vs[i]? = some v->kindOf x≠some .local ->
  bindC kindOf (P.zip vs) m x=some v
 | [],_,_,_,_,h,_,_=>by simp at h
 | _::_,[],_,_,_,_,h,_=>by simp at h
 | p::P,w::vs,0,m,nd,h1,h2,hk=>by
  simp at h1 h2; subst h1; subst h2;show bindC kindOf ((p,w)::P.zip vs) m p=_;unfold bindC;rw[wy λv hv=>(GP.mp nd).1 (List.of_mem_zip hv).1,if_neg hk];simp
 | p::P,w::vs,i+1,m,nd,h1,h2,hk=>by
  show bindC kindOf ((p,w)::P.zip vs) m x=_;unfold bindC;exact wL (i:=i) (GP.mp nd).2 (by simpa using h1) (by simpa using h2) hk
noncomputable def start (N:au)(vs:aw):St:=vs.map some++List.replicate (N.length - vs.length) none
noncomputable def fF (CX:gk)(P:Program)(w:World)(K:bq)(mg:Str->aB)(base:Heap)(N:au)(qual:Str)(scope:Scope)(f:Addr)(cd:Value)(A:Around)(outer:List Env)(s:Shared)(H:Hp)(E:XK):Cx where
 prog:=P
 w:=w
 K:=K
 mg:=mg
 base:=base
 A:=A.deeper (envOfC qual scope s.heap.objs.size f cd)
 N:=N
 s₀:=s
 H₀:=H
 env:=envOfC qual scope s.heap.objs.size f cd
 outer:=outer
 stack:=envOfC qual scope s.heap.objs.size f cd::outer
 ex:=[]
 calm:=true
 fn:=λ_=>true
 pn:=[]
 xe:=λe s'=>wpAny (model P w) (A.deeper (envOfC qual scope s.heap.objs.size f cd)) (leaving (envOfC qual scope s.heap.objs.size f cd) e) (λ_ s''=>CX outer H s E e s'') (λe' s''=>CX outer H s E e' s'') s'
def vf {sc:Scope}{n:Nat}{x:Str}(h:sc.names.lookup x=some .cell):∃c,(cellsFrom n sc.names []).lookup x=some c:=by
 have q:=PySem.W.cellsFrom_some sc.names n [] (.inl h);exact Option.isSome_iff_exists.mp q
def Gr {CX:gk}{P:Program}{w:World}{K:bq}{mg:Str->aB}{base:Heap}{N ps:au}{qual:Str}{scope:Scope}{f:Addr}{cd:Value}{A:Around}{outer:List Env}{s s1:Shared}{H:Hp}{E:XK}{us:ar}{vs:aw}
  (S:FnScope N ps scope)(hd:A.handled=none)(e0:Env0 P w K mg base A outer s H)(hl:vs.length=ps.length)(r:Vals vs us)
  (x:InCallC s s.heap.objs.size (bindL (envOfC qual scope s.heap.objs.size f cd).kindOf (ps.zip us) λ_=>none) (cellsFrom (s.heap.objs.size+1) scope.names []) (bindC (envOfC qual scope s.heap.objs.size f cd).kindOf (ps.zip us) λ_=>none) s1) :
  Inv (fF CX P w K mg base N qual scope f cd A outer s H E) [] (start N vs) H s1:=by
 have hpl:ps.length<=N.length:=by have:=congrArg List.length S.pre; rw[G4] at this; omega
 obtain⟨h1,tk,rfl,hk⟩:=x.done;have noA:∀b:Addr,b∉(fF CX P w K mg base N qual scope f cd A outer s H E).ex:=λb z=>absurd (show b∈([]:aq) from z) (by simp);refine⟨⟨e0.mod,S.kind,rfl,rfl,bC _,λy z c h1 h2=>?_,λy hy=>?_,λy c _ h=>?_,λ_=>hd,Around.frames_deeper e0.frames,.inr ⟨rfl,rfl⟩,λb z=>absurd z (noA b),e0.bs,e0.bsz,λb _ _=>noA b,λb z=>absurd z (noA b),e0.funs,e0.frf⟩,
  rfl,e0.bare,Un.kept hk,⟨_,x.toInCall.ns,λi y v h1 h2 h3=>?_⟩,λy c h=>⟨_,x.cell y c h⟩,e0.hok.fresh (bC _),λy c h=>?_,λp hp=>absurd (show p∈([]:ah) from hp) (by simp),e0.hok.kept hk,?_⟩
 .exact name_of_addr x.apart (Hg h1) (Hg h2)
 .have hy:scope.names.lookup y=some .cell\/scope.names.lookup y=some .free:=hy;rcases hy with hy | hy
  .exact vf hy
  .exact absurd rfl (S.nofree _ (Hg hy))
 .exact Iu (x.above y c (Hg h))
 .have hi:i<vs.length:=by
   unfold start at h2;by_cases hi:i<vs.length
   .exact hi
   .rw[Il (by simpa using hi)] at h2;rw[List.getElem?_replicate] at h2;split at h2 <;> cases h2
  have ha:vs[i]? = some v:=by
   unfold start at h2;rw[IA (by simpa using hi),GD] at h2;cases e:vs[i]? with
   | none=>rw[e] at h2; cases h2
   | some a=>rw[e] at h2; cases h2; rfl
  obtain⟨u,hu,rv⟩:=r.get ha;have hp:ps[i]? = some y:=by
   rw[<-S.pre,List.getElem?_take_of_lt (by omega)]; exact h1
  have ndP:ps.Nodup:=by rw[<-S.pre]; exact S.nd.sublist (List.take_sublist _ _)
  refine⟨u,rv,?_⟩;rcases S.par y (GH hp) with k | k
  .exact .inl ⟨k,wZ ndP hp hu k⟩
  .obtain⟨c,e⟩:=vf (n:=s.heap.objs.size+1) k;refine .inr ⟨.inl k,c,e,?_⟩;have q:=x.cell y c e;rw[wL ndP hp hu (by show scope.names.lookup y≠_; rw[k]; decide)] at q;exact q
 .exact e0.hok.fresh (Iu (x.above y c (Hg h)))
 .unfold start;show _=N.length;rw[GG,Gx,Jj];omega
def ze {CX:gk}{P:Program}{w:World}{K:bq}{mg:Str->aB}{base:Heap}{k:Nat}{f:Addr}{name qual:Str}{params:Arguments}{body:aH}{scope:Scope}{dV kV doc pm cdv ct oc:Value}{an od:aF}
  {osl:Array aB}{N ps:au}{sp:Sp}(lk:K.lookup f=some ⟨oc,od,.func (PySem.W.fnOf name qual params body scope dV kV doc pm an cdv ct),osl⟩)(hcd:PySem.W.codeIn K cdv qual=true)(S:FnScope N ps scope)
  (len:∀vs H Q E,sp vs H Q E->vs.length=ps.length)
  (hbody:∀(A:Around) (outer:List Env) (s:Shared) (H:Hp) (vs:aw) (Q:VK) (E:XK),Room k (A.deeper (envOfC qual scope s.heap.objs.size f cdv))->sp vs H Q E ->
   ∃t,PSs (fF CX P w K mg base N qual scope f cdv A outer s H E) body t/\t { nx:=λ_ H'=>Q .non H',rt:=Q } (start N vs) H) :
  FnOk P w K mg base CX (k+1) f (PySem.W.fnOf name qual params body scope dV kV doc pm an cdv ct) ps sp:=by
 refine⟨len,λA outer s H args us vs Q E hr e0 hb r hsp=>?_⟩;have hl:=len _ _ _ _ hsp;have KX:K.In s.heap:=e0.mod.kin.keeps λb o e=>(e0.bs b o e).1;have lim:s.heap.NoLimit:=e0.mod.nolimit.keeps λb o e=>(e0.bs b o e).1;have hkind:∀y∈ps.zip us,scope.names.lookup y.1=some .local\/(scope.names.lookup y.1=some .cell/\((cellsFrom (s.heap.objs.size+1) scope.names []).lookup y.1).isSome=true):=λ⟨n,v⟩ hy=>by
  rcases S.par n (List.of_mem_zip hy).1 with q | q
  .exact .inl q
  .exact .inr ⟨q,PySem.W.cellsFrom_some _ _ _ (.inl q)⟩
 refine codeAny_call_function hr.depth (KX _ _ lk) rfl S.co S.gen rfl (PySem.W.codeRec_of KX hcd) (hb _ _ _ _ ?_);refine wpAny_newFunctionEnv_cells S.kind hkind λenv he s1 x=>?_;subst he;refine⟨lim.keeps x.toInCall.keep,codeAny_func ?_⟩;obtain⟨t,ht,hq⟩:=hbody A outer s H vs Q E (hr.deeper _) hsp;have I:Inv (fF CX P w K mg base N qual scope f cdv A outer s H E) [] (start N vs) H s1:=Gr S hr.hd e0 hl r x;refine Ho (ht [] s1 (start N vs) H _ I hq) (λfl s' hs=>?_) λe s' hs=>hs;have fin:∀{σ':St} {H':Hp} {v:V} {u:Value},Inv (fF CX P w K mg base N qual scope f cdv A outer s H E) [] σ' H' s'->RelV v u->Q v H'->CE outer P w H s Q u s':=
  λ{σ' H' v u} J rv q=>⟨v,H',J.os,J.bare,J.base,J.hok,rv,q⟩
 cases fl with
 | ret u=>
  obtain⟨v,σ',H',J,rv,q⟩:=hs;exact fin J rv q
 | next=>
  obtain⟨σ',H',J,q⟩:=hs;exact fin (v:=V.non) (u:=Value.none) J rfl q
 | brk=>
  obtain⟨_,_,_,q⟩:=hs;exact False.elim q
 | cont=>
  obtain⟨_,_,_,q⟩:=hs;exact False.elim q
end L2
namespace L2
open PySem PySem.Spec PyProof.Rows
section
variable {X:Cx}{x:Str}{p pos:Pos}{e:Expr}{es:av}{t:TA}{id T:String}{r:aw->Hp->VK->Prop}
def kI (r:aw->Hp->VK->Prop)(t:TA):TE:=λσ H Q=>t σ H λvs H1=>r vs H1 Q
def kR (hc:CallR X (.builtin id) r)(hg:Gl X x)(hm:X.mg x=none)(hv:bootBuiltins x=some (.builtin id))(ha:PA X (e::es) t)(hn:x ≠ "__name__":=by decide)(hdb:(x == ("__debug__" : Str))=false:=by decide)
  (he:starEach (e::es) X.env=(false,eval e X.env)::starEach es X.env:=by rfl)(hpl:(backTo pos (starEach es X.env)).any (·.1)=false:=by rfl):PE X (.Call (.Name x p) (e::es) [] pos) (kI r t):=by
 intro pins s σ H Q I h;refine G9 (gr I hg hm hv ?_ hn hdb);exact PyProof.Rows.callWith_builtin1 (bi (ha pos pins s σ H _ I h) λus s1 ⟨vs,H1,I1,r1,q1⟩=>hc pins s1 σ H1 vs us Q I1 r1 q1) he hpl
def qW (hc:CallR X (.type T) r)(hg:Gl X x)(hm:X.mg x=none)(hv:bootBuiltins x=some (.type T))(ha:PA X (e::es) t)(hn:x ≠ "__name__":=by decide)(hdb:(x == ("__debug__" : Str))=false:=by decide)
  (he:starEach (e::es) X.env=(false,eval e X.env)::starEach es X.env:=by rfl)(hpl:(backTo pos (starEach es X.env)).any (·.1)=false:=by rfl):PE X (.Call (.Name x p) (e::es) [] pos) (kI r t):=by
 intro pins s σ H Q I h;refine G9 (gr I hg hm hv ?_ hn hdb);exact GU (bi (ha pos pins s σ H _ I h) λus s1 ⟨vs,H1,I1,r1,q1⟩=>hc pins s1 σ H1 vs us Q I1 r1 q1) he hpl
end
end L2
namespace HT
open PySem PyProof.Rows
section
open PySem.SeqAt
open PySem.AutoSeq1 (wpAny_loadPart')
open PySem.MeetsSeq PySem.MeetsSeq2 PySem.MeetsSeq3
end
section
variable {prog:Program}{w:World}{A:Around}{E:Value->Shared->Prop}{s:Shared}
def cat_tup {t b:Addr}{vs ws:ar}{Q:Value->Shared->Prop}(ht:IsTup s.heap t vs.toArray)(hb:IsTup s.heap b ws.toArray)(hv:vs≠[])
  (h1:ws=[]->Q (.ref t) s)(h2:ws≠[]->Q (.ref s.heap.objs.size) { s with heap:=s.heap.push { cls:=.type "tuple",data:=.seq (vs++ws).toArray } })
  (hsz:vs.length+ws.length<=sizeLine):wpAny (model prog w) A (binaryOp .Add (.ref t) (.ref b)) Q E s:=by
 obtain⟨⟨cls,dd,data,sl⟩,ho,hc,n,hd⟩:=id ht;obtain⟨⟨cls2,dd2,data2,sl2⟩,ho2,hc2,n2,hd2⟩:=id hb;simp only at hc hd hc2 hd2;subst hc hd hc2 hd2;have e:vs.toArray++ws.toArray=(vs++ws).toArray:=by simp
 by_cases hw:ws=[]
 .exact concat_meets ⟨_,ho,rfl⟩ ⟨_,ho2,rfl⟩ noFill_tuple_add seq_tuple_add IU IM (IF _ _)
   (tuple_addW1 t b vs.toArray ws.toArray n n2 dd dd2 sl sl2 (by simpa using hv) (by simp[hw])) ⟨ho,ho2,h1 hw⟩
 .refine concat_meets ⟨_,ho,rfl⟩ ⟨_,ho2,rfl⟩ noFill_tuple_add seq_tuple_add IU IM (IF _ _)
   (tuple_addW2 t b vs.toArray ws.toArray n n2 dd dd2 sl sl2 (by simpa using hv) (by simpa using hw) (by rw[Gv,Gv]; exact hsz)) ⟨ho,ho2,?_⟩
  rw[e];exact h2 hw
noncomputable def sIx (n d:Nat):Option Int->Nat
 | none=>d
 | some v=>if v<0 then (v+(n:Int)).toNat else min v.toNat n
def CI (n d:Nat)(hd:d<=n)(o:Option Int):sIx n d o<=n:=by
 cases o with
 | none=>exact hd
 | some v=>
  show (if v<0 then (v+(n:Int)).toNat else min v.toNat n)<=n;by_cases hv:v<0
  .rw[if_pos hv]; omega
  .rw[if_neg hv]; exact Nat.min_le_right _ _
def vn (v:Int)(n d:Nat):(if v<0 then max (v+(n:Int)) 0 else min v (n:Int))=((sIx n d (some v):Nat):Int):=by
 show (if v<0 then max (v+(n:Int)) 0 else min v (n:Int))=(((if v<0 then (v+(n:Int)).toNat else min v.toNat n):Nat):Int);by_cases hv:v<0
 .simp only[if_pos hv]; omega
 .simp only[if_neg hv]; omega
def zC (lo hi:Option Int)(n:Nat):Builtin.Slice.sliceAdjust lo hi 1 (n:Int)=(((sIx n 0 lo:Nat):Int),((sIx n n hi:Nat):Int)):=by
 have h1:¬((1:Int)<0):=by omega
 unfold Builtin.Slice.sliceAdjust;simp only[h1,if_false];refine Prod.ext ?_ ?_
 .cases lo with
  | none=>rfl
  | some v=>exact vn v n 0
 .cases hi with
  | none=>rfl
  | some v=>exact vn v n n
def Bz (i j:Nat):Builtin.Slice.slicePlaces (i:Int) (j:Int) 1=j - i:=by
 unfold Builtin.Slice.slicePlaces;have h1:(1:Int) > 0:=by omega
 simp only[h1,if_true,Int.ediv_one];split <;> omega
def xi {v:Value}{o:Option Int}{Q:Option Int->Shared->Prop}(p:IsPart v o)(h:Q o s):wpAny (model prog w) A (Builtin.Slice.slicePartIndex v) Q E s:=by
 cases p with
 | none=>exact slicePart_none h
 | int i t=>exact slicePart_int h
def sliceApplied_gen {sl:Addr}{vl vu:Value}{lo hi:Option Int}{n:Nat}{Q:Int×Int×Nat->Shared->Prop}(hs:s.heap.IsSliceOf sl vl vu .none)(pl:IsPart vl lo)(pu:IsPart vu hi)
  (h:Q (((sIx n 0 lo:Nat):Int),1,sIx n n hi - sIx n 0 lo) s):wpAny (model prog w) A (Builtin.Slice.sliceApplied (.ref sl) (pure (n:Int))) Q E s:=by
 obtain⟨os,hos,hcs,hds⟩:=id hs;unfold Builtin.Slice.sliceApplied Builtin.Slice.sliceFields;refine aS (aS (HM hos hds (x:=vl) rfl (aS (HM hos hds (x:=vu) rfl (aS (HM hos hds (x:=.none) rfl (bh ?_)))))));refine aS (slicePart_none ?_);show wpAny _ _ (if ((1:Int) == 0)=true then _ else _) _ _ s;rw[if_neg (by decide)];refine aS (xi pl (aS (xi pu (aS (bh ?_)))));show wpAny _ _ (match Builtin.Slice.sliceAdjust lo hi 1 (n:Int) with | (lo,hi)=>pure (lo,(1:Int),Builtin.Slice.slicePlaces lo hi 1)) _ _ s;rw[zC lo hi n];show wpAny _ _ (pure (((sIx n 0 lo:Nat):Int),(1:Int),Builtin.Slice.slicePlaces ((sIx n 0 lo:Nat):Int) ((sIx n n hi:Nat):Int) 1)) _ _ s;rw[Bz];exact bh h
def C1 (xs:aC)(i k:Nat):((List.range k).filterMap λ(m:Nat)=>xs[((i:Int)+(m:Int) * 1).toNat]?).toArray=((xs.toList.drop i).take k).toArray:=by
 have e:(λ(m:Nat)=>xs[((i:Int)+(m:Int) * 1).toNat]?)=λm=>xs[i+m]?:=by
  funext m
  have:((i:Int)+(m:Int) * 1).toNat=i+m:=by omega
  rw[this]
 rw[e];have:=pick_run xs i k;rw[List.filterMap_map] at this;have e2:((λx=>xs[x]?) ∘ λx=>i+x)=λm=>xs[i+m]?:=rfl;rw[e2] at this;rw[this]
def getItem_tuple_cut {t sl:Addr}{items:aC}{vl vu:Value}{lo hi:Option Int}{Q:Value->Shared->Prop}(ht:IsTup s.heap t items)(hs:s.heap.IsSliceOf sl vl vu .none)(pl:IsPart vl lo)(pu:IsPart vu hi)
  (hw:¬(sIx items.size 0 lo=0/\sIx items.size items.size hi=items.size))
  (h:Q (.ref s.heap.objs.size) { s with heap:=s.heap.push { cls:=.type "tuple",data:=.seq ((items.toList.drop (sIx items.size 0 lo)).take (sIx items.size items.size hi - sIx items.size 0 lo)).toArray } })
  (hsz:items.size<=sizeLine):wpAny (model prog w) A (getItem (.ref t) (.ref sl)) Q E s:=by
 have htake:sizeOk (.seq ((items.toList.drop (sIx items.size 0 lo)).take (sIx items.size items.size hi - sIx items.size 0 lo)).toArray):=by
  show ((items.toList.drop (sIx items.size 0 lo)).take (sIx items.size items.size hi - sIx items.size 0 lo)).toArray.size<=sizeLine;rw[Gv,G4,Jn,Array.length_toList];omega
 have hj:sIx items.size items.size hi<=items.size:=CI _ _ (bC _) hi;obtain⟨os,hos,hcs,hds⟩:=id hs;have hTs:s.TypeIs (.ref sl) "slice":=⟨os,hos,hcs⟩
 unfold getItem;try with_reducible refine Hx ?_
 first | refine aS (bh ?_) | skip
 refine aS (wpAny_sequenceKey ht.typeIs (by decide) ?_);refine aS (wpAny_callSpecial?_slot (name:=Str.ofString "__getitem__") ht.typeIs GZ
  (Hk GZ ht.typeIs entry_tuple_getitem ?_ (args_tuple_getitem _ _)))
 show wpAny _ _ (Builtin.Tuple.tupleItemsOf (.ref t) >>= _) _ _ s;refine aS (tupleItemsOf_ ht ?_);refine aS (wpAny_typeOf hTs ?_);rw[if_pos (by decide)];refine aS (sliceApplied_gen hs pl pu ?_);have hno:¬((((sIx items.size 0 lo:Nat):Int) == 0&&(1:Int) == 1&&(sIx items.size items.size hi - sIx items.size 0 lo) == items.size)=true):=by
  intro q;rw[tw,tw] at q;have q1:((sIx items.size 0 lo:Nat):Int)=0:=eq_of_beq q.1.1;have q2:sIx items.size items.size hi - sIx items.size 0 lo=items.size:=eq_of_beq q.2;exact hw ⟨by omega,by omega⟩
 show wpAny _ _ (if (((sIx items.size 0 lo:Nat):Int) == 0&&(1:Int) == 1&&(sIx items.size items.size hi - sIx items.size 0 lo) == items.size)=true then _ else _) _ _ s;rw[if_neg hno,C1];first
  | exact aS (m:=Builtin.Tuple.tupleExact _) (GY (bh ⟨_,rfl,bh h⟩) htake)
  | exact aS (m:=Builtin.Tuple.tupleExact _) (GY (aS (bh (bh ⟨_,rfl,bh h⟩))) htake)
  | exact aS (aS (m:=Builtin.Tuple.tupleExact _) (GY (bh (bh ⟨_,rfl,bh h⟩)) htake))
  | exact aS (aS (m:=Builtin.Tuple.tupleExact _) (GY (bh ⟨_,rfl,bh h⟩) htake))
end
end HT
namespace L2
open PySem PySem.Spec PyProof.Rows
abbrev TO:=St->Hp->(Option Int->Hp->Prop)->Prop
def PO (X:Cx)(e:Option Expr)(t:TO):Prop:=
 ∀(pins:ah) (s:Shared) (σ:St) (H:Hp) (Q:Option Int->Hp->Prop),Inv X pins σ H s->t σ H Q ->
  wpAny (model X.prog X.w) X.A (evalPart e X.env) (λu s'=>∃o H',Inv X pins σ H' s'/\IsPart u o/\Q o H') X.xe s
def ij:TO:=λ_ H Q=>Q none H
def nD (t:TE):TO:=λσ H Q=>t σ H λx H1=>∃i,x=.int i/\Q (some i) H1
section
variable {X:Cx}{e:Expr}{te:TE}{lo hi:Option Expr}{tl th:TO}{pos p2:Pos}
def vM:PO X none ij:=by
 intro pins s σ H Q I h;rw[evalPart_none];exact bh ⟨none,H,I,.none,h⟩
def oU (h:PE X e te):PO X (some e) (nD te):=by
 intro pins s σ H Q I hw;rw[evalPart_some];refine bi (h pins s σ H _ I hw) λu s1 hZz=>?_;obtain⟨x,H1,I1,r1,q1⟩:=hZz;obtain⟨i,rfl,q⟩:=q1;obtain⟨t,rfl⟩:=r1;exact⟨some i,H1,I1,.int i t,q⟩
def l7 (X:Cx)(r:V->Option Int->Option Int->Hp->VK->Prop):Prop:=
 ∀(pins:ah) (s:Shared) (σ:St) (H:Hp) (x:V) (v vl vu:Value) (lo hi:Option Int) (sl:Addr) (Q:VK),Inv X pins σ H s->RelV x v->s.heap.IsSliceOf sl vl vu .none->IsPart vl lo->IsPart vu hi->r x lo hi H Q ->
  ∃T id,typeLookup (.type T) "__getitem__" = pure (some (.builtin id))/\s.TypeIs v T/\wpAny (model X.prog X.w) X.A (getItem v (.ref sl)) (EP X pins σ Q) X.xe s
def Aw (r:V->Option Int->Option Int->Hp->VK->Prop)(te:TE)(tl th:TO):TE:=λσ H Q=>te σ H λx H1=>tl σ H1 λl H2=>th σ H2 λu H3=>r x l u H3 Q
def sj {r:V->Option Int->Option Int->Hp->VK->Prop}(hr:l7 X r)(he:PE X e te)(hl:PO X lo tl)(hu:PO X hi th):PE X (.Subscript e (.Slice lo hi none p2) pos) (Aw r te tl th):=by
 intro pins s σ H Q I h;refine Subscript_ (bi (he pins s σ H _ I h) λv s1 hZz=>?_);obtain⟨x,H1,I1,r1,q1⟩:=hZz;refine wpAny_Slice (bi (hl pins s1 σ H1 _ I1 q1) λvl s2 ⟨l,H2,I2,pl,q2⟩=>bi (hu pins s2 σ H2 _ I2 q2) λvu s3 hZz=>?_);obtain⟨u,H3,I3,pu,q3⟩:=hZz;rw[evalPart_none];refine bh ?_;have I4:Inv X pins σ H3 { s3 with heap:=s3.heap.push { cls:=.type "slice",data:=.fields #[vl,vu,.none] } }:=I3.kept (t':=s3.toks) λb ob q=>b7 _ q;obtain⟨T,id,hT,ht,hg⟩:=hr pins { s3 with heap:=s3.heap.push { cls:=.type "slice",data:=.fields #[vl,vu,.none] } } σ H3 x v vl vu l u s3.heap.objs.size Q I4 r1 (Heap.IsSliceOf.new ..) pl pu q3;show wpAny (model X.prog X.w) X.A (subscriptTail e (.Slice lo hi none p2) v (.ref s3.heap.objs.size)) (EP X pins σ Q) X.xe { s3 with heap:=s3.heap.push { cls:=.type "slice",data:=.fields #[vl,vu,.none] } };exact tail_any (ops:=[.ref s3.heap.objs.size,v]) ht hT hg (by with_unfolding_all rfl)
noncomputable def dE (xs:aw)(lo hi:Option Int):aw:=(xs.drop (HT.sIx xs.length 0 lo)).take (HT.sIx xs.length xs.length hi - HT.sIx xs.length 0 lo)
def vR (xs:aw)(lo hi:Option Int):(dE xs lo hi).length<=xs.length:=by
 unfold dE;rw[G4,Jn];omega
def pD (K:bq):V->Option Int->Option Int->Hp->VK->Prop:=λx lo hi H Q=>∃a xs,x=.ref a/\SqT K H a xs /\
 ¬(HT.sIx xs.length 0 lo=0/\HT.sIx xs.length xs.length hi=xs.length)/\∀p,H p=none->Q (.ref p) (upd H p (.tup (dE xs lo hi)))
def Dh:l7 X (pD X.K):=by
 intro pins s σ H x v vl vu lo hi sl Q I rx hs pl pu h;obtain⟨a,xs,rfl,hx,hw,q⟩:=h;cases rx;obtain⟨its,r,ht,hz⟩:=I.tuple hx;have hlen:its.toArray.size=xs.length:=by rw[Gv]; exact r.length.symm
 refine⟨"tuple",_,GZ.lookup,ht.typeIs,?_⟩;refine HT.getItem_tuple_cut ht hs pl pu (by rw[hlen]; exact hw) ?_ (by rw[hlen]; exact hz);rw[hlen];refine⟨.ref s.heap.objs.size,_,I.laid (t':=s.toks) (o:=.tup (dE xs lo hi)) (λb ob q=>b7 _ q) (bC _) ?_,rfl,q _ (I.hok.fresh (bC _))⟩;exact⟨bH (vR xs lo hi) hz,_,(r.drop (HT.sIx xs.length 0 lo)).take (HT.sIx xs.length xs.length hi - HT.sIx xs.length 0 lo),TupN.new _ _⟩
def lN (K:bq):R2:=λx y H Q=>∃a b xs ys,x=.ref a/\y=.ref b/\SqT K H a xs/\SqT K H b ys/\xs≠[]/\xs.length+ys.length<=sizeLine /\
 (ys=[]->Q (.ref a) H)/\(ys≠[]->∀p,H p=none->Q (.ref p) (upd H p (.tup (xs++ys))))
def Vals.nil_iff {xs:aw}{us:ar}(r:Vals xs us):us=[]↔xs=[]:=by
 cases r with
 | nil=>simp
 | cons _ _=>simp
def DE:OpR X (binaryOp .Add) (lN X.K):=by
 intro pins s σ H x y v u Q I rx ry h;obtain⟨a,b,xs,ys,rfl,rfl,ha,hb,hx,hz,q1,q2⟩:=h;cases rx;cases ry;obtain⟨its,r1,p1,_⟩:=I.tuple ha;obtain⟨its2,r2,p2,_⟩:=I.tuple hb;refine HT.cat_tup p1 p2 (λz=>hx (r1.nil_iff.mp z)) (λz=>⟨.ref a,H,I,rfl,q1 (r2.nil_iff.mp z)⟩) (λz=>?_) (by rw[<-r1.length,<-r2.length]; exact hz);refine⟨.ref s.heap.objs.size,_,I.laid (t':=s.toks) (o:=.tup (xs++ys)) (λb ob q=>b7 _ q) (bC _) ?_,rfl,q2 (λw=>z (r2.nil_iff.mpr w)) _ (I.hok.fresh (bC _))⟩;exact⟨by rw[GG]; exact hz,_,r1.append r2,TupN.new _ _⟩
end
end L2
namespace L2
open PySem PySem.Spec PyProof.Rows
noncomputable def kH (n:Nat)(i:Int):aE:=if 0<=i then (if i<n then some i.toNat else none) else if -(n:Int)<=i then some (i+n).toNat else none
noncomputable def kL {α:Type}(xs:List α)(i:Int):Option α:=(kH xs.length i).bind λj=>xs[j]?
def wE {n:Nat}{i:Int}{j:Nat}(h:kH n i=some j):seqIndex? i n=some j/\j<n /\ -(n:Int)<=i/\i<n:=by
 unfold kH at h;by_cases h0:0<=i
 .rw[if_pos h0] at h;by_cases h1:i<n
  .rw[if_pos h1] at h;have e:i.toNat=j:=cO h;exact⟨by rw[seqIndex_of h0 h1,e],by omega,by omega,h1⟩
  .rw[if_neg h1] at h; cases h
 .rw[if_neg h0] at h;by_cases h1 : -(n:Int)<=i
  .rw[if_pos h1] at h;have e:(i+n).toNat=j:=cO h;exact⟨by rw[seqIndex_neg (by omega) h1,e],by omega,h1,by omega⟩
  .rw[if_neg h1] at h; cases h
def v6 {α:Type}{xs:List α}{i:Int}{v:α}(h:kL xs i=some v):∃j,seqIndex? i xs.length=some j/\xs[j]? = some v/\j<xs.length /\ -(xs.length:Int)<=i/\i<xs.length:=by
 unfold kL at h;cases e:kH xs.length i with
 | none=>rw[e] at h; cases h
 | some j=>
  rw[e] at h;obtain⟨h1,h2,h3,h4⟩:=wE e;exact⟨j,h1,h,h2,h3,h4⟩
def fT (b:Expr):Prop:=∀o i,subscripted b false o i=operate [o,i] (getItem o i)
def nZ (X:Cx)(r:R2):Prop:=
 ∀(value slice:Expr) (pins:ah) (s:Shared) (σ:St) (H:Hp) (x y:V) (v u:Value) (Q:VK),Inv X pins σ H s->RelV x v->RelV y u->r x y H Q ->
  subscripted slice false v u=operate [v,u] (getItem v u)->wpAny (model X.prog X.w) X.A (subscriptTail value slice v u) (EP X pins σ Q) X.xe s
def qu (X:Cx)(id:String)(r:V->aw->Hp->VK->Prop):Prop:=
 ∀(pins:ah) (s:Shared) (σ:St) (H:Hp) (x:V) (xs:aw) (v:Value) (us:ar) (Q:VK),Inv X pins σ H s->RelV x v->Vals xs us->r x xs H Q ->
  wpAny (model X.prog X.w) X.A (call (.builtin id) (v::us)) (EP X pins σ Q) X.xe s
section
variable {X:Cx}{a b:Expr}{ta tb:TE}{pos:Pos}
def AG {r:R2}(hr:nZ X r)(ha:PE X a ta)(hb:PE X b tb)(hs:fT b):PE X (.Subscript a b pos) (kC r ta tb):=by
 intro pins s σ H Q I h;exact Subscript_ (ka ha hb I h λv u s2 x y H2 I2 rx ry q=>hr a b pins s2 σ H2 x y v u Q I2 rx ry q (hs _ _))
def pW (K:bq):R2:=λx y H Q=>∃p xs i v,x=.ref p/\y=.int i/\SqL K H p xs/\kL xs i=some v/\Q v H
def qA (K:bq):R2:=λx y H Q=>∃p xs i v,x=.ref p/\y=.int i/\SqT K H p xs/\kL xs i=some v/\Q v H
def BA:nZ X (pW X.K):=by
 intro value slice pins s σ H x y v u Q I rx ry h hs;obtain⟨p,xs,i,z,rfl,rfl,hq,he,q⟩:=h;cases rx;obtain⟨t,rfl⟩:=ry;obtain⟨its,r,pl,hz⟩:=I.list hq;obtain⟨j,h1,h2,h3,h4,h5⟩:=v6 he;obtain⟨w,ew,rw'⟩:=r.get h2;have hl:=r.length;have hn:=d7;have fin:EP X pins σ Q w s:=⟨z,H,I,rw',q⟩
 by_cases h0:0<=i
 .have hj:i.toNat=j:=by
   rw[seqIndex_of h0 h5] at h1;exact cO h1
  exact item_listR pl.isList h0 (by omega) (by rw[hj]; simpa using ew) fin hs
 .have hj:(i+(its.toArray.size:Int)).toNat=j:=by
   rw[seqIndex_neg (by omega) h4] at h1;rw[Gv,<-hl];exact cO h1
  exact subscriptTail_builtinR (x:=w) pl.isList.typeIs slot_list_getitem.lookup
   (wpAny_getItem_list_neg (Q:=λr s'=>r=w/\EP X pins σ Q r s') pl.isList (by omega) (by rw[Gv] <;> omega) (by omega) (by rw[hj]; simpa using ew) ⟨rfl,fin⟩) hs
def yX:nZ X (qA X.K):=by
 intro value slice pins s σ H x y v u Q I rx ry h hs;obtain⟨p,xs,i,z,rfl,rfl,hq,he,q⟩:=h;cases rx;obtain⟨t,rfl⟩:=ry;obtain⟨its,r,pl,hz⟩:=I.tuple hq;obtain⟨j,h1,h2,h3,h4,h5⟩:=v6 he;obtain⟨w,ew,rw'⟩:=r.get h2;have hl:=r.length;have hn:=d7;have fin:EP X pins σ Q w s:=⟨z,H,I,rw',q⟩
 exact subscriptTail_builtinR (x:=w) pl.typeIs slot_tuple_getitem.lookup
  (getItem_tuple (j:=j) (Q:=λr s'=>r=w/\EP X pins σ Q r s') pl (by omega) (by omega) (by rw[Gv,<-hl]; exact h1) (by simpa using ew) ⟨rfl,fin⟩) hs
def CL (its:ar)(n j:Nat)(u:Value):Obj.mapSeq (·.setIfInBounds j u) { cls:=.type "list",data:=.seq its.toArray n }={ cls:=.type "list",data:=.seq (its.set j u).toArray n }:=by
 simp[Obj.mapSeq]
theorem Inv.lst {pins:ah}{σ:St}{H:Hp}{s:Shared}{p:Addr}{xs:aw}(I:Inv X pins σ H s)(h:H p=some (.lst xs)) :
  ∃(its:ar) (n:Nat),Vals xs its/\s.heap.get? p=some { cls:=.type "list",data:=.seq its.toArray n }/\xs.length<=sizeLine:=by
 obtain⟨z,its,n,r,e⟩:=I.hok p _ h;exact⟨its,n,r,e,z⟩
def Inv.lstUpd {pins:ah}{σ:St}{H:Hp}{s:Shared}{p:Addr}{xs ys:aw}{its its':ar}{n n':Nat}{f:Obj->Obj}(I:Inv X pins σ H s)(h:H p=some (.lst xs))
  (ho:s.heap.get? p=some { cls:=.type "list",data:=.seq its.toArray n })(hf:f { cls:=.type "list",data:=.seq its.toArray n }={ cls:=.type "list",data:=.seq its'.toArray n' })(r:Vals ys its')(hz:ys.length<=sizeLine)(t:Nat) :
  Inv X pins σ (upd H p (.lst ys)) { s with heap:=s.heap.update p f,toks:=t }:=by
 have e:(s.heap.update p f).get? p=some { cls:=.type "list",data:=.seq its'.toArray n' }:=by
  rw[HH f ho (by rw[hf] <;> rfl),hf]
 refine I.write (x:=p) (e:=p) (by rw[h]; trivial) (.inl rfl) (λb u hb q=>(IV _ _ (Iv hb)).trans q) ⟨_,e⟩ ?_;exact⟨hz,its',n',r,e⟩
def mI:V->V->V->Hp->(Hp->Prop)->Prop:=λo i v H Q=>∃p xs k j,o=.ref p/\i=.int k/\H p=some (.lst xs)/\kH xs.length k=some j/\Q (upd H p (.lst (xs.set j v)))
def set_list:si X mI:=by
 intro pins s σ H o i v ov iv u Q I ro ri rv h;obtain⟨p,xs,k,j,rfl,rfl,hp,hj,q⟩:=h;cases ro;obtain⟨t,rfl⟩:=ri;obtain⟨its,n,r,ho,hz⟩:=I.lst hp;obtain⟨h1,h2,h3,h4⟩:=wE hj;have hl:=r.length;have hn:=d7;have I':Inv X pins σ (upd H p (.lst (xs.set j v))) { s with heap:=s.heap.update p (Obj.mapSeq (·.setIfInBounds j u)) }:=
  I.lstUpd hp ho (CL its n j u) (r.set rv j) (by rw[G3]; exact hz) s.toks
 by_cases h0:0<=k
 .have hk:k.toNat=j:=by
   rw[seqIndex_of h0 h4] at h1;exact cO h1
  exact PySem.W.ki_setAt ho h0 (by omega) (by rw[Gv,<-hl]; exact h4) (by rw[hk]; exact⟨_,I',q⟩)
 .have hk:(k+(its.toArray.size:Int)).toNat=j:=by
   rw[seqIndex_neg (by omega) h3] at h1;rw[Gv,<-hl];exact cO h1
  exact PySem.W.ki_setBack ho (by omega) (by rw[Gv,<-hl]; exact h3) (by omega) (by rw[hk]; exact⟨_,I',q⟩)
def BD (lo hi:Option Int)(n:Nat):(sliceBounds lo hi none n).1=((HT.sIx n 0 lo:Nat):Int)/\(sliceBounds lo hi none n).2.1=((HT.sIx n n hi:Nat):Int)/\(sliceBounds lo hi none n).2.2=1:=by
 refine⟨?_,?_,rfl⟩
 .cases lo with
  | none=>simp[sliceBounds,HT.sIx]
  | some i=>
   simp only[sliceBounds,HT.sIx,Option.getD_none,show (1:Int) > 0 by decide,if_true];by_cases h:i<0
   .simp only[h,if_true] <;> omega
   .simp only[h,if_false] <;> omega
 .cases hi with
  | none=>simp[sliceBounds,HT.sIx]
  | some i=>
   simp only[sliceBounds,HT.sIx,Option.getD_none,show (1:Int) > 0 by decide,if_true];by_cases h:i<0
   .simp only[h,if_true] <;> omega
   .simp only[h,if_false] <;> omega
def yL (its:ar)(lo hi:Option Int):slicePick its.toArray lo hi none=((its.drop (HT.sIx its.length 0 lo)).take (HT.sIx its.length its.length hi - HT.sIx its.length 0 lo)).toArray:=by
 obtain⟨h1,h2,h3⟩:=BD lo hi its.toArray.size;unfold slicePick;rw[h1,h2,h3];simp only[sliceRange_one,pick_run,Gv] <;> rfl
def qy (K:bq):V->Option Int->Option Int->Hp->VK->Prop:=λx lo hi H Q=>∃a xs,x=.ref a/\SqL K H a xs/\∀p,H p=none->Q (.ref p) (upd H p (.lst (dE xs lo hi)))
def Fo:l7 X (qy X.K):=by
 intro pins s σ H x v vl vu lo hi sl Q I rx hs pl pu h;obtain⟨a,xs,rfl,hx,q⟩:=h;cases rx;obtain⟨its,r,ht,hz⟩:=I.list hx;have hlen:=r.length;refine⟨"list",_,slot_list_getitem.lookup,ht.isList.typeIs,?_⟩;refine wpAny_getItem_list_slice ht.isList hs pl pu .none (by simp) ?_ (by rw[Gv] <;> omega);rw[yL,<-hlen];refine⟨.ref s.heap.objs.size,_,I.laid (t':=s.toks) (o:=.lst (dE xs lo hi)) (λb ob q=>b7 _ q) (bC _) ?_,rfl,q _ (I.hok.fresh (bC _))⟩;exact⟨bH (vR xs lo hi) hz,_,0,(r.drop (HT.sIx xs.length 0 lo)).take (HT.sIx xs.length xs.length hi - HT.sIx xs.length 0 lo),df _ rfl⟩
noncomputable def flatV:V->Bool
 | .non=>true
 | .bl _=>true
 | .int _=>true
 | .str _=>true
 | _=>false
noncomputable def eqV:V->V->Bool
 | .non,.non=>true
 | .bl a,.bl b=>a == b
 | .bl a,.int b=>(if a then 1 else 0) == b
 | .int a,.bl b=>a == (if b then 1 else 0)
 | .int a,.int b=>a == b
 | .str a,.str b=>a == b
 | _,_=>false
def Ea {A:Around}{s:Shared}{y x:V}{u v:Value}(ry:RelV y u)(rx:RelV x v)(fy:flatV y=true)(fx:flatV x=true):SeqAt.EqAt A s u v (eqV y x):=by
 cases y with
 | non=>
  cases ry;cases x with
  | non=>cases rx; exact SeqAt.EqAt.same _
  | bl b=>cases rx; exact SeqAt.EqAt.none_bool b
  | int b=>obtain⟨t,rfl⟩:=rx; exact SeqAt.EqAt.none_int b t
  | str b=>obtain⟨t,rfl⟩:=rx; exact SeqAt.EqAt.none_str b t
  | _=>exact absurd (show false=true from fx) GR
 | bl a=>
  cases ry;cases x with
  | non=>cases rx; exact SeqAt.EqAt.bool_none a
  | bl b=>cases rx; exact SeqAt.EqAt.bool_bool a b
  | int b=>obtain⟨t,rfl⟩:=rx; exact SeqAt.EqAt.bool_int a b t
  | str b=>obtain⟨t,rfl⟩:=rx; exact SeqAt.EqAt.bool_str a b t
  | _=>exact absurd (show false=true from fx) GR
 | int a=>
  obtain⟨t',rfl⟩:=ry;cases x with
  | non=>cases rx; exact SeqAt.EqAt.int_none a t'
  | bl b=>cases rx; exact SeqAt.EqAt.int_bool a t' b
  | int b=>obtain⟨t,rfl⟩:=rx; exact SeqAt.EqAt.int_int a t' b t
  | str b=>obtain⟨t,rfl⟩:=rx; exact SeqAt.EqAt.int_str a t' b t
  | _=>exact absurd (show false=true from fx) GR
 | str a=>
  obtain⟨t',rfl⟩:=ry;cases x with
  | non=>cases rx; exact SeqAt.EqAt.str_none a t'
  | bl b=>cases rx; exact SeqAt.EqAt.str_bool a t' b
  | int b=>obtain⟨t,rfl⟩:=rx; exact SeqAt.EqAt.str_int a t' b t
  | str b=>obtain⟨t,rfl⟩:=rx; exact SeqAt.EqAt.str_str a t' b t
  | _=>exact absurd (show false=true from fx) GR
 | _=>exact absurd (show false=true from fy) GR
noncomputable def nN (x:V)(u:Value):Bool:=match u with
 | .none=>eqV .non x
 | .bool b=>eqV (.bl b) x
 | .int i _=>eqV (.int i) x
 | .str z _=>eqV (.str z) x
 | _=>false
def wa {x y:V}{u:Value}(r:RelV y u)(f:flatV y=true):nN x u=eqV y x:=by
 cases y with
 | non=>cases r; rfl
 | bl b=>cases r; rfl
 | int i=>obtain⟨t,rfl⟩:=r; rfl
 | str z=>obtain⟨t,rfl⟩:=r; rfl
 | _=>exact absurd (show false=true from f) GR
theorem wY {A:Around}{s:Shared}{x:V}{v:Value}(rx:RelV x v)(fx:flatV x=true):∀{xs:aw} {us:ar},Vals xs us->xs.all flatV=true->∀u∈us,SeqAt.EqAt A s u v (nN x u)
 | _,_,.nil,_=>λu hu=>by cases hu
 | y::xs,u::us,.cons r t,f=>λu' hu=>by
  rw[List.all_cons,tw] at f;rcases cg hu with rfl | hu
  .rw[wa r f.1]; exact Ea r rx f.1 fx
  .exact wY rx fx t f.2 u' hu
def zi:CallR X (.builtin "len") (λxs H Q=>∃p ys,xs=[.ref p]/\(SqL X.K H p ys\/SqT X.K H p ys)/\Q (.int ys.length) H):=by
 intro pins s σ H xs us Q I r h;obtain⟨p,ys,rfl,hq,q⟩:=h;obtain⟨u,rfl,rx⟩:=vals1 r;cases rx;have hn:=d7;rcases hq with hq | hq
 .obtain⟨its,r',pl,hz⟩:=I.list hq;have hlen:=r'.length;exact Calls.call_len_list pl.isList (by simp only[Gv] <;> omega) ⟨.int ys.length,H,I.tok _,⟨s.toks+1,by rw[Gv,hlen]⟩,q⟩
 .obtain⟨its,r',pl,hz⟩:=I.tuple hq;have hlen:=r'.length;exact len_tuple pl (by simp only[Gv] <;> omega) ⟨.int ys.length,H,I.tok _,⟨s.toks+1,by rw[Gv,hlen]⟩,q⟩
def AY:CallR X (.type "list") (λxs H Q=>∃p ys,xs=[.ref p]/\(SqL X.K H p ys\/SqT X.K H p ys)/\∀l,H l=none->Q (.ref l) (upd H l (.lst ys))):=by
 intro pins s σ H xs us Q I r h;obtain⟨p,ys,rfl,hq,q⟩:=h;obtain⟨u,rfl,rx⟩:=vals1 r;cases rx;have fin:∀(its:ar),Vals ys its->ys.length<=sizeLine->∀(h':Heap) (c':Nat),(∀b o',s.heap.get? b=some o'->h'.get? b=some o') ->
   h'.get? s.heap.objs.size=some { cls:=.type "list",dict:=none,data:=.seq its.toArray c',slots:=#[] }->EP X pins σ Q (.ref s.heap.objs.size) { s with heap:=h' }:=λits r' hz h' c' kp e=>
  ⟨.ref s.heap.objs.size,_,I.laid (t':=s.toks) kp (bC _) (show ObjOk X.prog X.w _ h' _ (.lst ys) from ⟨hz,its,c',r',e⟩),rfl,q _ (I.hok.fresh (bC _))⟩
 rcases hq with hq | hq
 .obtain⟨its,r',pl,hz⟩:=I.list hq;have hlen:=r'.length;obtain⟨o,ho,hc,n,hd⟩:=pl.isList;exact call_list_seq p (.inl rfl) ho hc hd (λh' c' kp e=>fin its r' hz h' c' kp e) (by simp only[Gv] <;> omega)
 .obtain⟨its,r',pl,hz⟩:=I.tuple hq;have hlen:=r'.length;obtain⟨o,ho,hc,n,hd⟩:=pl;exact call_list_seq p (.inr rfl) ho hc hd (λh' c' kp e=>fin its r' hz h' c' kp e) (by simp only[Gv] <;> omega)
def Bc:CallR X (.type "tuple") (λxs H Q=>∃p ys,xs=[.ref p]/\((SqL X.K H p ys/\∀l,H l=none->Q (.ref l) (upd H l (.tup ys)))\/(SqT X.K H p ys/\Q (.ref p) H))):=by
 intro pins s σ H xs us Q I r h;obtain⟨p,ys,rfl,h⟩:=h;obtain⟨u,rfl,rx⟩:=vals1 r;cases rx;rcases h with ⟨hq,q⟩ | ⟨hq,q⟩
 .obtain⟨its,r',pl,hz⟩:=I.list hq;have hlen:=r'.length;refine call_tuple_list pl.isList (λh' kp=>?_) (by simp only[Gv] <;> omega);have I1:Inv X pins σ H { s with heap:=h' }:=I.kept (t':=s.toks) kp;have I2:Inv X pins σ (upd H h'.objs.size (.tup ys)) { s with heap:=h'.push { cls:=.type "tuple",data:=.seq its.toArray } }:=
   I1.laid (t':=s.toks) (λb o e=>b7 _ e) (bC _) (show ObjOk X.prog X.w _ _ _ (.tup ys) from ⟨hz,its,r',TupN.new _ _⟩)
  exact⟨.ref h'.objs.size,_,I2,rfl,q _ (I1.hok.fresh (bC _))⟩
 .obtain⟨its,r',pl,hz⟩:=I.tuple hq;exact call_tuple_same pl ⟨.ref p,H,I,rfl,q⟩
def tyV (K:bq)(T:String)(x:V)(H:Hp):Prop:=match x with
 | .str _=>T = "str"
 | .int _=>T = "int"
 | .ref p=>(T = "list" /\ ∃xs,SqL K H p xs)\/(T = "tuple" /\ ∃xs,SqT K H p xs) \/
   (T = "dict" /\ ((∃kvs,H p=some (.dK kvs))\/∃kvs,H p=some (.dT kvs)))\/(T = "set" /\ ∃S n,H p=some (.set S n))
 | _=>False
def wG {pins:ah}{σ:St}{H:Hp}{s:Shared}{T:String}{x:V}{v:Value}(I:Inv X pins σ H s)(r:RelV x v)(ty:tyV X.K T x H) :
  s.TypeIs v T/\∀a,v=.ref a->∃ob,s.heap.get? a=some ob/\ob.dict=none:=by
 cases x with
 | str z=>
  obtain⟨t,rfl⟩:=r;cases (show T = "str" from ty);exact⟨typeIs_str s z t,λ_ e=>nomatch e⟩
 | int i=>
  obtain⟨t,rfl⟩:=r;cases (show T = "int" from ty);exact⟨typeIs_int s i t,λ_ e=>nomatch e⟩
 | ref p=>
  cases r;rcases ty with ⟨rfl,xs,hq⟩ | ⟨rfl,xs,hq⟩ | ⟨rfl,hk⟩ | ⟨rfl,S,n,hk⟩
  .obtain⟨its,_,pl,_⟩:=I.list hq;refine⟨pl.isList.typeIs,λa e=>?_⟩;cases e;obtain⟨o,n,e,c,hd,_⟩:=pl;exact⟨o,e,hd⟩
  .obtain⟨its,_,⟨o,e,c,_,d⟩,_⟩:=I.tupN hq;refine⟨⟨o,e,c⟩,λa e2=>?_⟩;cases e2;exact⟨o,e,d⟩
  .have z:∃o,s.heap.get? p=some o/\o.ExactDict:=by
    rcases hk with ⟨kvs,hk⟩ | ⟨kvs,hk⟩
    .obtain⟨_,_,_,_,o,_,_,e,ex,_⟩:=I.hok p _ hk;exact⟨o,e,ex⟩
    .obtain⟨_,_,_,_,o,_,_,e,ex,_⟩:=I.hok p _ hk;exact⟨o,e,ex⟩
   obtain⟨o,e,ex⟩:=z;refine⟨⟨o,e,ex.1⟩,λa e2=>?_⟩;cases e2;exact⟨o,e,ex.2.1⟩
  .obtain⟨o,_,_,_,e,ex,_⟩:=I.hok p _ hk;refine⟨⟨o,e,ex.1⟩,λa e2=>?_⟩;cases e2;exact⟨o,e,ex.2.1⟩
 | _=>exact False.elim ty
def jN (K:bq)(T:String)(r:V->aw->Hp->VK->Prop)(to:TE):TE:=λσ H Q=>to σ H λx H1=>tyV K T x H1/\r x [] H1 Q
def ig (K:bq)(T:String)(r:V->aw->Hp->VK->Prop)(to:TE)(t:TA):TE:=λσ H Q=>to σ H λx H1=>tyV K T x H1/\t σ H1 λxs H2=>r x xs H2 Q
variable {o e:Expr}{es:av}{to:TE}{t:TA}{name:Str}{apos cpos:Pos}{T id:String}{r:V->aw->Hp->VK->Prop}
def FK (pa:PlainAttrs T)(slot:Slot T name id)(hty:typeOf (.builtin id)=pure (.type "method_descriptor"))(hm:qu X id r)(ho:PE X o to)
  (hbase:attributeBase o name X.env (eval o X.env)=eval o X.env:=by rfl)(hline:(apos.endLine == cpos.line)=true:=by rfl):PE X (.Call (.Attribute o name apos) [] [] cpos) (jN X.K T r to):=by
 intro pins s σ H Q I h;refine wpAny_Call_method0_late hbase hline (bi (ho pins s σ H _ I h) λv s1 hZz=>?_);obtain⟨x,H1,I1,r1,ty,q1⟩:=hZz;obtain⟨h1,h2⟩:=wG I1 r1 ty;exact⟨T,id,pa,slot,hty,h1,h2,Calls.callWith_builtin rfl (PySem.evalArgs_none (hm pins s1 σ H1 x [] v [] Q I1 r1 .nil q1))⟩
def o6 (pa:PlainAttrs T)(slot:Slot T name id)(hty:typeOf (.builtin id)=pure (.type "method_descriptor"))(hm:qu X id r)(ho:PE X o to)(ha:PA X (e::es) t)
  (hbase:attributeBase o name X.env (eval o X.env)=eval o X.env:=by rfl)
  (hfew:((backTo cpos (starEach (e::es) X.env)).all (λx=>!x.1)&&(backToKw cpos (keywordEach [] X.env)).all (λx=>x.1.isSome)
   && decide ((e::es).length+([]:List Keyword).length+(if ([]:List Keyword).isEmpty then 0 else 1)<30))=true:=by rfl)
  (hline:(apos.endLine == cpos.line)=true:=by rfl)(hs:starEach (e::es) X.env=(false,eval e X.env)::starEach es X.env:=by rfl)(hplain:(backTo cpos (starEach es X.env)).any (·.1)=false:=by rfl) :
  PE X (.Call (.Attribute o name apos) (e::es) [] cpos) (ig X.K T r to t):=by
 intro pins s σ H Q I h;refine wpAny_Call_method_late hbase hfew hline rfl (bi (ho pins s σ H _ I h) λv s1 hZz=>?_);obtain⟨x,H1,I1,r1,ty,q1⟩:=hZz;obtain⟨h1,h2⟩:=wG I1 r1 ty;refine⟨T,id,pa,slot,hty,h1,h2,?_⟩;have hA:=ha cpos pins s1 σ H1 _ I1 q1;rw[hs] at hA ⊢;refine Calls.callWith_builtin (by show (false||(backTo cpos (starEach es X.env)).any (·.1))=false; rw[hplain] <;> rfl) (Calls.evalArgs_plain ?_);exact bi hA λus s2 ⟨vs,H2,I2,r2,q2⟩=>hm pins s2 σ H2 x vs v us Q I2 r1 r2 q2
end
end L2
namespace L2
open PySem PySem.Spec PyProof.Rows
def pb (X:Cx)(id:String)(r:V->aw->Hp->VK->Prop):Prop:=
 ∀(pins:ah) (s:Shared) (σ:St) (H:Hp) (x:V) (xs:aw) (v:Value) (us:ar) (Q:VK),Inv X pins σ H s->RelV x v->Vals xs us->r x xs H Q ->
  wpAny (model X.prog X.w) X.A (call (.builtin id) (v::us)) (EP X pins σ Q) X.xe s
theorem Vals.one:∀{x:V} {us:ar},Vals [x] us->∃u,us=[u]/\RelV x u
 | _,_,.cons r .nil=>⟨_,rfl,r⟩
theorem Vals.zero:∀{us:ar},Vals [] us->us=[]
 | _,.nil=>rfl
theorem Vals.eraseIdx:∀{xs:aw} {us:ar} (i:Nat),Vals xs us->Vals (xs.eraseIdx i) (us.eraseIdx i)
 | _,_,_,.nil=>.nil
 | _,_,0,.cons _ t=>t
 | _,_,i+1,.cons r t=>.cons r (Vals.eraseIdx i t)
theorem Vals.reverse {xs:aw}{us:ar}(h:Vals xs us):Vals xs.reverse us.reverse:=by
 induction h with
 | nil=>exact .nil
 | cons r t ih=>rw[IW,IW]; exact Vals.append ih (.cons r .nil)
theorem Vals.rep {xs:aw}{us:ar}(h:Vals xs us):∀k:Nat,Vals (List.replicate k xs).flatten (List.replicate k us).flatten
 | 0=>.nil
 | k+1=>by
  rw[List.replicate_succ,List.replicate_succ,List.flatten_cons,List.flatten_cons];exact Vals.append h (Vals.rep h k)
theorem vH {α:Type}:∀(l:List α) (i:Nat),(l.eraseIdx i).length<=l.length
 | [],_=>bC _
 | _::_,0=>HE _
 | _::r,i+1=>Nat.succ_le_succ (vH r i)
theorem sS (its:ar):∀(k:Nat) (acc:ar),
  List.foldl (λx1 x2=>x1++x2) acc.toArray (List.replicate k its.toArray)=(acc++(List.replicate k its).flatten).toArray
 | 0,acc=>by simp
 | k+1,acc=>by
  have e:acc.toArray++its.toArray=(acc++its).toArray:=by simp
  have e2:(acc++its)++(List.replicate k its).flatten=acc++(List.replicate (k+1) its).flatten:=by
   rw[List.replicate_succ,List.flatten_cons,HN]
  rw[<-e2,<-sS its k (acc++its),<-e,List.replicate_succ,List.foldl_cons]
section
variable {X:Cx}{pins:ah}{σ:St}{H:Hp}{s:Shared}{l b:Addr}{xs ys zs:aw}
def Inv.lset {its its':ar}{n:Nat}{f:aC->aC}{t':Nat}(I:Inv X pins σ H s)(hH:H l=some (.lst xs))
  (e:s.heap.get? l=some { cls:=.type "list",data:=.seq its.toArray n })(hf:f its.toArray=its'.toArray)(hv:Vals ys its')(hz:ys.length<=sizeLine) :
  Inv X pins σ (upd H l (.lst ys)) { s with heap:=s.heap.update l (Obj.mapSeq f),toks:=t' }:=by
 have q:=PySem.IsL.update e f;rw[hf] at q;refine I.write (x:=l) (e:=l) (by rw[hH]; exact trivial) (.inl rfl) (λb' u hb hu=>(IV s.heap (Obj.mapSeq f) (Iv hb)).trans hu) ⟨_,q⟩ ?_;exact⟨hz,its',_,hv,q⟩
def Inv.lnew {its:ar}{t':Nat}(I:Inv X pins σ H s)(hv:Vals ys its)(hz:ys.length<=sizeLine) :
  Inv X pins σ (upd H s.heap.objs.size (.lst ys)) { s with heap:=s.heap.push { cls:=.type "list",data:=.seq its.toArray },toks:=t' }:=
 I.laid (λ_ _ q=>b7 _ q) (bC _) ⟨hz,its,0,hv,df _ rfl⟩
theorem Inv.fresh (I:Inv X pins σ H s):H s.heap.objs.size=none:=I.hok.fresh (bC _)
def Inv.lstM (I:Inv X pins σ H s)(hH:H l=some (.lst xs)):xs.length<=sizeLine/\∃(its:ar) (n:Nat),Vals xs its/\xs.length=its.length/\s.heap.get? l=some { cls:=.type "list",data:=.seq its.toArray n }:=by
 obtain⟨z,its,n,r,e⟩:=I.hok l _ hH;exact⟨z,its,n,r,r.length,e⟩
def uN {n:Nat}(h:n<=sizeLine):Builtin.List.listTooLong n=false:=by
 unfold Builtin.List.listTooLong;exact GQ (by omega)
end
section
variable {X:Cx}
def fV:V->aw->Hp->VK->Prop:=λx vs H Q=>∃l xs y,x=.ref l/\vs=[y]/\H l=some (.lst xs)/\xs.length<sizeLine/\Q .non (upd H l (.lst (xs++[y])))
def tT:pb X "list.append" fV:=by
 intro pins s σ H x vs v us Q I rx rv h;obtain⟨l,xs,y,rfl,rfl,hH,hz,q⟩:=h;cases rx;obtain⟨u,rfl,ru⟩:=rv.one;obtain⟨z,its,n,r,hl,e⟩:=I.lstM hH;refine HW F.slot_list_append ⟨_,e,rfl⟩ F.entry_list_append (F.args_list_append_2 _ _) (PySem.list_append l its.toArray n u (by rw[Gv]; omega)) ⟨e,?_⟩;refine⟨.non,_,I.lset (its':=its++[u]) hH e (by simp) (r.append (.cons ru .nil)) ?_,rfl,q⟩;rw[GG,List.length_singleton];omega
def gv:V->aw->Hp->VK->Prop:=λx vs H Q=>∃l xs,x=.ref l/\vs=[]/\H l=some (.lst xs)/\Q .non (upd H l (.lst []))
def yz:pb X "list.clear" gv:=by
 intro pins s σ H x vs v us Q I rx rv h;obtain⟨l,xs,rfl,rfl,hH,q⟩:=h;cases rx;have hus:=rv.zero;subst hus;obtain⟨z,its,n,r,hl,e⟩:=I.lstM hH;refine HW F.slot_list_clear ⟨_,e,rfl⟩ F.entry_list_clear (F.args_list_clear_1 _) (AutoSeq1.list_clear_list_0 l its.toArray n (by rw[Gv]; omega)) ⟨e,?_⟩;exact⟨.non,_,I.lset (its':=[]) (ys:=[]) hH e rfl .nil (GX _),rfl,q⟩
def pE:R2:=λx y H Q=>∃l k xs,x=.ref l/\y=.int k/\Rd H l (.lst xs) /\ -(2 ^ 63)<=k/\k<2 ^ 63/\xs.length * k.toNat<=sizeLine /\
 ∀p,H p=none->Q (.ref p) (upd H p (.lst (List.replicate k.toNat xs).flatten))
def sP {α:Type}(xs:List α)(k:Nat):(List.replicate k xs).flatten.length=k * xs.length:=by
 induction k with
 | zero=>simp
 | succ k ih=>rw[List.replicate_succ,List.flatten_cons,GG,ih,Nat.succ_mul,Nat.add_comm]
def BW:OpR X (binaryOp .Mult) pE:=by
 intro pins s σ H x y v u Q I rx ry h;obtain⟨l,k,xs,rfl,rfl,hH,h1,h2,hz,q⟩:=h;cases rx;obtain⟨t,rfl⟩:=ry;obtain⟨z,its,n,r,e⟩:=hH.ok I.hok;have hl:=r.length;have hlen:its.toArray.size * k.toNat<=sizeLine:=by rw[Gv,<-hl]; exact hz
 have hcap:¬its.toArray.size * k.toNat > (2 ^ 63 - 1) / 8:=by
  have:(sizeLine:Nat)<=(2 ^ 63 - 1) / 8:=by decide
  omega
 have hfit:¬(!Builtin.List.listFitsIndex k)=true:=by
  rw[fitsIndex_both h1 h2];exact GR
 have hlong:¬Builtin.List.listTooLong (its.toArray.size * k.toNat)=true:=by
  rw[uN hlen];exact GR
 have hnew:List.foldl (λx1 x2=>x1++x2) #[] (List.replicate (if its.toArray.isEmpty=true then 0 else k.toNat) its.toArray)=(List.replicate k.toNat its).flatten.toArray:=by
  have f0:∀m:Nat,List.foldl (λx1 x2=>x1++x2) #[] (List.replicate m its.toArray)=(List.replicate m its).flatten.toArray:=λm=>by
   have:=sS its m [];rw[List.nil_append] at this;exact this
  rw[f0];cases its with
  | nil=>simp
  | cons a r'=>rw[if_neg (by simp)]
 refine wpAny_binaryOp_repeat_ref (T := "list") (U := "int") (by decide) ⟨_,e,rfl⟩ (λs'=>typeIs_int s' k t) noFill_list_mul F.fills_int_mul F.slot_int_rmul repeat_list F.slot_int_index.lookup
  (HW F.slot_int_rmul (typeIs_int s k t) F.entry_int_rmul (F.args_int_rmul_2 _ _) (int___rmul___int_list k t l its.toArray n)
   ⟨e,rfl,⟨_,e,rfl⟩,HW F.slot_list_mul ⟨_,e,rfl⟩ F.entry_list_mul (F.args_list_mul_2 _ _) (AutoListH.list___mul___list_int_3 l its.toArray n k t hfit hcap hlong) ⟨e,?_⟩⟩)
 rw[hnew];exact⟨.ref _,_,I.lnew (t':=s.toks) (r.rep k.toNat) (by rw[sP,Nat.mul_comm]; exact hz),rfl,q _ I.fresh⟩
end
section
variable {prog:Program}{w:World}{A:Around}{E:Value->Shared->Prop}{s:Shared}
end
section
variable {X:Cx}
end
end L2
namespace Att
open PySem PySem.W PySem.Calls PyProof.Rows
def ED {P:Params}{h:Heap}:∀(ns:ao) (vs:ar),WellAll P h vs (ns.map WData.int)->IntsAre vs ns:=by
 intro ns;induction ns with
 | nil=>
  intro vs w;rw[List.map_nil] at w;cases w;exact .nil
 | cons n ns ih=>
  intro vs w;rw[GA] at w;cases w with
  | cons a b=>
   cases a;exact .cons _ _ (ih _ b)
def Gj {l:OpenLaw}{n:Nat}(hn:l.most=some n){P:Params}{h:Heap}{args:List WData}{vals:ar}
  (hpre:l.row.toRowW.claim.pre args=true)(hwl:WellAll P h vals args) :
  ∃a vs ns,vals=[Value.ref a]/\args=[WData.list (ns.map WData.int)]/\h.get? a=some { cls:=.type "list",data:=.seq vs.toArray }/\IntsAre vs ns/\ns.length<=n:=by
 have hsh:WShape.hasAll [] args [.list .int]=true:=(pre_splitW hpre).1;have hc:l.pre.holds [] { args:=args }=true:=(pre_splitW hpre).2;obtain⟨d,r,rfl,h1,h2⟩:=hasAllW_cons hsh;obtain rfl:=hasAllW_nil h2;obtain⟨xs,rfl,h3⟩:=hasW_list h1;obtain⟨ns,rfl⟩:=items_int h3;have hlen:ns.length<=n:=by
  unfold OpenLaw.pre at hc;have h4:(WTm.not (.lt (.lit (.int (n:Int))) (.len (.arg 0)))).holds [] { args:=[.list (ns.map .int)] }=true:=by
   have h4:=(holds_andW hc).1;rw[hn] at h4;exact h4
  have h5:=condW_of h4 (w_not (w_lt w_lit (w_len_list (w_arg rfl))));rw[Gx] at h5;refine Nat.le_of_not_lt λq=>?_;have q':(n:Int)<((ns.length:Nat):Int):=by omega
  first
   | (rw[GE q'] at h5; exact absurd h5 (by decide))
   | (simp at h5; omega)
 cases hwl with
 | cons w1 w2=>
  cases w2;cases w1 with
  | list ho hall=>exact⟨_,_,ns,rfl,rfl,ho,ED ns _ hall,hlen⟩
def CD (l:OpenLaw)(args:List WData):l.row.toRowW.claim.post args (.bool true) args=true:=
 postW_of (r:=l.row.toRowW) (X:=(true == true))
  (show WShape.has [] (.bool true) .bool=true by first | rfl | decide | simp[WShape.has,WShape.arms,WShape.armsAll])
  (show (WTm.eq .res (.lit (.bool true))).value [] { args:=args,res:=some (.bool true),after:=args }=some (.bool (true == true)) from w_eq_bool (w_res rfl) w_lit) rfl
def attach_call {l:OpenLaw}{n:Nat}{q:Program}{loose:au}{XP:(Str->aB)->Heap->Prop}{YP:World->Heap->Prop}{d:DefRec}
  (hn:l.most=some n)(hdf:d.params.defaults=[])
  (call:∀(w:World) (s₀ s₁:Shared) (mg mb:Str->aB) (fa:Addr) (o:Obj) (pm cd doc:Value) (a:Addr) (vs:ar) (ns:ao),
   Ground q loose [] XP w s₀ mg mb s₁.heap->YP w s₁.heap ->
   s₁.heap.get? fa=some o->o.data=.func (docDef d.name d.params d.body d.scope pm cd doc)->s₁.heap.CodeRec cd d.name->mg d.name=some (.ref fa) ->
   s₁.heap.get? a=some { cls:=.type "list",data:=.seq vs.toArray }->IntsAre vs ns->ns.length<=n->s₁.gens = #[] ->
   codeAny (model l.prog w) callerA (.call (.ref fa) ⟨[.ref a],[]⟩) (λr s'=>r=.ok (.ret (.bool true))/\OldK s₁.heap s'.heap/\s'.os=s₁.os/\AllBare s'.gens) s₁) :
  WalkO q loose XP YP l.row.toRowW d [] (λf vs=>PySem.call f vs):=by
 intro w s₀ s₁ mg mb G Y fa o pm cd doc dV kV ho hd hcd hD hmg hg args vals as hpre hlay hrd hwl hlo;obtain rfl:dV=.none:=Dflts.none hD hdf;obtain rfl:kV=.none:=Dflts.noKw hD;obtain⟨a,vs,ns,rfl,rfl,hobj,hints,hlen⟩:=Gj hn hpre hwl;refine enter_call (IS (call w s₀ s₁ mg mb fa o pm cd doc a vs ns G Y ho (fd_plain hd) hcd hmg hobj hints hlen hg) λr s' hq=>?_);obtain⟨rfl,h2,h3,h4⟩:=hq;exact⟨.inl ⟨.bool true,.bool true,[],rfl,λ_=>rfl,.bool true,CD l _,λ_=>⟨List.Pairwise.nil,λ_ hm=>(nomatch hm)⟩⟩,h2,h3,h4⟩
section
variable {prog:Program}{w:World}{A:Around}{E:Value->Shared->Prop}{s:Shared}{K:Frag}
end
end Att
namespace L2
open PySem PySem.Spec PyProof.Rows
theorem xw:∀{vs:ar} {ns:ao},IntsAre vs ns->Vals (ns.map V.int) vs
 | _,_,.nil=>.nil
 | _,_,.cons n t h=>.cons ⟨t,rfl⟩ (xw h)
def jD (H:Hp):Prop:=∀b,H b=none\/∃o xs,H b=some (.frz o (.lst xs))
def Bk {P:Program}{w:World}{K:bq}{mg mb:Str->aB}{CX:gk}{k:Nat}{fa a:Addr}{fd:FuncData}{x:Str}{sp:Sp}{s₁:Shared}{vs:ar}{ns:ao}
  (KX:K.In s₁.heap)(hns:s₁.heap.Ns mainGlobals mg)(hb:s₁.heap.Ns builtinsNs mb)(hbb:∀x:Str,x ≠ "__name__" -> mb x=bootBuiltins x)(hlim:s₁.heap.NoLimit)(hg:s₁.gens = #[])
  (ha:s₁.heap.get? a=some { cls:=.type "list",data:=.seq vs.toArray })(hi:IntsAre vs ns)(hl:ns.length<=sizeLine)(hr:Room k callerA)
  (F:∀base:Heap,K.In base->base.Ns mainGlobals mg->FnOk P w K mg base CX k fa fd [x] sp)(hbind:∀(s:Shared) (u:Value),BindsTo s fd ⟨[u],[]⟩ [(x,u)])
  (hsp:∀H:Hp,jD H->SqL K H a (ns.map V.int)->sp [.ref a] H (λv _=>v=.bl true) λ_ _ _=>False)
  (hCX:∀H e s',CX [] H s₁ (λ_ _ _=>False) e s'->False) :
  codeAny (model P w) callerA (.call (.ref fa) ⟨[.ref a],[]⟩) (λr s'=>r=.ok (.ret (.bool true))/\OldK s₁.heap s'.heap/\s'.os=s₁.os/\AllBare s'.gens) s₁:=by
 have rv:=xw hi;have lenV:=hi.length;have core:∀H:Hp,jD H->SqL K H a (ns.map V.int)->HOk P w H s₁.heap->(∀b,H b≠none->b=a)->(H a≠none->K.lookup a=none) ->
   codeAny (model P w) callerA (.call (.ref fa) ⟨[.ref a],[]⟩) (λr s'=>r=.ok (.ret (.bool true))/\OldK s₁.heap s'.heap/\s'.os=s₁.os/\AllBare s'.gens) s₁:=by
  intro H hO hS hok hA hK;have base_of:∀{b:Addr} {o:Obj},s₁.heap.get? b=some o->H b=none->(dZ s₁.heap H).get? b=some o:=λe n=>yF e n;have noA:∀{b:Addr} {o:Obj} {es:Array DictEntry} {ep:Nat},s₁.heap.get? b=some o->o.data=.dict es ep->H b=none:=λ{b o es ep} e d=>by
   cases q:H b with
   | none=>rfl
   | some u=>
    have e':b=a:=hA b (by rw[q]; simp);subst e';rw[ha] at e; cases e;have d':Data.seq vs.toArray _=Data.dict es ep:=d;cases d'
  have nsK:∀{b:Addr} {m:Str->aB},s₁.heap.Ns b m->(dZ s₁.heap H).Ns b m:=λ{b m} ⟨o,es,ep,e,d,r⟩=>⟨o,es,ep,base_of e (noA e d),d,r⟩
  have hKb:K.In (dZ s₁.heap H):=λb o e=>base_of (KX b o e) (by
   cases q:H b with
   | none=>rfl
   | some u=>
    have e':b=a:=hA b (by rw[q]; simp);subst e';rw[hK (by rw[q]; simp)] at e; cases e)
  have hM:Mod K mg (dZ s₁.heap H):=⟨hKb,nsK hns,⟨mb,nsK hb,hbb⟩,let ⟨mc,h1,h2⟩:=hlim; ⟨mc,nsK h1,h2⟩⟩
  have e0:Env0 P w K mg (dZ s₁.heap H) callerA [] s₁ H:=⟨rfl,hM,λb o e=>Bt e,Jx (EZ _ _),trivial,λb hb=>absurd (show b∈([]:aq) from hb) (by simp),hok,.of_eq hg⟩
  refine IS ((F _ hKb (nsK hns)).run callerA [] s₁ H ⟨[.ref a],[]⟩ [.ref a] [.ref a] _ _ hr e0 (hbind s₁ (.ref a)) (.cons rfl .nil) (hsp H hO hS)) λr s' h=>?_;cases r with
  | error e=>exact (hCX H e s' h).elim
  | ok fl=>
   cases fl with
   | next=>exact False.elim h
   | brk=>exact False.elim h
   | cont=>exact False.elim h
   | ret u=>
    obtain⟨v,H',os,bare,un,hok',r',q⟩:=h;have q':v=.bl true:=q;subst q';obtain rfl:u=Value.bool true:=r';refine⟨rfl,OldK.of_keep λb o e=>?_,os,bare⟩;cases q:H b with
    | none=>exact un.keep b o e q (by intro z; exact absurd (show b∈([]:aq) from z) (by simp)) (by simp)
    | some u=>
     rcases hO b with z | ⟨ob,xs,z⟩
     .rw[q] at z; cases z
     .have z2:=un.frzs b ob _ z;obtain⟨e1,_⟩:=hok b _ z;obtain⟨e2,_⟩:=hok' b _ z2;rw[e] at e1; cases e1;exact e2
 cases hk:K.lookup a with
 | some o=>
  have e:=KX a o hk;rw[ha] at e;cases e;refine core (λ_=>none) (λ_=>.inl rfl) (.inr ⟨_,vs.toArray,_,hk,rfl,rfl,rfl,by rw[Gv,lenV]; exact hl,by simpa using rv⟩) (λb u z=>by have z':(none:Option HO)=some u:=z; cases z') (λb z=>absurd rfl z) λz=>absurd rfl z
 | none=>
  refine core (λb=>if b=a then some (.frz { cls:=.type "list",data:=.seq vs.toArray } (.lst (ns.map V.int))) else none) (λb=>?_) (.inl (.inr ⟨{ cls:=.type "list",data:=.seq vs.toArray },if_pos rfl⟩)) (λb u z=>?_) (λb z=>?_) λ_=>hk
  .by_cases hb:b=a
   .exact .inr ⟨_,_,if_pos hb⟩
   .exact .inl (if_neg hb)
  .by_cases hb:b=a
   .have z':=(if_pos hb).symm.trans z;cases z';subst hb;exact⟨ha,by rw[Gx]; exact hl,vs,_,rv,ha⟩
   .have z':=(if_neg hb).symm.trans z;cases z'
  .by_cases hb:b=a
   .exact hb
   .exact absurd (if_neg hb) z
end L2
namespace L2
open PySem PySem.Spec PyProof.Rows
end L2
namespace L2
open PySem PySem.Spec PyProof.Rows
noncomputable def en (s:Stmt)(j:Nat):Stmt:=match s with
 | .ClassDef _ _ _ body _ _ _ _ _ _ _=>body.getD j (.Pass ⟨0,0,0,0⟩)
 | _=>.Pass ⟨0,0,0,0⟩
noncomputable def ba (s:Stmt):Arguments:=match s with
 | .FunctionDef _ a _ _ _ _ _ _ _ _=>a
 | _=>{ posonlyargs:=[],args:=[],vararg:=none,kwonlyargs:=[],kw_defaults:=[],kwarg:=none,defaults:=[] }
noncomputable def bo (s:Stmt):aH:=match s with
 | .FunctionDef _ _ b _ _ _ _ _ _ _=>b
 | _=>[]
noncomputable def cx (s:Stmt):Scope:=match s with
 | .FunctionDef _ _ _ _ _ _ sc _ _ _=>sc
 | _=>{ kind:=.function,names:=[],isGenerator:=false,isCoroutine:=false }
abbrev E0:St->XK:=λ_ _ _ _=>False
section
variable {P:Program}{w:World}{K:bq}{mg:Str->aB}{base:Heap}
end
section
variable {X:Cx}
end
def Same (H H':Hp):Prop:=∀b o,H b=some o->H' b=some o
def Same.trans {H H1 H2:Hp}(a:Same H H1)(b:Same H1 H2):Same H H2:=λc o h=>b c o (a c o h)
def Same.free {H H':Hp}(e:Same H H'){l:Addr}(h:H' l=Option.none):H l=Option.none:=by
 cases q:H l with
 | none=>rfl
 | some o=>
  rw[e l o q] at h;cases h
def Same.seq {K:bq}{H H':Hp}{a:Addr}{xs:aw}(e:Same H H')(h:SqL K H a xs):SqL K H' a xs:=by
 rcases h with (h | ⟨o,h⟩) | h
 .exact .inl (.inl (e _ _ h))
 .exact .inl (.inr ⟨o,e _ _ h⟩)
 .exact .inr h
end L2
end
section
namespace L2
open PySem PySem.W Builtin Builtin.ObjectAttr
structure Fly (h:Heap)(e T:Addr)(fl:Value):Prop where
 ex:∃oe vs oT ts,h.get? e=some oe/\oe.data=.fields vs/\vs[1]? = some (.ref T)/\h.get? T=some oT/\oT.data=.fields ts/\ts[3]? = some fl
 ne:T≠e
structure XStep (fr:aq)(e:Addr)(ch:aq)(h h':Heap):Prop where
 size:h.objs.size<=h'.objs.size
 keep:∀b o,h.get? b=some o->b≠e->b∉fr->b∉ch->h'.get? b=some o
 slot:∀b o,h.get? b=some o->b≠e->b∈fr->b∉ch->∃sl,h'.get? b=some { o with slots:=sl }
 exc:∀oe vs,h.get? e=some oe->oe.data=.fields vs->∃vs':aC,h'.get? e=some { oe with data:=.fields vs' }/\vs'.size=vs.size/\vs'[0]? = vs[0]?
 there:∀b o,h.get? b=some o->b≠e->∃o',h'.get? b=some o'
def Da {o:Obj}{vs:aC}(hd:o.data=.fields vs)(f:aC->aC):o.mapFields f={ o with data:=.fields (f vs) }:=by
 obtain⟨c,d,dt,sl⟩:=o; subst hd; rfl
theorem XStep.trans {fr ch:aq}{e:Addr}{h1 h2 h3:Heap}(a:XStep fr e ch h1 h2)(b:XStep fr e ch h2 h3):XStep fr e ch h1 h3 where
 size:=bH a.size b.size
 keep:=λc o z n1 n2 n3=>b.keep c o (a.keep c o z n1 n2 n3) n1 n2 n3
 slot:=λc o z n1 n2 n3=>by
  obtain⟨sl,z1⟩:=a.slot c o z n1 n2 n3;obtain⟨sl',z2⟩:=b.slot c _ z1 n1 n2 n3;exact⟨sl',z2⟩
 exc:=λoe vs z hd=>by
  obtain⟨v1,z1,e1,e2⟩:=a.exc oe vs z hd;obtain⟨v2,z2,e3,e4⟩:=b.exc _ v1 z1 rfl;exact⟨v2,z2,e3.trans e1,e4.trans e2⟩
 there:=λc o z n1=>by
  obtain⟨o1,z1⟩:=a.there c o z n1;exact b.there c o1 z1 n1
def XStep.mono {fr fr' ch ch':aq}{e:Addr}{h1 h2:Heap}(a:XStep fr e ch h1 h2)(hf:∀b∈fr,b∈fr')(hc:∀b∈ch,b∈ch'):XStep fr' e ch' h1 h2 where
 size:=a.size
 keep:=λc o z n1 n2 n3=>a.keep c o z n1 (λq=>n2 (hf c q)) λq=>n3 (hc c q)
 slot:=λc o z n1 n2 n3=>by
  by_cases q:c∈fr
  .exact a.slot c o z n1 q λq=>n3 (hc c q)
  .exact⟨o.slots,a.keep c o z n1 q λq=>n3 (hc c q)⟩
 exc:=a.exc
 there:=a.there
section
variable {M:Model}{A:Around}{E:Value->Shared->Prop}{s:Shared}{base:Heap}{env:Env}{outer:List Env}{L e T:Addr}{Q:Unit->Shared->Prop}
def sn {oe:Obj}{vs:aC}{i:Nat}{x:Value}(he:s.heap.get? e=some oe)(hd:oe.data=.fields vs)(hi:i<vs.size)
  (hQ:∀h',h'.objs.size=s.heap.objs.size->h'.get? e=some { oe with data:=.fields (vs.setIfInBounds i x) }->(∀b,b≠e->h'.get? b=s.heap.get? b)->Q () { s with heap:=h' }):wpAny M A (setField (.ref e) i x) Q E s:=by
 refine JB he hd hi (hQ _ (Heap.size_after_update ..) ?_ λb hb=>IV _ _ (Iv hb));rw[<-Da hd (λws=>ws.setIfInBounds i x)];exact HH _ he (Jk (JC hd _))
def zN {oe:Obj}{vs:aC}{head:Value}{hadNext:Bool}(hfr:A.frames=some (env::outer))(hl:s.heap.FunFrames base (env::outer))(hf:env.frame=some L)
  (he:s.heap.get? e=some oe)(hd:oe.data=.fields vs)(hz:1<vs.size)
  (hQ:∀h',Fly h' e s.heap.objs.size (rawInt L)->XStep ((env::outer).filterMap (·.frame)) e [] s.heap h'->Q () { s with heap:=h' }) :
  wpAny M A (do let a <-frameOf env; let pl <-entryPlaceOf L hadNext; let b <-EntryCells.newEntry head a .none (rawInt L) .none pl; setField (.ref e) 1 b) Q E s:=by
 have nfr:e∉(env::outer).filterMap (·.frame):=λhm=>by
  obtain⟨_,o,ho,hnf⟩:=hl.mem hm;rw[he] at ho;cases ho;exact hnf vs hd
 refine aS (wpAny_frameOf_fun hfr hl hf λh1 so=>aS (wpAny_entryPlaceOf λpl hpl=>?_));have z1:h1.get? e=some oe:=(so.2.1 e nfr).trans he;unfold EntryCells.newEntry newFields;refine aS (GY ?_ (hpl.sizeOk5 _ _ _ _ _));generalize hto:({ cls:=.type "traceback",dict:=none,data:=.fields ([head,.ref L,.none,rawInt L,.none]++(if pl.isEmpty then List.replicate 6 Value.none else pl)).toArray }:Obj)=to;have dto:to.data=.fields ([head,.ref L,.none,rawInt L,.none]++(if pl.isEmpty then List.replicate 6 Value.none else pl)).toArray:=by rw[<-hto]
 have nft:to.isFreed=false:=Jk dto;refine sn (b7 _ z1) hd hz λh2 sz2 g2 k2=>?_;have lte:e<h1.objs.size:=bS z1;have gT:h2.get? h1.objs.size=some to:=(k2 _ (HK lte)).trans (df _ nft);have sz1:h1.objs.size=s.heap.objs.size:=so.1;rw[<-sz1] at hQ;refine hQ h2 ⟨⟨_,_,to,_,g2,rfl,by simp[hz],gT,dto,by simp⟩,HK lte⟩ ⟨?_,λb o z n1 n2 _=>?_,λb o z n1 _ _=>?_,λo ws z hw=>?_,λb o z n1=>?_⟩
 .rw[sz2];show s.heap.objs.size<=(h1.push to).objs.size;rw[GT,sz1];omega
 .rw[k2 b n1];exact b7 _ ((so.2.1 b n2).trans z)
 .obtain⟨sl,q⟩:=so.2.2 b o z;exact⟨sl,by rw[k2 b n1]; exact b7 _ q⟩
 .rw[he] at z;cases z;rw[hd] at hw;cases hw;exact⟨_,g2,by simp,by rw[Array.getElem?_setIfInBounds_ne (by decide)]⟩
 .obtain⟨sl,q⟩:=so.2.2 b o z;exact⟨_,by rw[k2 b n1]; exact b7 _ q⟩
def Gb (hfr:A.frames=some (env::outer))(hl:s.heap.FunFrames base (env::outer))(hf:env.frame=some L)(F:Fly s.heap e T .none)
  (hQ:∀h',Fly h' e s.heap.objs.size (rawInt L)->XStep ((env::outer).filterMap (·.frame)) e [T] s.heap h'->Q () { s with heap:=h' }):wpAny M A (noteFrame (.ref e) env) Q E s:=by
 obtain⟨⟨oe,vs,oT,ts,he,hd,h1,hT,hdT,h3⟩,hne⟩:=F;unfold noteFrame;simp only[hf];refine aS (HM he hd h1 ?_);rw[if_pos (show (Value.ref T != Value.none)=true from by simp)];refine aS (HM hT hdT h3 ?_);rw[if_neg (show ¬((Value.none == rawInt L)=true) from by simp[rawInt])];refine aS (sn hT hdT (Hs.mp h3).1 λh1' sz1 g1 k1=>?_);have nT:∀b o,s.heap.get? b=some o->(∀vs,o.data≠.fields vs)->b≠T:=λb o hb hnf z=>by
  rw[z,hT] at hb;cases hb;exact hnf ts hdT
 have st:XStep ((env::outer).filterMap (·.frame)) e [T] s.heap h1':=⟨Jx sz1.symm,λb o z _ _ n=>by rw[k1 b (by simpa using n)]; exact z,λb o z _ _ n=>⟨o.slots,by rw[k1 b (by simpa using n)]; exact z⟩,
  λo ws z hw=>⟨ws,by rw[k1 e (Iv hne),z,<-hw],rfl,rfl⟩,λb o z _=>by
   by_cases q:b=T
   .rw[q]; exact⟨_,g1⟩
   .exact⟨o,by rw[k1 b q]; exact z⟩⟩
 refine zN (base:=base) (s:={ s with heap:=h1' }) hfr (hl.of_keeps λb o hb hnf=>⟨o,by rw[k1 b (nT b o hb hnf)]; exact hb,rfl⟩) hf (by rw[k1 e (Iv hne)]; exact he) hd (Hs.mp h1).1 λh2 F2 st2=>?_;rw[show ({ s with heap:=h1' }:Shared).heap.objs.size=s.heap.objs.size from sz1] at F2;exact hQ h2 F2 (st.trans (st2.mono (λ_ z=>z) λ_ z=>nomatch z))
def CK {fl:Value}(F:Fly s.heap e T fl)(hQ:∀h',Fly h' e T .none->XStep [] e [T] s.heap h'->Q () { s with heap:=h' }):wpAny M A (setFlight (.ref e) none) Q E s:=by
 obtain⟨⟨oe,vs,oT,ts,he,hd,h1,hT,hdT,h3⟩,hne⟩:=F;unfold setFlight;refine aS (HM he hd h1 ?_);rw[if_pos (show (Value.ref T != Value.none)=true from by simp)];refine sn hT hdT (Hs.mp h3).1 λh' sz g k=>?_;refine hQ h' ⟨⟨oe,vs,_,_,by rw[k e (Iv hne)]; exact he,hd,h1,g,rfl,by simp[(Hs.mp h3).1]⟩,hne⟩ ⟨Jx sz.symm,λb o z _ _ n=>by rw[k b (by simpa using n)]; exact z,(λb o z _ n _=>nomatch n),
  λo ws z hw=>⟨ws,by rw[k e (Iv hne),z,<-hw],rfl,rfl⟩,λb o z _=>?_⟩
 by_cases q:b=T
 .rw[q]; exact⟨_,g⟩
 .exact⟨o,by rw[k b q]; exact z⟩
def yQ (hfr:A.frames=some (env::outer))(hl:s.heap.FunFrames base (env::outer))(hf:env.frame=some L)(F:Fly s.heap e T .none)
  (hQ:∀h',Fly h' e s.heap.objs.size .none->XStep ((env::outer).filterMap (·.frame)) e [T,s.heap.objs.size] s.heap h'->Q () { s with heap:=h' }):wpAny M A (leaving env (.ref e)) Q E s:=by
 unfold leaving;refine aS (Gb hfr hl hf F λh2 F2 s2=>CK (s:={ s with heap:=h2 }) F2 λh3 F3 s3=>?_);exact hQ h3 F3 ((s2.mono (λ_ z=>z) λ_ z=>by simp at z; simp[z]).trans (s3.mono (λ_ z=>nomatch z) λ_ z=>by simp at z; simp[z]))
end
section
variable {prog:Program}{w:World}{A:Around}{E:Value->Shared->Prop}{s:Shared}{K:Frag}{C x:Addr}{fI:Value}{tl:aq}{mA:Str->aB}{name:Str}{v:Value}
end
section
variable {prog:Program}{w:World}{A:Around}{E:Value->Shared->Prop}{s:Shared}{K:Frag}{C x:Addr}{fI:Value}{tl:aq}{mA:Str->aB}{name:Str}{v:Value}
end
section
variable {prog:Program}{w:World}{A:Around}{E:Value->Shared->Prop}{s:Shared}{K:Frag}{C x:Addr}{fI:Value}{tl:aq}{mA:Str->aB}{name:Str}{v:Value}
end
section
variable {prog:Program}{w:World}{A:Around}{E:Value->Shared->Prop}{s:Shared}{K:Frag}{C:Addr}{fI:Value}{tl:aq}
end
section
variable {M:Model}{A:Around}{E:Value->Shared->Prop}{s:Shared}{env:Env}{K:Frag}{C:Addr}{tl:aq}
end
end L2
end
section
namespace L2
open PySem PySem.Spec PyProof.Rows
noncomputable def cC (env:Env)(names:List (Str×NameKind))(acc:ai):ai:=
 names.foldl (λcs x=>if x.2 == NameKind.free then (x.1,(env.cells.lookup x.1).getD 0)::cs else cs) acc
theorem wB {α β:Type}{f:α->β->Sem (ForInStep β)}(g:β->α->β):∀(l:List α) (c:β),(∀x∈l,∀c,f x c=pure (.yield (g c x)))->forIn l c f=pure (l.foldl g c)
 | [],_,_=>rfl
 | x::r,c,h=>by
  rw[List.forIn_cons,h x G8 c,pure_bind];exact wB g r (g c x) λy hy=>h y (bN _ hy)
theorem sX {env:Env}:∀(names:List (Str×NameKind)) (acc:ai),(∀y∈names,y.2=NameKind.free->∃c,env.cells.lookup y.1=some c)->(∀x c,acc.lookup x=some c->env.cells.lookup x=some c) ->
  (∀x c,(cC env names acc).lookup x=some c->env.cells.lookup x=some c)/\(∀y∈names,y.2=NameKind.free->∃c,(cC env names acc).lookup y.1=some c)/\∀x c,acc.lookup x=some c->∃c',(cC env names acc).lookup x=some c'
 | [],acc,_,ha=>⟨ha,(λ_ h=>nomatch h),λx c h=>⟨c,h⟩⟩
 | (n,k)::r,acc,hf,ha=>by
  by_cases hk:k=NameKind.free
  .subst hk;obtain⟨c,hc⟩:=hf (n,.free) bQ rfl;have e:cC env ((n,NameKind.free)::r) acc=cC env r ((n,c)::acc):=by
    have hc':env.cells.lookup n=some c:=hc;show cC env r (if (NameKind.free == NameKind.free)=true then (n,(env.cells.lookup n).getD 0)::acc else acc)=_;rw[if_pos (by decide),hc'];rfl
   rw[e];obtain⟨h1,h2,h3⟩:=sX r ((n,c)::acc) (λy hy=>hf y (bN _ hy)) λx d h=>by
    rw[List.lookup_cons] at h;split at h
    .rename_i hx;have hx':x=n:=by simpa using hx
     cases h;rw[hx'];exact hc
    .exact ha x d h
   refine⟨h1,λy hy hyf=>?_,λx d h=>?_⟩
   .rcases cg hy with rfl | hy
    .exact h3 n c (by rw[List.lookup_cons]; simp)
    .exact h2 y hy hyf
   .by_cases hx:x=n
    .subst hx;exact h3 x c (by rw[List.lookup_cons]; simp)
    .refine h3 x d ?_;rw[List.lookup_cons,show (x == n)=false from by simpa using hx];exact h
  .have e:cC env ((n,k)::r) acc=cC env r acc:=by
    show cC env r (if (k == NameKind.free)=true then (n,(env.cells.lookup n).getD 0)::acc else acc)=_;rw[if_neg (by simpa using hk)]
   rw[e];obtain⟨h1,h2,h3⟩:=sX r acc (λy hy=>hf y (bN _ hy)) ha;refine⟨h1,λy hy hyf=>?_,h3⟩;rcases cg hy with rfl | hy
   .exact absurd hyf hk
   .exact h2 y hy hyf
def xv {scope:Scope}{env:Env}(hf:∀y∈scope.names,y.2=NameKind.free->∃c,env.cells.lookup y.1=some c) :
  ∃cl,closureFor scope env=pure cl/\(∀x c,cl.lookup x=some c->env.cells.lookup x=some c)/\∀y∈scope.names,y.2=NameKind.free->∃c,cl.lookup y.1=some c:=by
 obtain⟨h1,h2,_⟩:=sX (env:=env) scope.names [] hf (λ_ _ h=>nomatch h);refine⟨cC env scope.names [],?_,h1,h2⟩;simp only[closureFor];rw[wB (λcs x=>if x.2 == NameKind.free then (x.1,(env.cells.lookup x.1).getD 0)::cs else cs) scope.names [] λx hx c=>?_]
 .rfl
 .obtain⟨n,kind⟩:=x;by_cases hk:kind=NameKind.free
  .subst hk;obtain⟨a,ha⟩:=hf (n,.free) hx rfl;have ha':env.cells.lookup n=some a:=ha;simp only[show (NameKind.free == NameKind.free)=true from by decide,if_true,cellOf,ha'];rfl
  .have hb:(kind == NameKind.free)=false:=by simpa using hk
   simp only[hb,GN,if_false]
noncomputable def bz (X:Cx)(N':au)(scope:Scope)(cl:ai)(C:Addr)(s:Shared)(H:Hp)(fp:aq)(E:Value->Shared->Prop):Cx:=
 { X with N:=N',s₀:=s,H₀:=H,env:=compEnvC scope cl C X.env,outer:=X.stack,stack:=X.stack,ex:=fp,fn:=λx=>scope.names.lookup x == some .cell,pn:=[],xe:=E }
noncomputable def compOk (sc:Scope)(N N':au)(caps:List aE)(scope:Scope):Bool:=
 scope.kind == .function&&scope.names.all (λy=>(y.2 != .cell||scope.names.lookup y.1 == some .cell)&&(y.2 != .local||scope.names.lookup y.1 == some .local)&&(y.2 != .free||(sc.names.lookup y.1 == some .cell||sc.names.lookup y.1 == some .free))) &&
 caps.length == N'.length&&decide N'.Nodup&&(caps.zip N').all λp=>match p.1 with
  | none=>true
  | some j=>N[j]? == some p.2&&scope.names.lookup p.2 == some .free
structure CompS (sc:Scope)(N N':au)(caps:List aE)(scope:Scope):Prop where
 kind:scope.kind=.function
 cells:∀y∈scope.names,y.2=.cell->scope.names.lookup y.1=some .cell
 locs:∀y∈scope.names,y.2=.local->scope.names.lookup y.1=some .local
 free:∀y∈scope.names,y.2=.free->sc.names.lookup y.1=some .cell\/sc.names.lookup y.1=some .free
 len:caps.length=N'.length
 nd:N'.Nodup
 cap:∀(i j:Nat) (x:Str),caps[i]? = some (some j)->N'[i]? = some x->N[j]? = some x/\scope.names.lookup x=some .free
def CompS.of {sc:Scope}{N N':au}{caps:List aE}{scope:Scope}(h:compOk sc N N' caps scope=true):CompS sc N N' caps scope:=by
 unfold compOk at h;simp only[tw,List.all_eq_true,GC,GV] at h;obtain⟨⟨⟨⟨hk,hn⟩,hl⟩,hnd⟩,hc⟩:=h;refine⟨?_,λy hy e=>?_,λy hy e=>?_,λy hy e=>?_,hl,hnd,λi j x h1 h2=>?_⟩
 .cases hh:scope.kind <;> rw[hh] at hk <;> first | rfl | (exact absurd hk (by decide))
 .have:=(hn y hy).1.1;rw[e] at this;simpa using this
 .have:=(hn y hy).1.2;rw[e] at this;simpa using this
 .have:=(hn y hy).2;rw[e] at this;simpa using this
 .have hz:(caps.zip N')[i]? = some (some j,x):=by rw[List.getElem?_zip_eq_some]; exact⟨h1,h2⟩
  have:=hc _ (GH hz);simpa using this
noncomputable def g8 (σ:St):aE->Option V
 | none=>none
 | some j=>(σ[j]?).join
section
variable {prog:Program}{w:World}{A:Around}{R:Result->Shared->Prop}{s:Shared}
theorem AI {elt target iter:Expr}{ifs:av}{scope:Scope}{pos:Pos}{it acc:Value}{env:Env}(I:Nat->Shared->Prop)
  (turn:∀n s,I n s->wpAny (model prog w) A (pyNext it) (λr s₁=>match r with
   | none=>R (.ok .next) s₁
   | some v=>wpAny (model prog w) A (letOwnedTupleGo target it v) (λ_ s₀=>wpAny (model prog w) A (assign target env v) (λ_ s₂=>
     wpAny (model prog w) A (forIn ifs true λc r=>if r=true then do let ok <-isTrue c env (eval c env); pure (ForInStep.yield ok) else pure (ForInStep.yield r)) (λok s₃=>
      if ok=true then wpAny (model prog w) A (eval elt env) (λx s₄=>
       wpAny (model prog w) A (call (.builtin "list.append") [acc,x]) (λ_ s₅=>∃m,m<n/\I m s₅) (notedBy (model prog w) A env λe s'=>R (.error e) s') s₄) (notedBy (model prog w) A env λe s'=>R (.error e) s') s₃
      else ∃m,m<n/\I m s₃) (notedBy (model prog w) A env λe s'=>R (.error e) s') s₂) (notedBy (model prog w) A env λe s'=>R (.error e) s') s₀) (notedBy (model prog w) A env λe s'=>R (.error e) s') s₁) (notedBy (model prog w) A env λe s'=>R (.error e) s') s)
  (n:Nat)(h:I n s) :
  codeAny (model prog w) A (.compLoop (.ListComp elt [⟨target,iter,ifs,0⟩] scope pos) 0 it acc env) R s:=by
 refine codeAny_loop rfl I (λn s hI=>?_) n h;show wpAny _ A ((compTurn (.ListComp elt [⟨target,iter,ifs,0⟩] scope pos) 0 it acc env).onRaise (λx=>do noteFrame x env; theTreesLotGoes x)) _ _ s;refine wpAny_noted ?_;rw[compTurn_list];refine aS (wpAny_standAt (aS (Ho (turn n s hI) (λr s₁ h₁=>?_) λ_ _ h'=>h')));cases r with
 | none=>exact bh h₁
 | some v=>
  refine aS (Ho h₁ (λ_ s₀ h₀=>?_) λ_ _ h'=>h');refine aS (Ho h₀ (λ_ s₂ h₂=>aS (Ho h₂ (λok s₃ h₃=>?_) λ_ _ h'=>h')) λ_ _ h'=>h');cases ok with
  | false=>exact bh ⟨rfl,h₃⟩
  | true=>
   exact aS (aS (Ho h₃ (λx s₄ h₄=>aS (Ho h₄ (λ_ s₅ h₅=>bh (bh ⟨rfl,h₅⟩)) λ_ _ h'=>h')) λ_ _ h'=>h'))
end
def PTs (X:Cx)(ifs:av)(t:TT):Prop:=
 ∀(pins:ah) (s:Shared) (σ:St) (H:Hp) (Q:Bool->Hp->Prop),Inv X pins σ H s->t σ H Q ->
  wpAny (model X.prog X.w) X.A (forIn ifs true λc r=>if r=true then do let ok <-isTrue c X.env (eval c X.env); pure (ForInStep.yield ok) else pure (ForInStep.yield r)) (TP X pins σ Q) X.xe s
def gD:TT:=λ_ H Q=>Q true H
def B0 {X:Cx}:PTs X [] gD:=λ_ _ _ H _ I h=>wpAny_tests_nil ⟨H,I,h⟩
def xW {X:Cx}{c:Expr}{t:TT}(h:PT X c t):PTs X [c] t:=λpins s σ H Q I hq=>wpAny_tests_one (h pins s σ H Q I hq)
theorem PTs.nox {X:Cx}{ifs:av}{t:TT}(h:PTs X.nox ifs t):PTs X ifs t:=λpins s σ H Q I hw=>
 Ho (h pins s σ H Q (I.wish _) hw) (λ_ _ ⟨H',I',q⟩=>⟨H',I'.unwish,q⟩) λ_ _ f=>f.elim
theorem PG.nox {X:Cx}{tg:Expr}{t:TG}(h:PG X.nox tg t):PG X tg t:=λpins s σ H v u Q I r hw=>
 Ho (h pins s σ H v u Q (I.wish _) r hw) (λ_ _ ⟨σ',H',I',q⟩=>⟨σ',H',I'.unwish,q⟩) λ_ _ f=>f.elim
def jb (J:It)(l:Addr)(g:TG)(tt:TT)(te:TE)(Q:VK)(σ0:St)(H:Hp):Prop:=
 ∃W:Nat->Nat->aw->St->Hp->Prop,(∃m,W 0 m [] σ0 (upd H l (.lst [])))/\∀i m ys σ H,W i m ys σ H ->
  (J.stop i H/\Q (.ref l) H)\/(J.go i H/\∃N:aw->St->Hp->Prop,(∀ys σ' H',N ys σ' H'->∃m',m'<m/\W (i+1) m' ys σ' H') /\
   ∀x H',J.yld i H x H'->g x σ H' λσ2 H3=>tt σ2 H3 λc H4=>if c=true then te σ2 H4 λv H5=>∃ys',H5 l=some (.lst ys')/\ys'.length<sizeLine/\N (ys'++[v]) σ2 (upd H5 l (.lst (ys'++[v]))) else N ys σ2 H4)
def fU (wi:TI)(caps:List aE)(g:TG)(tt:TT)(te:TE):TE:=λσ H Q=>wi σ H λJ H1=>∀l,H1 l=none->jb J l g tt te Q (caps.map (g8 σ)) H1
section
variable {X:Cx}{elt iter tg:Expr}{ifs:av}{scope:Scope}{pos:Pos}{wi:TI}{g:TG}{tt:TT}{te:TE}{N':au}{caps:List aE}
def pY {scope:Scope}{env:Env}{x:Str} :
  ∀k,(relabel scope env).names.lookup x=some k->scope.names.lookup x=some k\/(k=.cell/\scope.names.lookup x=some .free):=by
 have go:∀(g:Str×NameKind->Str×NameKind),(∀p,g p=p\/(p.2=.free/\g p=(p.1,.cell)))->∀(names:List (Str×NameKind)) k,(names.map g).lookup x=some k->names.lookup x=some k\/(k=.cell/\names.lookup x=some .free):=by
  intro g hg names;induction names with
  | nil=>intro k h; exact nomatch h
  | cons p r ih=>
   intro k h;rw[GA] at h;obtain⟨n,kn⟩:=p;rcases hg (n,kn) with e | ⟨e1,e2⟩
   .rw[e,List.lookup_cons] at h;rw[List.lookup_cons];cases hx:x == n with
    | true=>rw[hx] at h; exact .inl h
    | false=>rw[hx] at h; exact ih k h
   .rw[e2,List.lookup_cons] at h;rw[List.lookup_cons];cases hx:x == n with
    | true=>
     rw[hx] at h;have e1':kn=.free:=e1;rw[e1'];exact .inr ⟨(cO h).symm,rfl⟩
    | false=>rw[hx] at h; exact ih k h
 refine go _ (λp=>?_) scope.names;obtain⟨n,k⟩:=p;by_cases hb:(k == NameKind.free&&env.scope.kind == .function&&env.kindOf n == some .cell)=true
 .refine .inr ⟨?_,if_pos hb⟩;simp only[tw,GC] at hb;exact hb.1.1
 .exact .inl (if_neg hb)
theorem oN {x:Str}:∀(names:List (Str×NameKind)) (n:Nat) (acc:ai),(∀y∈names,y.2=.cell->y.1≠x)->(cellsFrom n names acc).lookup x=acc.lookup x
 | [],_,_,_=>rfl
 | (m,k)::r,n,acc,h=>by
  have hr:=λy hy=>h y (bN _ hy);unfold cellsFrom;split
  .rename_i hk;rw[oN r _ _ hr,List.lookup_cons,show (x == m)=false from by simpa using λe=>h (m,k) G8 (by simpa using hk) (Eq.symm e)]
  .exact oN r n acc hr
theorem pP {x:Str}{lo:Nat}:∀(names:List (Str×NameKind)) (n:Nat) (acc:ai),lo<=n->(∃c,acc.lookup x=some c/\lo<=c)->∃c,(cellsFrom n names acc).lookup x=some c/\lo<=c
 | [],_,_,_,h=>h
 | (m,k)::r,n,acc,hn,h=>by
  unfold cellsFrom;split
  .refine pP r (n+1) _ (by omega) ?_;rw[List.lookup_cons];cases x == m with
   | true=>exact⟨n,rfl,hn⟩
   | false=>exact h
  .exact pP r n acc hn h
theorem nX {x:Str}{lo:Nat}:∀(names:List (Str×NameKind)) (n:Nat) (acc:ai),lo<=n->(x,NameKind.cell)∈names->∃c,(cellsFrom n names acc).lookup x=some c/\lo<=c
 | (m,k)::r,n,acc,hn,h=>by
  unfold cellsFrom;rcases cg h with e | h
  .cases e;rw[if_pos (by decide)];refine pP r (n+1) _ (by omega) ⟨n,?_,hn⟩;rw[List.lookup_cons]; simp
  .split
   .exact nX r _ _ (by omega) h
   .exact nX r _ _ hn h
structure CfOk (P:Str->Addr->Prop)(lo:Nat)(h:Heap)(cs:ai):Prop where
 src:∀x c,cs.lookup x=some c->P x c\/(lo<=c/\h.IsCell c none)
 inj:∀x y c,cs.lookup x=some c->cs.lookup y=some c->x=y
 lt:∀x c,cs.lookup x=some c->c<h.objs.size
theorem ph {P:Str->Addr->Prop}{lo:Nat}:∀(names:List (Str×NameKind)) (h:Heap) (acc:ai),lo<=h.objs.size->CfOk P lo h acc->CfOk P lo (pushCells h names) (cellsFrom h.objs.size names acc)
 | [],_,_,_,x=>x
 | (m,k)::r,h,acc,hlo,x=>by
  unfold pushCells cellsFrom;split
  .have:=ph (P:=P) (lo:=lo) r (h.push { cls:=.type "cell",data:=.cell none }) ((m,h.objs.size)::acc) (by rw[GT]; omega) ⟨λy c e=>?_,λy z c e e'=>?_,λy c e=>?_⟩
   .rwa [GT] at this
   .rw[List.lookup_cons] at e;cases hy:y == m with
    | true=>rw[hy] at e; cases e; exact .inr ⟨hlo,_,df _ rfl,rfl⟩
    | false=>rw[hy] at e; exact (x.src y c e).imp id λq=>⟨q.1,q.2.keeps λb o e=>b7 _ e⟩
   .rw[List.lookup_cons] at e e';cases hy:y == m with
    | true=>
     rw[hy] at e; cases e;cases hz:z == m with
     | true=>rw[GC] at hy hz; rw[hy,hz]
     | false=>rw[hz] at e'; exact absurd (x.lt z _ e') (HD _)
    | false=>
     rw[hy] at e;cases hz:z == m with
     | true=>rw[hz] at e'; cases e'; exact absurd (x.lt y _ e) (HD _)
     | false=>rw[hz] at e'; exact x.inj y z c e e'
   .rw[GT];rw[List.lookup_cons] at e;cases hy:y == m with
    | true=>rw[hy] at e; cases e; exact HF _
    | false=>rw[hy] at e; exact Ht (x.lt y c e)
  .exact ph r h acc hlo x
structure CsOk (X:Cx)(scope:Scope)(n:Nat)(h:Heap)(cs:ai):Prop where
 src:∀x c,cs.lookup x=some c->X.env.cells.lookup x=some c\/(n<=c/\h.IsCell c none)
 inj:∀x y c,cs.lookup x=some c->cs.lookup y=some c->x=y
 has:∀x,(scope.names.lookup x=some .cell\/scope.names.lookup x=some .free)->∃c,cs.lookup x=some c
 fr:∀x c,scope.names.lookup x=some .free->cs.lookup x=some c->X.env.cells.lookup x=some c
 own:∀x c,scope.names.lookup x=some .cell->cs.lookup x=some c->n<=c
def CsOk.mk' {X:Cx}{sc:Scope}{N N':au}{caps:List aE}{scope:Scope}{pins:ah}{σ:St}{H:Hp}{s:Shared}{cl:ai}{c0:Value}(S:CompS sc N N' caps scope)(I:Inv X pins σ H s)
  (h1:∀x c,cl.lookup x=some c->X.env.cells.lookup x=some c)(h2:∀y∈scope.names,y.2=NameKind.free->∃c,cl.lookup y.1=some c) :
  CsOk X scope s.heap.objs.size (pushCells (s.heap.push { cls:=c0,data:=.dict #[] }) scope.names) (cellsFrom (s.heap.objs.size+1) scope.names cl):=by
 have ok:=ph (P:=λx c=>X.env.cells.lookup x=some c) (lo:=s.heap.objs.size) scope.names (s.heap.push { cls:=c0,data:=.dict #[] }) cl (by rw[GT]; omega)
  ⟨λx c e=>.inl (h1 x c e),λx y c e e'=>I.ok.inj x y c (h1 x c e) (h1 y c e'),λx c e=>by
   obtain⟨v,o,ho,_⟩:=I.cell x c (h1 x c e);rw[GT];exact Ht (bS ho)⟩
 rw[GT] at ok;have nf:∀x,scope.names.lookup x=some .free->∀y∈scope.names,y.2=.cell->y.1≠x:=λx e y hy hk z=>by
  have:=S.cells y hy hk;rw[z,e] at this; cases this
 refine⟨ok.src,ok.inj,λx h=>?_,λx c e h=>?_,λx c e h=>?_⟩
 .rcases h with e | e
  .obtain⟨c,q,_⟩:=nX (lo:=0) scope.names (s.heap.objs.size+1) cl (GX _) (Hg e);exact⟨c,q⟩
  .obtain⟨c,q⟩:=h2 _ (Hg e) rfl;exact⟨c,(oN _ _ _ (nf x e)).trans q⟩
 .rw[oN _ _ _ (nf x e)] at h;exact h1 x c h
 .obtain⟨c',q,l⟩:=nX (lo:=s.heap.objs.size) scope.names (s.heap.objs.size+1) cl (HE _) (Hg e);rw[h] at q; cases q;exact l
def yv {M:Model}{A:Around}{E:Value->Shared->Prop}{s:Shared}{scope:Scope}{globals:Addr}{closure:ai}{qual:Str}{around:Env}{Q:Env->Shared->Prop}
  (h:Q (newEnv scope s.heap.objs.size globals (cellsFrom (s.heap.objs.size+1) scope.names closure) qual none .none (some around) builtinsNs) { s with heap:=pushCells (s.heap.push { cls:=.type "dict",data:=.dict #[] }) scope.names }) :
  wpAny M A (newFunctionEnv scope globals closure [] qual none .none (some around)) Q E s:=by
 simp only[newFunctionEnv,Option.isSome_some,if_true];refine aS (wpAny_alloc ?_);refine aS (wpAny_layCells _ (λname kind cells=>by cases hkc:kind == NameKind.cell <;> simp[hkc]) _ _ _ _ ?_);rw[show ({ s with heap:=s.heap.push { cls:=.type "dict",data:=.dict #[] } }:Shared).heap.objs.size=s.heap.objs.size+1 from GT ..];exact aS (bh (bh h))
def C7 {pins:ah}{σ:St}{H:Hp}{s:Shared}{cl:ai}{fp:aq}{C:Addr}(E:Value->Shared->Prop)(S:CompS X.env.scope X.N N' caps scope)(I:Inv X pins σ H s)(hC:s.heap.objs.size<=C)
  {h1:Heap}(O:CsOk X scope s.heap.objs.size h1 cl)(hf:∀b∈fp,cP X pins H b/\b<s.heap.objs.size) :
  (bz X N' scope cl C s H fp E).Ok where
 mod:=I.ok.mod
 kind:=S.kind
 glob:=I.ok.glob
 blt:=I.ok.blt
 above:=hC
 inj:=O.inj
 has:=λx hx=>by
  have hx':(relabel scope X.env).names.lookup x=some .cell\/(relabel scope X.env).names.lookup x=some .free:=hx;refine O.has x ?_;rcases hx' with q | q
  .exact (pY _ q).imp id λz=>z.2
  .rcases pY _ q with z | z
   .exact .inr z
   .exact absurd z.1 (by decide)
 cab:=λx c z e=>O.own x c (by
  have z':(scope.names.lookup x == some NameKind.cell)=true:=z;simpa using z') e
 hd:=I.ok.hd
 frames:=I.ok.frames
 stk:=.inl rfl
 exf:=λb hb=>⟨dk (eG (hf b hb).2 hC),λx c e=>(O.src x c e).elim (λq=>(hf b hb).1.2.2.2.2.1 x c q) λq z=>absurd (z ▸ (hf b hb).2) (Nat.not_lt.mpr q.1)⟩
 bs:=I.bs
 bsz:=bH I.ok.bsz I.sz
 noex:=λb o e hb=>by
  rcases (hf b hb).1.2.2.2.1 with z | z
  .exact I.ok.noex b o e z
  .exact absurd (eG (bS e) (bH I.ok.bsz z)) (HD _)
 exfs:=λb hb z=>by
  rcases cg (I.stkSub b z) with e | e
  .exact (hf b hb).1.2.1 e
  .exact (hf b hb).1.2.2.1 e
 funs:=I.stack
 frf:=I.stkFree
def Db {pins:ah}{σ:St}{H:Hp}{s:Shared}{cl:ai}{fp:aq}{h1:Heap}{tk:Nat}{m:Str->aB}(E:Value->Shared->Prop)(S:CompS X.env.scope X.N N' caps scope)(I:Inv X pins σ H s)
  (O:CsOk X scope s.heap.objs.size h1 cl)(hf:∀b∈fp,cP X pins H b/\b<s.heap.objs.size)
  (hns:h1.Ns s.heap.objs.size m)(hk:∀b o,s.heap.get? b=some o->h1.get? b=some o) :
  Inv (bz X N' scope cl s.heap.objs.size s H fp E) [] (caps.map (g8 σ)) H { s with heap:=h1,toks:=tk } where
 ok:=C7 E S I (bC _) O hf
 os:=rfl
 bare:=I.bare
 base:=Un.kept hk
 loc:=by
  refine⟨m,hns,λi x v e1 e2 e3=>?_⟩;rw[GD] at e2;cases ec:caps[i]? with
  | none=>rw[ec] at e2; cases e2
  | some oc=>
   rw[ec] at e2;cases oc with
   | none=>cases e2
   | some j=>
    have e2':(σ[j]?).join=some v:=cO e2;have e4:σ[j]? = some (some v):=by
     cases q:σ[j]? with
     | none=>rw[q] at e2'; cases e2'
     | some o=>rw[q] at e2'; cases o with
      | none=>cases e2'
      | some v'=>cases e2'; rfl
    obtain⟨hN,hfr⟩:=S.cap i j x ec e1;have hkd:X.env.kindOf x=some .cell\/X.env.kindOf x=some .free:=S.free _ (Hg hfr) rfl;obtain⟨m0,_,hl⟩:=I.loc;obtain⟨u,r,l⟩:=hl j x v hN e4 (hkd.elim (λz=>.inr (.inl z)) λz=>.inr (.inr z));refine⟨u,r,?_⟩;rcases l with ⟨z,_⟩ | ⟨_,c,hc,hcell⟩
    .rcases hkd with q | q <;> rw[q] at z <;> cases z
    .obtain⟨c',hc'⟩:=O.has x (.inr hfr);have:c'=c:=by
      have:=O.fr x c' hfr hc';rw[hc] at this; exact (cO this).symm
     subst this;have e3':(relabel scope X.env).names.lookup x=some .local\/(relabel scope X.env).names.lookup x=some .cell\/(relabel scope X.env).names.lookup x=some .free:=e3;refine .inr ⟨?_,c',hc',?_⟩
     .rcases e3' with q | q | q
      .rcases pY _ q with z | z
       .rw[hfr] at z; cases z
       .exact absurd z.1 (by decide)
      .exact .inl q
      .exact .inr q
     .obtain⟨o,ho,hd⟩:=hcell;exact⟨o,hk _ o ho,hd⟩
 cell:=λx c e=>by
  rcases O.src x c e with q | q
  .obtain⟨v,o,ho,hd⟩:=I.cell x c q;exact⟨v,o,hk _ o ho,hd⟩
  .exact⟨none,q.2⟩
 free:=I.hok.fresh (bC _)
 freeC:=λx c e=>(O.src x c e).elim (I.freeC x c) λq=>I.hok.fresh q.1
 pin:=λp hp=>absurd (show p∈([]:ah) from hp) (by simp)
 hok:=I.hok.kept hk
 len:=by rw[Gx]; exact S.len
def ul {pins:ah}{σ:St}{H:Hp}{s:Shared}{cl:ai}{it:Addr}{fp:aq}{tn:Nat->Heap->Prop}{J:It}{Q:VK}{RR:Value->Addr->Result->Shared->Prop}
  (hc:X.calm=true)(S:CompS X.env.scope X.N N' caps scope)(I:Inv X pins σ H s)
  (c1:∀x c,cl.lookup x=some c->X.env.cells.lookup x=some c)(c2:∀y∈scope.names,y.2=NameKind.free->∃c,cl.lookup y.1=some c)
  (T:Turn X.prog X.w X.K tg J fp it tn)(t0:tn 0 s.heap)(hf:∀b∈fp,cP X pins H b)
  (hg:∀cl C s H fp,PG (bz X N' scope cl C s H fp λ_ _=>False) tg g)(ht:∀cl C s H fp,PTs (bz X N' scope cl C s H fp λ_ _=>False) ifs tt)(he:∀cl C s H fp,PE (bz X N' scope cl C s H fp λ_ _=>False) elt te)
  (hw:∀l,H l=none->jb J l g tt te Q (caps.map (g8 σ)) H)
  (hR:∀l C s' H' m,Inv X pins σ H' s'->cP X pins H' C->s'.heap.Ns C m->Q (.ref l) H'->RR (.ref l) C (.ok .next) s') :
  wpAny (model X.prog X.w) X.A (newList []) (λacc s₃=>wpAny (model X.prog X.w) X.A (newFunctionEnv scope X.env.globals cl [] X.env.qual none .none (some X.env)) (λcenv s₄=>
   codeAny (model X.prog X.w) X.A (.compStart (.ListComp elt [⟨tg,iter,ifs,0⟩] scope pos) 0 (.ref it) acc { cenv with scope:=relabel scope X.env }) (RR acc cenv.locals) s₄) X.xe s₃) X.xe s:=by
 refine GY (yv ?_);dsimp only;have I3:Inv X pins σ (upd H s.heap.objs.size (.lst [])) { s with heap:=s.heap.push { cls:=.type "list",dict:=none,data:=.seq ([]:List Value).toArray } }:=
  I.laid (t':=s.toks) (λb u e=>b7 _ e) (bC _) ⟨GX _,[],0,.nil,df _ rfl⟩
 have hl0:H s.heap.objs.size=none:=I.hok.fresh (bC _);have lt0:∀b∈fp,b<s.heap.objs.size:=λb hb=>by
  obtain⟨o,e,_⟩:=T.obj 0 _ t0 b hb;exact bS e
 obtain⟨W,⟨m0,w0⟩,turn⟩:=hw s.heap.objs.size hl0;generalize hH2:s.heap.push { cls:=.type "list",dict:=none,data:=.seq ([]:List Value).toArray }=H2 at I3 ⊢;have hC:H2.objs.size=s.heap.objs.size+1:=by rw[<-hH2,GT]
 have O:=CsOk.mk' (c0:=.type "dict") S I3 c1 c2;have hns₁:(pushCells (H2.push { cls:=.type "dict",data:=.dict #[] }) scope.names).Ns H2.objs.size λ_=>none:=(Heap.Ns.new H2 (.type "dict")).keeps (pushCells_keeps _ _);have old:∀b o,H2.get? b=some o->(pushCells (H2.push { cls:=.type "dict",data:=.dict #[] }) scope.names).get? b=some o:=λb o e=>pushCells_keeps _ _ b o (b7 _ e);dsimp only at O;generalize pushCells (H2.push { cls:=.type "dict",data:=.dict #[] }) scope.names=h₁ at O hns₁ old ⊢;generalize hcs:cellsFrom (H2.objs.size+1) scope.names cl=cs at O ⊢;have old0:∀b o,s.heap.get? b=some o->h₁.get? b=some o:=λb o e=>old b o (hH2 ▸ b7 _ e);have hf3:∀b∈fp,cP X pins (upd H s.heap.objs.size (.lst [])) b/\b<H2.objs.size:=λb hb=>
  ⟨⟨by rw[ca (Ir (lt0 b hb))]; exact (hf b hb).1,(hf b hb).2⟩,by rw[hC]; exact Ht (lt0 b hb)⟩
 have Er:Value->Shared->Prop:=notedBy (model X.prog X.w) X.A (compEnvC scope cs H2.objs.size X.env) λe s'=>RR (.ref s.heap.objs.size) H2.objs.size (.error e) s';have loop:∀s₃:Shared,s₃={ s with heap:=h₁,toks:=s.toks } ->
   codeAny (model X.prog X.w) X.A (.compLoop (.ListComp elt [⟨tg,iter,ifs,0⟩] scope pos) 0 (.ref it) (.ref s.heap.objs.size) (compEnvC scope cs H2.objs.size X.env))
    (RR (.ref s.heap.objs.size) H2.objs.size) s₃:=by
  rintro s₃ rfl;have I4:=Db (N':=N') (caps:=caps) (tk:=s.toks) (notedBy (model X.prog X.w) X.A (compEnvC scope cs H2.objs.size X.env) λe s'=>RR (.ref s.heap.objs.size) H2.objs.size (.error e) s') S I3 O hf3 hns₁ old;generalize hX':bz X N' scope cs H2.objs.size { s with heap:=H2 } (upd H s.heap.objs.size (.lst [])) fp (notedBy (model X.prog X.w) X.A (compEnvC scope cs H2.objs.size X.env) λe s'=>RR (.ref s.heap.objs.size) H2.objs.size (.error e) s')=X' at I4;have hg':PG X' tg g:=by rw[<-hX']; exact PG.nox (hg cs H2.objs.size { s with heap:=H2 } (upd H s.heap.objs.size (.lst [])) fp)
  have ht':PTs X' ifs tt:=by rw[<-hX']; exact PTs.nox (ht cs H2.objs.size { s with heap:=H2 } (upd H s.heap.objs.size (.lst [])) fp)
  have he':PE X' elt te:=by rw[<-hX']; exact PE.nox (he cs H2.objs.size { s with heap:=H2 } (upd H s.heap.objs.size (.lst [])) fp)
  have eP:X'.prog=X.prog:=by rw[<-hX']; rfl
  have eW:X'.w=X.w:=by rw[<-hX']; rfl
  have eK:X'.K=X.K:=by rw[<-hX']; rfl
  have eA:X'.A=X.A:=by rw[<-hX']; rfl
  have eC:X'.calm=true:=by rw[<-hX']; exact hc
  have eE:X'.env=compEnvC scope cs H2.objs.size X.env:=by rw[<-hX']; rfl
  have eX:X'.xe=notedBy (model X.prog X.w) X.A (compEnvC scope cs H2.objs.size X.env) λe s'=>RR (.ref s.heap.objs.size) H2.objs.size (.error e) s':=by rw[<-hX']; rfl
  have stat:∀{H':Hp},(∀b∈fp,H' b=none)->∀b∈fp,cP X' [] H' b:=λ{H'} hn b hb=>by
   obtain⟨f0,f1,f2,f3,f4,f5⟩:=hf b hb;refine⟨hn b hb,?_,?_,.inl ?_,λx c e=>?_,λp hp=>?_⟩
   .rw[eE]; exact dk (by show b<H2.objs.size; rw[hC]; exact Ht (lt0 b hb))
   .intro z;have z':b∈frs X.stack:=by rw[<-hX'] at z; exact z
    rcases cg (I.stkSub b z') with e | e
    .exact f1 e
    .exact f2 e
   .rw[<-hX']; exact hb
   .rw[eE] at e; exact (O.src x c e).elim (f4 x c) λq z=>absurd (z ▸ lt0 b hb) (Nat.not_lt.mpr (bH (by rw[hC]; exact HE _) q.1))
   .have:p∈([]:ah):=by rw[<-hX'] at hp; exact hp
    exact absurd this (by simp)
  refine AI (λn s'=>∃i ys σ' H',Inv X' [] σ' H' s'/\tn i s'.heap/\(∀b∈fp,H' b=none)/\W i n ys σ' H') ?_ m0
   ⟨0,[],_,_,I4,T.keep 0 _ _ t0 λb _ o e=>old0 b o e,λb hb=>(hf3 b hb).1.1,w0⟩
  rintro n s5 ⟨i,ys,σ5,H5,I5,tn5,fr5,w5⟩;rw[<-eX];rcases turn i n ys σ5 H5 w5 with ⟨stop,q⟩ | ⟨go,N,hN,step⟩
  .have d:=T.done X' eP eW eK eC i [] s5 σ5 H5 X'.xe I5 (stat fr5) tn5 stop;rw[eA] at d;refine bi d λr s6 hZz=>?_;obtain⟨hr,I6⟩:=hZz;subst hr;have u:Un (frs X.stack) fp (upd H s.heap.objs.size (.lst [])) H5 H2 s6.heap:=by
    have:=I6.base;rw[<-hX'] at this; exact this
   have hok6:HOk X.prog X.w H5 s6.heap:=by have:=I6.hok; rw[eP,eW] at this; exact this
   have os6:s6.os=s.os:=by have:=I6.os; rw[<-hX'] at this; exact this
   have I7:Inv X pins σ H5 s6:=I3.call' (ch:=fp) os6 u hok6 I6.bare λb hb=>by
    obtain⟨f0,f1,f2,f3,f4,f5⟩:=hf b hb;exact⟨f3,f1,f4,f5⟩
   obtain⟨m6,n6,_⟩:=I6.loc;have fC:H5 H2.objs.size=none:=by have:=I6.free; rw[eE] at this; exact this
   rw[eE] at n6;exact hR _ _ s6 H5 m6 I7 (I3.fpOk (bC _) fC) n6 q
  .have d:=T.item X' eP eW eK eC i [] s5 σ5 H5 X'.xe I5 (stat fr5) tn5 go;rw[eA] at d;refine bi d λr s6 hZz=>?_;obtain⟨u,hr,h6⟩:=hZz;subst hr;refine bi h6 λ_ s7 hZz=>?_;obtain⟨x,H7,I7,r7,y7,tn7,fr7⟩:=hZz;have I7':=I7.pinned (stat fr7) (T.obj _ _ tn7);have ag:=hg' _ s7 σ5 H7 x u _ I7' r7 (step x H7 y7);rw[eP,eW,eA,eE] at ag;refine bi ag λ_ s8 hZz=>?_;obtain⟨σ8,H8,I8,q8⟩:=hZz;have at':=ht' _ s8 σ8 H8 _ I8 q8;rw[eP,eW,eA,eE] at at';have again:∀{s9:Shared} {σ9:St} {H9:Hp} {ys9:aw},Inv X' ([]++dg fp s7.heap) σ9 H9 s9->N ys9 σ9 H9->∃m,m<n/\∃i ys σ' H',Inv X' [] σ' H' s9/\tn i s9.heap/\(∀b∈fp,H' b=none)/\W i m ys σ' H':=λ{s9 σ9 H9 ys9} I9 n9=>by
    obtain⟨m',hm,w9⟩:=hN ys9 σ9 H9 n9;refine⟨m',hm,i+1,ys9,σ9,H9,I9.unpinned,T.keep _ _ _ tn7 λb hb o e=>(I9.pin (b,o) (cG _ (cG _ (k6 hb e)))).1,λb hb=>?_,w9⟩;obtain⟨o,e,dd⟩:=T.obj _ _ tn7 b hb;exact (I9.pin (b,o) (cG _ (cG _ (k6 hb e)))).2.1
   refine bi at' λok s9 hZz=>?_;obtain⟨H9,I9,q9⟩:=hZz;cases ok with
   | false=>
    rw[if_neg (by decide)] at q9 ⊢;exact again I9 q9
   | true=>
    rw[if_pos rfl] at q9 ⊢;have ae:=he' _ s9 σ8 H9 _ I9 q9;rw[eP,eW,eA,eE] at ae;refine bi ae λy s10 hZz=>?_;obtain⟨v,H10,I10,r10,q10⟩:=hZz;obtain⟨ys',hy,hz,hn⟩:=q10;have aa:=tT (X:=X') _ s10 σ8 H10 (.ref s.heap.objs.size) [v] (.ref s.heap.objs.size) [y] (λ_ H'=>N (ys'++[v]) σ8 H') I10 rfl (.cons r10 .nil) ⟨_,ys',v,rfl,rfl,hy,hz,hn⟩;rw[eP,eW,eA] at aa;exact bi aa λ_ s11 ⟨_,H11,I11,_,q11⟩=>again I11 q11
 exact codeAny_compStart_list (loop _ rfl) (T.self _ 0 _ _ _ (T.keep 0 _ _ t0 λb _ o e=>old0 b o e) (loop _ rfl))
def zo (hc:X.calm=true)(hS:compOk X.env.scope X.N N' caps scope=true)(hi:PI X tg iter wi)
  (hg:∀cl C s H fp,PG (bz X N' scope cl C s H fp λ_ _=>False) tg g)(ht:∀cl C s H fp,PTs (bz X N' scope cl C s H fp λ_ _=>False) ifs tt)(he:∀cl C s H fp,PE (bz X N' scope cl C s H fp λ_ _=>False) elt te)
  (hs:∀x,foldedSetIterable iter X.env x=pure x:=by intro _; rfl) :
  PE X (.ListComp elt [⟨tg,iter,ifs,0⟩] scope pos) (fU wi caps g tt te):=by
 intro pins s σ H Q I h;have S:=CompS.of hS;obtain⟨cl,hcl,c1,c2⟩:=xv (scope:=scope) (env:=X.env) λy hy hyf=>I.ok.has y.1 (S.free y hy hyf);rw[eval_ListComp];refine wpAny_comprehension_free (use:=none) rfl hs hcl S.kind S.locs (bi (hi pins s σ H _ I h) λv s1 h1=>bi h1 λitv s2 h2=>?_);obtain⟨it,fp,tn,J,H2,rfl,I2,T,t0,f2,hw⟩:=h2;refine ul (RR:=λacc C=>compPost (model X.prog X.w) X.A X.xe none (EP X pins σ Q) acc C) hc S I2 c1 c2 T t0 f2 hg ht he hw ?_;intro l C s' H' m I' fC hn q;refine⟨m,hn,λh' hs'=>?_⟩;obtain⟨f0,f1,f3,f4,f5,f6⟩:=fC;have I'':Inv X pins σ H' { s' with heap:=h' }:=I'.turned (t':=s'.toks) (it:=C) (λb o hb e=>hs'.extBut b o hb e) f0 f1 f4 f5 f6;exact⟨.ref l,H',I'',rfl,q⟩
def CQ {i:Nat}{x:Str}{pos' spos:Pos}(hc:X.calm=true)(hS:compOk X.env.scope X.N N' caps scope=true)(hN:X.N.Nodup)(hx:X.N[i]? = some x)(hl:Loc X.env.scope x)(hi:PI X tg iter wi)
  (hg:∀cl C s H fp,PG (bz X N' scope cl C s H fp λ_ _=>False) tg g)(ht:∀cl C s H fp,PTs (bz X N' scope cl C s H fp λ_ _=>False) ifs tt)(he:∀cl C s H fp,PE (bz X N' scope cl C s H fp λ_ _=>False) elt te)
  (hsw:swapsWith (.ListComp elt [⟨tg,iter,ifs,0⟩] scope pos) (some (.Name x pos')) spos.line X.env=pure true)(hf:X.fn x=true\/X.env.scope.names.lookup x=some .local:=by first | exact .inl rfl | exact .inr rfl | assumption)
  (hs:∀x,foldedSetIterable iter X.env x=pure x:=by intro _; rfl) :
  PS X (.Assign [.Name x pos'] (.ListComp elt [⟨tg,iter,ifs,0⟩] scope pos) spos) (jY (fU wi caps g tt te) (eZ i)):=by
 intro pins s σ H D I h;have S:=CompS.of hS;obtain⟨cl,hcl,c1,c2⟩:=xv (scope:=scope) (env:=X.env) λy hy hyf=>I.ok.has y.1 (S.free y hy hyf);rw[exec_Assign_Name_used _ _ _ _ hsw];refine aS (wpAny_standAt (aS ?_));show wpAny _ X.A (do let _ <-comprehension (.ListComp elt [⟨tg,iter,ifs,0⟩] scope pos) scope X.env _ (newList []) false (eval iter X.env) (some (assign (.Name x pos') X.env))) _ _ s;refine aS (Ho (wpAny_comprehension_free (use:=some (assign (.Name x pos') X.env)) (Q:=λ_ s'=>SP X pins D .next s') rfl hs hcl S.kind S.locs
  (bi (hi pins s σ H _ I h) λv s1 h1=>bi h1 λitv s2 h2=>?_)) (λ_ s' hq=>bh (bh hq)) λ_ _ e=>e)
 obtain⟨it,fp,tn,J,H2,rfl,I2,T,t0,f2,hw⟩:=h2;refine ul (RR:=λacc C=>compPost (model X.prog X.w) X.A X.xe (some (assign (.Name x pos') X.env)) (λ_ s'=>SP X pins D .next s') acc C) hc S I2 c1 c2 T t0 f2 hg ht he hw ?_;intro l C s' H' m I' fC hn q;show wpAny _ X.A (assign (.Name x pos') X.env (.ref l)) _ _ s';have oC:=hn;obtain⟨o,es,ep,ho,hd,_⟩:=oC;have I1:Inv X (pins++dg [C] s'.heap) σ H' s':=I'.pinned (fp:=[C]) (λb hb=>by rw[Gz.mp hb]; exact fC) λb hb=>by
  rw[Gz.mp hb];exact⟨o,ho,λv z=>by rw[hd] at z; cases z⟩
 refine bi (sG (i:=i) hN hx hl hf _ s' σ H' (.ref l) (.ref l) D.nx I1 rfl q) λ_ s2 hZz=>?_;obtain⟨σ2,H2',I2',q2⟩:=hZz;have hC2:s2.heap.get? C=some o:=(I2'.pin (C,o) (cG _ (cG _ (k6 (Gz.mpr rfl) ho)))).1;have nC2:H2' C=none:=(I2'.pin (C,o) (cG _ (cG _ (k6 (Gz.mpr rfl) ho)))).2.1;have hn2:s2.heap.Ns C m:=by
  obtain⟨o',es',ep',ho',r'⟩:=hn;rw[ho] at ho'; cases ho';exact⟨o,es',ep',hC2,r'⟩
 refine⟨m,hn2,λh' hs'=>?_⟩;obtain⟨f0,f1,f3,f4,f5,f6⟩:=fC;have I'':Inv X pins σ2 H2' { s2 with heap:=h' }:=(I2'.unpinned).turned (t':=s2.toks) (it:=C) (λb o hb e=>hs'.extBut b o hb e) nC2 f1 f4 f5 f6;exact⟨σ2,H2',I'',q2⟩
end
noncomputable def fQ (P:Program)(w:World):gk:=λouter H s E e s'=>∃(a T C:Addr) (fs:List (Str×V)) (H':Hp),e=.ref a/\s'.os=s.os/\AllBare s'.gens/\Un (frs outer) [] H H' s.heap s'.heap/\HOk P w H' s'.heap /\
 H' a=some (.exc C false fs)/\Fly s'.heap a T .none/\H' T=none/\s.heap.objs.size<=T/\E (.ref a) none H'
section
variable {X:Cx}{pins:ah}{σ:St}{H:Hp}{s:Shared}
def Inv.fsFree (I:Inv X pins σ H s):∀b∈X.fs,H b=none:=λb hb=>by
 obtain⟨_,o,ho,_⟩:=I.ok.funs.mem hb;exact I.base.free b o ho (I.ok.frf b hb) λz=>I.ok.exfs b z hb
def Inv.xstep {a C:Addr}{nw:Bool}{fs:List (Str×V)}{fr ch:aq}{h':Heap}(I:Inv X pins σ H s)(ha:H a=some (.exc C nw fs))(st:XStep fr a ch s.heap h')(hfr:∀b∈fr,b=X.env.locals\/b∈X.fs)
  (hch:∀b∈ch,H b=none/\X.s₀.heap.objs.size<=b/\b≠X.env.locals/\(∀x c,X.env.cells.lookup x=some c->c≠b)/\∀p∈X.pn++pins,p.1≠b) :
  Inv X pins σ (upd H a (.exc C false fs)) { s with heap:=h' }:=by
 have aN:∀b,H b=none->b≠a:=λb n z=>by rw[z,ha] at n; cases n
 have frN:∀b∈fr,H b=none:=λb hb=>by
  rcases hfr b hb with z | z
  .rw[z]; exact I.free
  .exact I.fsFree b z
 have tr:∀b o,H b=some o->b∉fr/\b∉ch:=λb o e=>⟨(λz=>by rw[frN b z] at e; cases e),(λz=>by rw[(hch b z).1] at e; cases e)⟩
 have up:∀b o,H b=some o->b≠a->(upd H a (.exc C false fs)) b=some o:=λb o e n=>by rw[ca n]; exact e
 refine I.step (g':=s.gens) (d':=s.drawn) (t':=s.toks) (ch:=ch) (λb hb=>⟨.inr (hch b hb).2.1,(hch b hb).2.2⟩) (λb o n1 n2 n3 e n=>?_) (λb o n1 n2 n3 e n=>?_) (λb o _ _ n=>by rw[ca (aN b n)]; exact n)
  (λb o n3 e=>?_) (λb xs e=>up b _ e λz=>by rw[z,ha] at e; cases e) (λb o u e=>up b _ e λz=>by rw[z,ha] at e; cases e) (λb ps e=>⟨#[],?_⟩) (λm hm=>?_) (λb o e=>?_) I.bare
 .exact st.keep b o e (aN b n) (λz=>(hfr b z).elim n1 n2) n3
 .by_cases z:b∈fr
  .exact st.slot b o e (aN b n) z n3
  .exact⟨o.slots,st.keep b o e (aN b n) z n3⟩
 .by_cases z:b=a
  .subst z;obtain⟨_,o',vs,e',_,hd,_⟩:=I.hok b _ ha;obtain⟨vs',e2,_⟩:=st.exc o' vs e' hd;exact⟨_,e2⟩
  .exact st.there b o e z
 .rw[up b _ e λz=>by rw[z,ha] at e; cases e]; simp
 .obtain⟨o,es,ep,ho,r⟩:=hm;have n:=aN _ I.free;have nc:X.env.locals∉ch:=λz=>(hch _ z).2.2.1 rfl;by_cases z:X.env.locals∈fr
  .obtain⟨sl,e⟩:=st.slot _ o ho n z nc;exact⟨_,es,ep,e,r⟩
  .exact⟨o,es,ep,st.keep _ o ho n z nc,r⟩
 .by_cases hb:b=a
  .subst hb;rw[cM] at e;cases e;obtain⟨z,o',vs,e',c1,c2,c3,c4,q⟩:=I.hok b _ ha;obtain⟨vs',e2,sz,_⟩:=st.exc o' vs e' c2;refine⟨z,_,vs',e2,c1,rfl,sz.trans c3,(λw=>nomatch w),?_⟩;rcases q with q | ⟨dx,d1,d2,d3,mA,⟨od,es,ep,e3,c⟩,r⟩
   .exact .inl q
   .exact .inr ⟨dx,d1,up dx _ d2 d3,d3,mA,⟨od,es,ep,st.keep dx od e3 d3 (tr dx _ d2).1 (tr dx _ d2).2,c⟩,r⟩
  .rw[ca hb] at e;refine (I.hok b o e).stay (λc u hc q=>?_) (λc q=>up c _ q λz=>by rw[z,ha] at q; cases q) λc xs q=>up c _ q λz=>by rw[z,ha] at q; cases q
   rcases hc with z | z
   .subst z;exact st.keep c u q hb (tr c _ e).1 (tr c _ e).2
   .exact st.keep c u q (λy=>by rw[y,ha] at z; cases z) (tr c _ z).1 (tr c _ z).2
def Inv.newAt (I:Inv X pins σ H s){b:Addr}(hb:s.heap.objs.size<=b):H b=none/\X.s₀.heap.objs.size<=b/\b≠X.env.locals/\(∀x c,X.env.cells.lookup x=some c->c≠b)/\∀p∈X.pn++pins,p.1≠b:=by
 obtain⟨f0,f1,f2,f3,f4,f5⟩:=I.fpOk hb (I.hok.fresh hb);exact⟨f0,bH I.sz hb,f1,f4,f5⟩
def Inv.sinceAt {σ':St}{H':Hp}{s':Shared}(I:Inv X pins σ H s)(I':Inv X pins σ' H' s'){b:Addr}(hb:s.heap.objs.size<=b)(hn:H' b=none):H' b=none/\X.s₀.heap.objs.size<=b/\b≠X.env.locals/\(∀x c,X.env.cells.lookup x=some c->c≠b)/\∀p∈X.pn++pins,p.1≠b:=by
 obtain⟨f0,f1,f2,f3,f4⟩:=I.newAt hb;exact⟨hn,f1,f2,f3,f4⟩
end
def passN {P:Program}{w:World}{X:Cx}:bU (fQ P w) X (λ_ _ _ _=>False):=λ_ _ _ _ _ _ _ h=>by
 obtain⟨_,_,_,_,_,_,_,_,_,_,_,_,_,_,z⟩:=h;exact z.elim
section
variable {P:Program}{w:World}{K:bq}{mg:Str->aB}{base:Heap}{N:au}{qual:Str}{scope:Scope}{f:Addr}{cd:Value}{A:Around}{outer:List Env}{s:Shared}{H:Hp}{E:XK}
def passF:bU (fQ P w) (fF (fQ P w) P w K mg base N qual scope f cd A outer s H E) (λ_=>E):=by
 intro pins σ H1 s1 e s' I1 hcx;obtain⟨a,T,C,fs,H2,rfl,os,bare,un,hok,ha,fly,nT,lT,q⟩:=hcx;have I2:=I1.call' (ch:=[]) os un hok bare λb z=>absurd z (by simp);show wpAny _ _ (leaving _ (.ref a)) _ _ s';refine yQ (base:=base) I2.ok.frames I2.stack rfl fly λh' F' st=>?_;have I3:=I2.xstep ha st (λb hb=>cg (I2.stkSub b hb)) λb hb=>by
  rcases cg hb with z | z
  .rw[z]; exact I1.sinceAt I2 lT nT
  .rw[Gz.mp z]; exact I2.newAt (bC _)
 have e:upd H2 a (.exc C false fs)=H2:=by
  funext b
  by_cases z:b=a
  .subst z; rw[cM,ha]
  .rw[ca z]
 rw[e] at I3;exact⟨a,_,C,fs,H2,rfl,I3.os,I3.bare,I3.base,I3.hok,ha,F',(I2.newAt (bC _)).1,bH I1.sz (bH (IX (Nat.lt_succ_of_le (by
  have:=I2.sz;have h1:s1.heap.objs.size<=s'.heap.objs.size:=by
   obtain⟨m,hn,_⟩:=I1.loc;exact bH lT (Iu (by obtain⟨⟨_,_,_,_,_,_,_,z,_⟩,_⟩:=fly; exact bS z))
  exact h1))) (bC _)),q⟩
end
section
variable {X:Cx}{e:Expr}{te:TE}{pos:Pos}{E:St->XK}
end
section
variable {X:Cx}{k:Nat}{f C W:Addr}{tl:aq}{fd:FuncData}{ps:au}{sp:Sp}{dvs:aw}{ds:ar}{E:St->XK}{x m:Str}{p pos apos:Pos}{e o:Expr}{es:av}{ta tv:TE}{t:TA}
end
section
variable {X:Cx}{pins:ah}{σ:St}{H:Hp}{s:Shared}
end
section
variable {X:Cx}{W:Addr}{tlW:aq}{i:Nat}{n cls:Str}{np hpos pos:Pos}{body suite:aH}{b₀:Stmt}{tb:(St->XK)->TS}{ts:TS}
end
end L2
end
section
namespace L2
open PySem PySem.W Builtin Builtin.ObjectAttr
section
variable {prog:Program}{w:World}{A:Around}{E:Value->Shared->Prop}{s:Shared}{K:Frag}{C x:Addr}{fI:Value}{tl:aq}{mA:Str->aB}
end
section
variable {K:Frag}{C x:Addr}{fI:Value}{tl:aq}
end
end L2
namespace L2
open PySem PySem.Spec PyProof.Rows
section
variable {X:Cx}
noncomputable def valOf:V->aB
 | .ref a=>some (.ref a)
 | .ty n=>some (.type n)
 | _=>none
end
end L2
end
section
namespace L2
open PySem PySem.Spec PyProof.Rows
section
variable {X:Cx}{pins:ah}{σ:St}{H:Hp}{s:Shared}{h':Heap}
def Inv.turnedL {t':Nat}{fp:aq}(I:Inv X pins σ H s)(hf:∀b∈fp,cP X pins H b)(k:∀b o,b∉fp->s.heap.get? b=some o->h'.get? b=some o):Inv X pins σ H { s with heap:=h',toks:=t' }:=by
 have nf:∀b u,H b=some u->b∉fp:=λb u e z=>by rw[(hf b z).1] at e; cases e
 refine I.step (g':=s.gens) (d':=s.drawn) (ch:=fp) (λb hb=>⟨(hf b hb).2.2.2.1,(hf b hb).2.1,(hf b hb).2.2.2.2⟩) (λb o _ _ hc e _=>k b o hc e) (λb o _ _ hc e _=>⟨o.slots,k b o hc e⟩) (λ_ _ _ _ n=>n)
  (λb o hc e=>⟨o,k b o hc e⟩) (λ_ _ e=>e) (λ_ _ _ e=>e) (λb ps e=>⟨#[],by rw[e]; simp⟩) (λm hm=>?_) (λb u e=>?_) I.bare
 .obtain⟨o,es,ep,ho,r⟩:=hm;exact⟨o,es,ep,k _ o (λz=>(hf _ z).2.1 rfl) ho,r⟩
 .refine (I.hok b u e).stay (λc v hc q=>k c v ?_ q) (λ_ q=>q) λ_ _ q=>q;rcases hc with z | z
  .rw[z]; exact nf b u e
  .exact nf c _ z
def Inv.turnedN {t':Nat}{fp:aq}{a:Addr}{o:HO}(I:Inv X pins σ H s)(hf:∀b∈fp,cP X pins H b)(k:∀b o,b∉fp->s.heap.get? b=some o->h'.get? b=some o)(hp:s.heap.objs.size<=a)(new:ObjOk X.prog X.w (upd H a o) h' a o) :
  Inv X pins σ (upd H a o) { s with heap:=h',toks:=t' }:=by
 have ha:H a=none:=I.hok.fresh hp;have na:∀b o,s.heap.get? b=some o->b≠a:=λb o e=>dk (eG (bS e) hp);have nt:∀b u,H b=some u->b≠a:=λb u e z=>by rw[z,ha] at e; cases e
 have nf:∀b u,H b=some u->b∉fp:=λb u e z=>by rw[(hf b z).1] at e; cases e
 refine I.step (g':=s.gens) (d':=s.drawn) (ch:=fp) (λb hb=>⟨(hf b hb).2.2.2.1,(hf b hb).2.1,(hf b hb).2.2.2.2⟩) (λb o _ _ hc e _=>k b o hc e) (λb o _ _ hc e _=>⟨o.slots,k b o hc e⟩) (λb o _ e n=>by rw[ca (na b o e)]; exact n)
  (λb o hc e=>⟨o,k b o hc e⟩) (λb _ e=>by rw[ca (nt b _ e)]; exact e) (λb _ _ e=>by rw[ca (nt b _ e)]; exact e) (λb ps e=>⟨#[],by rw[ca (nt b _ e),e]; simp⟩) (λm hm=>?_) (λb u e=>?_) I.bare
 .obtain⟨o,es,ep,ho,r⟩:=hm;exact⟨o,es,ep,k _ o (λz=>(hf _ z).2.1 rfl) ho,r⟩
 .by_cases z:b=a
  .subst z; rw[cM] at e; cases e; exact new
  .rw[ca z] at e;refine (I.hok b u e).stay (λc v hc q=>k c v ?_ q) (λc q=>by rw[ca (nt c _ q)]; exact q) λc _ q=>by rw[ca (nt c _ q)]; exact q
   rcases hc with z | z
   .rw[z]; exact nf b u e
   .exact nf c _ z
end
noncomputable def qJ (K:bq)(a b:Addr):It:=
 ⟨λi H=>∃xs ys x y,SqL K H a xs/\SqL K H b ys/\xs[i]? = some x/\ys[i]? = some y,λi H v H'=>∃x y p,v=.ref p/\H p=none/\H'=upd H p (.tup [x,y])/\(∀xs,SqL K H a xs->xs[i]? = some x)/\∀ys,SqL K H b ys->ys[i]? = some y,
  λi H=>∃xs ys,SqL K H a xs/\SqL K H b ys/\(xs.length<=i\/ys.length<=i)⟩
def kX {h:Heap}{a b:Addr}{o u:Obj}(A B:String)(ha:h.get? a=some o)(hb:h.get? b=some u)(hA:o.cls=.type A)(hB:u.cls=.type B)(n:A≠B):a≠b:=λz=>by
 subst z; rw[ha] at hb; cases hb; rw[hA] at hB; cases hB; exact n rfl
def iU (z TI TO i1 i2 l1 l2:Addr)(i:Nat)(h:Heap):Prop:=IsZip h z TI TO .none/\IsPair h TI (.ref i1) (.ref i2)/\(∃a b,IsPair h TO a b)/\h.IsListIter i1 l1 i/\h.IsListIter i2 l2 i
def xr {h:Heap}{z TI TO i1 i2 l1 l2:Addr}{i:Nat}{xs ys:aC}(t:iU z TI TO i1 i2 l1 l2 i h)(h1:h.IsList l1 xs)(h2:h.IsList l2 ys)(n1:TI≠TO)(n2:i1≠i2):ZipApart z TI TO i1 i2 l1 l2:=by
 obtain⟨tz,tI,⟨a,b,tO⟩,⟨o1,e1,c1,_⟩,⟨o2,e2,c2,_⟩⟩:=t;obtain⟨u1,f1,d1,_⟩:=h1;obtain⟨u2,f2,d2,_⟩:=h2;have d:∀{a b:Addr} {o u:Obj} (A B:String),h.get? a=some o->h.get? b=some u->o.cls=.type A->u.cls=.type B->(A == B)=false->a≠b:=λA B x y hA hB n=>kX A B x y hA hB (by simpa using n);exact⟨d "tuple" "zip" tI tz rfl rfl rfl,d "tuple" "zip" tO tz rfl rfl rfl,d "list_iterator" "zip" e1 tz c1 rfl rfl,d "list_iterator" "zip" e2 tz c2 rfl rfl,n1,d "tuple" "list_iterator" tI e1 rfl c1 rfl,d "tuple" "list_iterator" tI e2 rfl c2 rfl,
  d "tuple" "list_iterator" tO e1 rfl c1 rfl,d "tuple" "list_iterator" tO e2 rfl c2 rfl,n2,d "list" "zip" f1 tz d1 rfl rfl,d "list" "tuple" f1 tO d1 rfl rfl,d "list" "list_iterator" f1 e1 d1 c1 rfl,d "list" "list_iterator" f1 e2 d1 c2 rfl,
  d "list" "zip" f2 tz d2 rfl rfl,d "list" "tuple" f2 tO d2 rfl rfl,d "list" "list_iterator" f2 e1 d2 c1 rfl,d "list" "list_iterator" f2 e2 d2 c2 rfl⟩
def zM {P:Program}{w:World}{K:bq}{es:av}{k1:Nat}{ps:Pos}(l1 l2 z TI TO i1 i2:Addr)(n1:TI≠TO)(n2:i1≠i2):Turn P w K (.Tuple es k1 ps) (qJ K l1 l2) [z,TI,TO,i1,i2] z (iU z TI TO i1 i2 l1 l2) where
 mem:=by simp
 obj:=λi h t b hb=>by
  obtain⟨tz,tI,⟨a,c,tO⟩,⟨o1,e1,_,d1⟩,⟨o2,e2,_,d2⟩⟩:=t;simp only[GO,GL,or_false] at hb;rcases hb with rfl | rfl | rfl | rfl | rfl
  .exact⟨_,tz,(λv q=>nomatch q)⟩
  .exact⟨_,tI,(λv q=>nomatch q)⟩
  .exact⟨_,tO,(λv q=>nomatch q)⟩
  .exact⟨o1,e1,λv q=>by rw[d1] at q; cases q⟩
  .exact⟨o2,e2,λv q=>by rw[d2] at q; cases q⟩
 keep:=λi h h' t k=>by
  obtain⟨tz,tI,⟨a,c,tO⟩,t1,t2⟩:=t;exact⟨k z (by simp) _ tz,k TI (by simp) _ tI,⟨a,c,k TO (by simp) _ tO⟩,t1.at λo e=>k i1 (by simp) o e,t2.at λo e=>k i2 (by simp) o e⟩
 item:=by
  intro X hP hw hK hc i pins s σ H E I hf st hg;subst hP hw hK;obtain⟨xs,ys,x,y,hx,hy,ex,ey⟩:=hg;obtain⟨its,rv,p,hz⟩:=I.list hx;obtain⟨its2,rv2,p2,hz2⟩:=I.list hy;obtain⟨u,hu,ru⟩:=rv.get ex;obtain⟨u2,hu2,ru2⟩:=rv2.get ey;have D:=xr st p.isList p2.isList n1 n2;obtain⟨tz,tI,⟨a,c,tO⟩,t1,t2⟩:=st;refine wpAny_pyNext_zip_item D tz tI tO t1 t2 p.isList p2.isList (x:=u) (y:=u2) (by simpa using hu) (by simpa using hu2) λh' z1 z2 z3 z4 z5 z6 z7=>⟨_,rfl,?_⟩
  refine wpAny_letOwnedTupleGo_zip (s:={ s with heap:=h' }) z1 λh2 z1' sb=>?_;have kk:∀b o,b∉[z,TI,TO,i1,i2]->s.heap.get? b=some o->h2.get? b=some o:=λb o nb e=>by
   simp only[GO,GL,or_false,not_or] at nb;obtain⟨m1,m2,m3,m4,m5⟩:=nb;exact (sb.2 b m1).trans (z7 b o m1 m3 m4 m5 e)
  have lz:z<s.heap.objs.size:=bS tz;have gT:h2.get? s.heap.objs.size=some { cls:=.type "tuple",data:=.seq #[u,u2] }:=(sb.2 _ (HK lz)).trans z5;have up:∀b o,b≠z->h'.get? b=some o->h2.get? b=some o:=λb o nb e=>(sb.2 b nb).trans e;refine⟨.ref s.heap.objs.size,upd H s.heap.objs.size (.tup [x,y]),I.turnedN (t':=s.toks) hf kk (bC _) ⟨by show 2<=sizeLine; decide,[u,u2],.cons ru (.cons ru2 .nil),_,gT,rfl,⟨_,rfl⟩,rfl⟩,rfl,
   ⟨x,y,_,rfl,I.hok.fresh (bC _),rfl,λzs hq=>by rw[I.list_inj hq hx]; exact ex,λzs hq=>by rw[I.list_inj hq hy]; exact ey⟩,
   ⟨z1',up _ _ D.TIz (z7 TI _ D.TIz D.TITO D.TIi1 D.TIi2 tI),⟨u,u2,up _ _ D.TOz z2⟩,z3.at λo e=>up _ _ D.i1z e,z4.at λo e=>up _ _ D.i2z e⟩,λb hb=>?_⟩
  obtain⟨o,e,_⟩:∃o,s.heap.get? b=some o/\True:=by
   simp only[GO,GL,or_false] at hb;obtain⟨o1,e1,_,d1⟩:=t1;obtain⟨o2,e2,_,d2⟩:=t2;rcases hb with rfl | rfl | rfl | rfl | rfl
   .exact⟨_,tz,trivial⟩
   .exact⟨_,tI,trivial⟩
   .exact⟨_,tO,trivial⟩
   .exact⟨o1,e1,trivial⟩
   .exact⟨o2,e2,trivial⟩
  rw[ca (Ir (Heap.lt_size e))];exact (hf b hb).1
 done:=by
  intro X hP hw hK hc i pins s σ H E I hf st hg;subst hP hw hK;obtain⟨xs,ys,hx,hy,hend⟩:=hg;obtain⟨its,rv,p,hz⟩:=I.list hx;obtain⟨its2,rv2,p2,hz2⟩:=I.list hy;have D:=xr st p.isList p2.isList n1 n2;obtain⟨tz,tI,⟨a,c,tO⟩,t1,t2⟩:=st;have l1:=rv.length;have l2:=rv2.length;refine wpAny_pyNext_zip_end (I.ok.hd hc) D tz tI tO t1 t2 p.isList p2.isList (hend.elim (λq=>.inl (by simp; omega)) λq=>.inr (by simp; omega)) λh' kp=>⟨rfl,I.turnedL (t':=s.toks) hf λb o nb e=>?_⟩
  simp only[GO,GL,or_false,not_or] at nb;obtain⟨m1,m2,m3,m4,m5⟩:=nb;exact kp b o m1 m3 m4 m5 e
 self:=λ_ _ _ _ _ st h=>wpAny_pyIter_zip st.1 h
noncomputable def pN (K:bq)(a:Addr):It:=
 ⟨λi H=>∃xs x,SqL K H a xs/\xs[i]? = some x,λi H v H'=>∃x p,v=.ref p/\H p=none/\H'=upd H p (.tup [.int i,x])/\∀xs,SqL K H a xs->xs[i]? = some x,λi H=>∃xs,SqL K H a xs/\xs.length<=i⟩
def jP (e it l:Addr)(i:Nat)(h:Heap):Prop:=(∃old,IsEnum h e it i old)/\h.IsListIter it l i
def yG {P:Program}{w:World}{K:bq}{es:av}{k1:Nat}{ps:Pos}(l e it:Addr):Turn P w K (.Tuple es k1 ps) (pN K l) [e,it] e (jP e it l) where
 mem:=by simp
 obj:=λi h t b hb=>by
  obtain⟨⟨old,te⟩,⟨o1,e1,_,d1⟩⟩:=t;simp only[GO,GL,or_false] at hb;rcases hb with rfl | rfl
  .exact⟨_,te,(λv q=>nomatch q)⟩
  .exact⟨o1,e1,λv q=>by rw[d1] at q; cases q⟩
 keep:=λi h h' t k=>by
  obtain⟨⟨old,te⟩,t1⟩:=t;exact⟨⟨old,k e (by simp) _ te⟩,t1.at λo q=>k it (by simp) o q⟩
 item:=by
  intro X hP hw hK hc i pins s σ H E I hf st hg;subst hP hw hK;obtain⟨xs,x,hx,ex⟩:=hg;obtain⟨its,rv,p,hz⟩:=I.list hx;obtain⟨u,hu,ru⟩:=rv.get ex;obtain⟨⟨old,te⟩,t1⟩:=st;have ne:e≠it:=by
   obtain⟨o1,e1,c1,_⟩:=t1;exact kX "enumerate" "list_iterator" te e1 rfl c1 (by decide)
  refine wpAny_pyNext_enum_item te t1 p.isList (x:=u) (by simpa using hu) ne λh' z1 z2 z3 z4 z5=>⟨_,rfl,?_⟩
  refine wpAny_letOwnedTupleGo_enum (s:={ s with heap:=h',toks:=s.toks+1 }) z1 λh2 z1' sb=>?_;have kk:∀b o,b∉[e,it]->s.heap.get? b=some o->h2.get? b=some o:=λb o nb q=>by
   simp only[GO,GL,or_false,not_or] at nb;exact (sb.2 b nb.1).trans (z5 b o nb.1 nb.2 q)
  have le:e<s.heap.objs.size:=bS te;have gT:h2.get? s.heap.objs.size=some { cls:=.type "tuple",data:=.seq #[.int i s.toks,u] }:=(sb.2 _ (HK le)).trans z3;refine⟨.ref s.heap.objs.size,upd H s.heap.objs.size (.tup [.int i,x]),I.turnedN (t':=s.toks+1) hf kk (bC _) ⟨by show 2<=sizeLine; decide,[.int i s.toks,u],.cons ⟨_,rfl⟩ (.cons ru .nil),_,gT,rfl,⟨_,rfl⟩,rfl⟩,rfl,
   ⟨x,_,rfl,I.hok.fresh (bC _),rfl,λzs hq=>by rw[I.list_inj hq hx]; exact ex⟩,⟨⟨u,by simpa using z1'⟩,z2.at λo q=>(sb.2 it (Iv ne)).trans q⟩,λb hb=>?_⟩
  obtain⟨o,q,_⟩:∃o,s.heap.get? b=some o/\True:=by
   simp only[GO,GL,or_false] at hb;obtain⟨o1,e1,_,d1⟩:=t1;rcases hb with rfl | rfl
   .exact⟨_,te,trivial⟩
   .exact⟨o1,e1,trivial⟩
  rw[ca (Ir (Heap.lt_size q))];exact (hf b hb).1
 done:=by
  intro X hP hw hK hc i pins s σ H E I hf st hg;subst hP hw hK;obtain⟨xs,hx,hend⟩:=hg;obtain⟨its,rv,p,hz⟩:=I.list hx;obtain⟨⟨old,te⟩,t1⟩:=st;have l1:=rv.length;refine wpAny_pyNext_enum_end (I.ok.hd hc) te t1 p.isList (by simp; omega) λh' kp=>⟨rfl,I.turnedL (t':=s.toks) hf λb o nb q=>?_⟩
  simp only[GO,GL,or_false,not_or] at nb;exact kp b o nb.2 q
 self:=λ_ _ _ _ _ st h=>by
  obtain⟨⟨old,te⟩,_⟩:=st;exact IY te h
section
variable {X:Cx}{es:av}{k1:Nat}{tp:Pos}
def jZ (K:bq)(ta:TA):TI:=λσ H R=>ta σ H λvs H1=>∃a b xs ys,vs=[.ref a,.ref b]/\SqL K H1 a xs/\SqL K H1 b ys/\R (qJ K a b) H1
def wQ {a b:Expr}{ta:TA}{p pos:Pos}(hg:Gl X "zip")(hm:X.mg "zip" = none)(hv:bootBuiltins "zip" = some (.type "zip"))(ha:PA X [a,b] ta)(hs:starEach [a,b] X.env=[(false,eval a X.env),(false,eval b X.env)]:=by rfl)(hs2:starEach [b] X.env=[(false,eval b X.env)]:=by rfl) :
  PI X (.Tuple es k1 tp) (.Call (.Name "zip" p) [a,b] [] pos) (jZ X.K ta):=by
 intro pins s σ H R I h;refine Call_ (gr I hg hm hv (GU (bi (ha pos pins s σ H _ I h) λus s1 hZz=>?_) (by rw[hs,hs2]) (by rw[hs2]; rfl)));obtain⟨vs,H1,I1,r1,q1⟩:=hZz;obtain⟨l1,l2,xs,ys,rfl,hx,hy,q⟩:=q1;obtain⟨u,v,rfl,ru,rv⟩:=vals2 r1;cases ru;cases rv;obtain⟨its,rx,px,hzx⟩:=I1.list hx;obtain⟨its2,ry,py,hzy⟩:=I1.list hy;refine call_zip_2 px.isList py.isList λh' z1 z2 z3 z4 z5 z6 z7=>?_;refine wpAny_pyIter_zip (s:={ s1 with heap:=h' }) z1 ⟨_,_,_,_,H1,rfl,I1.kept (t':=s1.toks) z7,zM l1 l2 (s1.heap.objs.size+4) (s1.heap.objs.size+2) (s1.heap.objs.size+3) s1.heap.objs.size (s1.heap.objs.size+1) (dk (HF _)) (dk (HF _)),⟨z1,z2,⟨_,_,z3⟩,z4,z5⟩,λb hb=>?_,q⟩;have lb:s1.heap.objs.size<=b:=by
  simp only[GO,GL,or_false] at hb;rcases hb with rfl | rfl | rfl | rfl | rfl <;> omega
 exact I1.fpOk lb (I1.hok.fresh lb)
end
end L2
end
section
namespace St
open PySem PyProof.Rows
noncomputable def subs:Nat->af
 | 0=>[[]]
 | n+1=>subs n++(subs n).map (·++[n])
noncomputable def ins (l:am)(k:Nat):am:=l.filter (λx=>Nat.blt x k)++k::l.filter (λx=>Nat.blt k x)
noncomputable def b1 (l:am)(k:Nat):Bool:=l.contains k||((!SetTable.has l.toArray k)&&(SetTable.below l.toArray k == (l.filter (λx=>Nat.blt x k)).length)&&(l.take (l.filter (λx=>Nat.blt x k)).length++k::l.drop (l.filter (λx=>Nat.blt x k)).length == ins l k)&&(subs 6).contains (ins l k))
def Eb:((subs 6).all λl=>(List.range 6).all λk=>b1 l k)=true:=by decide +kernel
noncomputable def hs (l:am):Array Int:=(l.map Int.ofNat).toArray
noncomputable def b2 (m:Nat)(l:am):Bool:=((SetTable.layClean m (hs l)).map λowner=>(List.range (m+1)).filterMap λj=>(owner.getD j none).map (j,·)) == some (l.zip (List.range l.length))
noncomputable def gm (l:am):Nat:=SetTable.sizeAbove (SetTable.grown l.length) - 1
noncomputable def ud (l:am):Bool:=b2 (gm l) l&&(Nat.blt 4 l.length||b2 7 l)&&b2 15 l&&(gm l == 7&&Nat.ble l.length 4||gm l == 15||gm l == 31)
def FX:((subs 6).all ud)=true:=by decide +kernel
noncomputable def b3 (l:am):Bool:=(List.range (l.length+1)).all λi=>SetTable.below l.toArray (if i=0 then 0 else l.getD (i - 1) 0+1) == i
def vb:((subs 6).all b3)=true:=by decide +kernel
noncomputable def b4 (l:am):Bool:=decide (l.length<=6)&&l.all (λx=>Nat.blt x 6)&&decide (l.Pairwise (· < ·))
def yU:((subs 6).all b4)=true:=by decide +kernel
noncomputable def b5 (l:am):Bool:=((List.range 6).filter l.contains == l)&&(List.range 6).all λk=>(subs 6).contains (l.filter (· != k))
def BM {m k:Nat}(hm:m=7\/m=15\/m=31)(hk:k<6):SetTable.bits (Int.ofNat k) % (m+1)=k:=by
 have:∀m∈[7,15,31],∀k∈List.range 6,SetTable.bits (Int.ofNat k) % (m+1)=k:=by decide +kernel
 exact this m (by simpa using hm) k (GS.mpr hk)
def Az {t:SetTable}{k:Nat}(hm:t.mask=7\/t.mask=15\/t.mask=31)(hk:k<6)(h1:SetTable.has t.place k=false)(h2:SetTable.has t.dummies k=false):t.freeSlot (Int.ofNat k)=some (k,false):=by
 have hs:t.slot k=.empty:=by
  show (if SetTable.has t.place k=true then _ else if SetTable.has t.dummies k=true then _ else _)=_;rw[h1,h2];rfl
 obtain⟨n,hn⟩:∃n,10 * SetTable.turns t.mask=n+1:=⟨10 * t.mask+149,by unfold SetTable.turns; omega⟩
 have e:(t.probeStart (Int.ofNat k)).j=k:=BM hm hk;unfold SetTable.freeSlot SetTable.probe;rw[hn];unfold SetTable.probe.go;rw[e,hs];rfl
structure TG (b:Bool)(l D:am)(t:SetTable):Prop where
 mem:l∈subs 6
 place:t.place=l.toArray
 dum:∃ds,ds∈subs 6/\t.dummies=ds.toArray/\∀x∈ds,x∈D
 mask:t.mask=7/\t.fill<=4\/t.mask=15\/t.mask=31
 led:t.led=b
 plain:t.plain=true
def SG (b:Bool)(h:Heap)(a:Addr)(l D:am):Prop:=∃es ep t,h.get? a=some { cls:=.type "set",dict:=none,data:=.set es ep t }/\es.toList.map (·.1)=l.map Int.ofNat/\(∀e∈es.toList,∃tk,e.2=.int e.1 tk)/\TG b l D t
def mem_b4 {l:am}(h:l∈subs 6):l.length<=6/\(∀x∈l,x<6)/\l.Pairwise (· < ·):=by
 have:=dR yU l h;simp only[b4,tw,GV,List.all_eq_true] at this;exact⟨this.1.1,λx hx=>Ih (this.1.2 x hx),this.2⟩
def ui {k:Nat}(h:k<6):hashInt (Int.ofNat k)=Int.ofNat k:=by
 have:∀j∈List.range 6,hashInt (Int.ofNat j)=Int.ofNat j:=by decide +kernel
 exact this k (GS.mpr h)
theorem TG.size {b:Bool}{l D:am}{t:SetTable}(h:TG b l D t):t.place.size=l.length:=by rw[h.place]; simp
theorem TG.fill {b:Bool}{l D:am}{t:SetTable}(h:TG b l D t):t.fill<=l.length+6:=by
 obtain⟨ds,d1,d2,_⟩:=h.dum;have:=(mem_b4 d1).1;rw[SetTable.fill,h.size,d2,Gv];omega
theorem TG.fits {b:Bool}{l D:am}{t:SetTable}{n:Nat}(h:TG b l D t)(hn:n=l.length):t.fits n=true:=by
 have h6:=(mem_b4 h.mem).1;have hf:=h.fill;simp only[SetTable.fits,h.size,tw,GC,GV];refine⟨hn.symm,?_⟩;rcases h.mask with ⟨e,q⟩ | e | e <;> omega
def TG.mask3 {b:Bool}{l D:am}{t:SetTable}(h:TG b l D t):t.mask=7\/t.mask=15\/t.mask=31:=h.mask.imp And.left id
def mJ {prog:Program}{w:World}{es:Array (Int×Value)}{l:am}(hm:l∈subs 6)(h1:es.toList.map (·.1)=l.map Int.ofNat)(h2:∀e∈es.toList,∃tk,e.2=.int e.1 tk):ElemsOf (intKind prog w) es.toList:=by
 intro e he;obtain⟨tk,et⟩:=h2 e he;have:e.1∈l.map Int.ofNat:=by rw[<-h1]; exact G1 he
 obtain⟨k,hk,ek⟩:=dh this;refine⟨⟨e.1,by rw[et]; exact intKind_is _ _ _ _,?_⟩,by rw[et]; rfl⟩;show e.1=hashInt e.1;rw[<-ek,ui ((mem_b4 hm).2.1 k hk)]
def gO {es:Array (Int×Value)}{l:am}(h1:es.toList.map (·.1)=l.map Int.ofNat):es.size=l.length:=by
 have:=congrArg List.length h1;simpa using this
def ins_of {l:am}{k:Nat}(hm:l∈subs 6)(hk:k<6)(hn:k∉l):SetTable.has l.toArray k=false/\SetTable.insertAt l.toArray (SetTable.below l.toArray k) k=(ins l k).toArray/\SetTable.below l.toArray k=(l.filter (λx=>Nat.blt x k)).length/\l.take (l.filter (λx=>Nat.blt x k)).length++k::l.drop (l.filter (λx=>Nat.blt x k)).length=ins l k/\ins l k∈subs 6/\(ins l k).length=l.length+1:=by
 have q:b1 l k=true:=dR (dR Eb l hm) k (GS.mpr hk);have hc:l.contains k=false:=by simpa using hn
 simp only[b1,hc,Bool.false_or,tw,GC,HI,IZ] at q;obtain⟨⟨⟨q1,q2⟩,q3⟩,q4⟩:=q;refine⟨q1,?_,q2,q3,q4,?_⟩
 .rw[q2];apply Jo.mp;rw[SetTable.toList_insertAt];simpa using q3
 .rw[<-q3,GG,List.length_cons,G4,Jn];have:(l.filter (λx=>Nat.blt x k)).length<=l.length:=GJ _ _;omega
def Dl {b:Bool}{l D:am}{t:SetTable}{es:Array (Int×Value)}{k:Nat}{x:Value}(h:TG b l D t)(h1:es.toList.map (·.1)=l.map Int.ofNat)(hk:k<6)(hn:k∉l)(hD:k∉D) :
  ∃es' t',layNew t es (Int.ofNat k) x=(es',t',false,false)/\es'.toList.map (·.1)=(ins l k).map Int.ofNat/\(∀e∈es'.toList,e∈es.toList\/e=(Int.ofNat k,x))/\t'.mask=t.mask/\t'.place=(ins l k).toArray/\t'.dummies=t.dummies/\t'.led=b/\t'.plain=true/\t'.fill=t.fill+1/\ins l k∈subs 6:=by
 obtain⟨q1,hp,q2,q3,q4,hlen⟩:=ins_of h.mem hk hn;obtain⟨ds,d1,d2,d3⟩:=h.dum;have hnod:SetTable.has t.dummies k=false:=by rw[d2]; exact (ins_of d1 hk λe=>hD (d3 k e)).1
 have hnop:SetTable.has t.place k=false:=by rw[h.place]; exact q1
 have f1:t.freeSlot (Int.ofNat k)=some (k,false):=Az h.mask3 hk hnop hnod;rw[<-h.place] at hp q2;have hf:=h.fill;have h6:=(mem_b4 h.mem).1;have hfl:({ t with place:=(ins l k).toArray,dummies:=t.dummies }:SetTable).fill=t.fill+1:=by
  simp only[SetTable.fill,h.size,Gv,hlen];omega
 have hfit:({ t with place:=(ins l k).toArray,dummies:=t.dummies }:SetTable).fits (l.length+1)=true:=by
  simp only[SetTable.fits,hfl,tw,GC,GV,Gv,hlen];refine⟨trivial,?_⟩;rcases h.mask with ⟨e,q⟩ | e | e <;> omega
 have hes:(SetTable.insertAt es (SetTable.below t.place k) (Int.ofNat k,x)).size=l.length+1:=by
  rw[<-Array.length_toList,(SetTable.insertAt_perm _ _ _).length_eq,JH,GG,Array.length_toList,gO h1];rfl
 refine⟨SetTable.insertAt es (SetTable.below t.place k) (Int.ofNat k,x),{ t with place:=(ins l k).toArray },?_,?_,λe he=>?_,rfl,rfl,rfl,h.led,h.plain,hfl,q4⟩
 .unfold layNew;rw[f1];dsimp only[SetTable.put];rw[hnod,hp];simp only[GN,if_false];rw[hes];simp only[SetTable.orStandIn,hfit,if_true,Jr]
 .rw[SetTable.toList_insertAt,q2,HA,GA,List.map_take,List.map_drop,h1,<-List.map_take,<-List.map_drop,<-q3];simp
 .have:=(SetTable.insertAt_perm es (SetTable.below t.place k) (Int.ofNat k,x)).mem_iff.mp he;rw[JH,Ha,Gz] at this;exact this
def yZ {m f mv:Nat}{ld pl:Bool}{l:am}{es:Array (Int×Value)}(q:b2 m l=true)(h1:es.toList.map (·.1)=l.map Int.ofNat):SetTable.laid m f mv ld pl (es.map (·.1))=some (⟨m,l.toArray,#[],f,ld,mv,pl⟩,(List.range l.length).toArray):=by
 simp only[b2,GC] at q;obtain⟨owner,o1,o2⟩:=cJ q;have hh:es.map (·.1)=hs l:=by
  apply Jo.mp;rw[Array.toList_map,h1];rfl
 have hzip:(l.zip (List.range l.length)).map (·.1)=l:=by rw[List.map_fst_zip]; simp
 have hzip2:(l.zip (List.range l.length)).map (·.2)=List.range l.length:=by rw[List.map_snd_zip]; simp
 unfold SetTable.laid;rw[hh];show (SetTable.layClean m (hs l)).bind _=_;rw[o1];show some _=some _;rw[show (List.range (m+1)).filterMap (λj=>(owner.getD j none).map (j,·))=l.zip (List.range l.length) from o2,hzip,hzip2]
def AD {l:am}{es:Array (Int×Value)}(hz:es.size=l.length):(List.range l.length).toArray.filterMap (es[·]?)=es:=by
 apply Jo.mp;rw[Array.toList_filterMap];show (List.range l.length).filterMap (λi=>es[i]?)=es.toList;rw[<-hz];exact filterMap_getElem?_range es
def BJ {b:Bool}{l D:am}{t:SetTable}{es:Array (Int×Value)}(hm:l∈subs 6)(h1:es.toList.map (·.1)=l.map Int.ofNat)(hl:t.led=b)(hp:t.plain=true) :
  ∃t',relayAll t es (SetTable.grown es.size)=(es,t',false)/\TG b l D t':=by
 have q:=dR FX l hm;simp only[ud,tw,Hj,GC] at q;obtain⟨⟨⟨q1,_⟩,_⟩,q4⟩:=q;have hz:es.size=l.length:=gO h1;have h6:=(mem_b4 hm).1;have TT:TG b l D ⟨gm l,l.toArray,#[],t.finger,t.led,t.movedTo (gm l),t.plain⟩:=by
  refine⟨hm,rfl,⟨[],by decide +kernel,rfl,λx hx=>by cases hx⟩,?_,hl,hp⟩;rcases q4 with (⟨q4,q5⟩ | q4) | q4
  .exact .inl ⟨q4,by simpa[SetTable.fill] using Ih q5⟩
  .exact .inr (.inl q4)
  .exact .inr (.inr q4)
 refine⟨_,?_,TT⟩;have hr:t.relaid (es.map (·.1)) (SetTable.grown es.size)=some (⟨gm l,l.toArray,#[],t.finger,t.led,t.movedTo (gm l),t.plain⟩,(List.range l.length).toArray):=by
  unfold SetTable.relaid;rw[hz];exact yZ q1 h1
 have hcov:coversAll (List.range l.length).toArray es.size=true:=by
  unfold coversAll;rw[hz];exact List.isPerm_iff.mpr (List.Perm.refl _)
 unfold relayAll;rw[hr];dsimp only;rw[AD hz,hcov,TT.fits hz];rfl
section
variable {prog:Program}{w:World}{A:Around}{E:Value->Shared->Prop}{s:Shared}
def SG.store {b:Bool}{h:Heap}{a:Addr}{es es':Array (Int×Value)}{ep:Nat}{t t':SetTable}{l D:am}(ho:h.get? a=some { cls:=.type "set",dict:=none,data:=.set es ep t })(h1:es'.toList.map (·.1)=l.map Int.ofNat)(h2:∀e∈es'.toList,∃tk,e.2=.int e.1 tk)(ht:TG b l D t') :
  (h.update a (Obj.putSet es' t')).get? a=some { cls:=.type "set",dict:=none,data:=.set es' (ep+1) t' }/\SG b (h.update a (Obj.putSet es' t')) a l D:=by
 have e:=HH (Obj.putSet es' t') ho rfl;exact⟨e,es',ep+1,t',e,h1,h2,ht⟩
def small_line {n:Nat}(h:n<=6):n<=sizeLine:=bH h (by decide)
def Br {a:Addr}{l D:am}{b:Bool}{k:Nat}{tk:Tok}{Q:Bool->Shared->Prop}(hS:SG b s.heap a l D)(hk:k<6)(hD:k∉D)
  (h:∀h' r,Heap.SameBut a s.heap h'->SG b h' a (if k∈l then l else ins l k) D->Q r { s with heap:=h' }) :
  wpAny (model prog w) A (setAddHashed a (.int (Int.ofNat k) tk) ((intKind prog w).hash (Int.ofNat k))) Q E s:=by
 obtain⟨es,ep,t,ho,h1,h2,ht⟩:=hS;have hel:ElemsOf (intKind prog w) es.toList:=mJ ht.mem h1 h2;have hz:=gO h1;have h6:=(mem_b4 ht.mem).1;have hf:t.fits es.size=true:=ht.fits hz;have hb:es.size<scanBound:=by unfold scanBound; omega
 have hkey:(intKind prog w).is (Int.ofNat k) (.int (Int.ofNat k) tk)=true:=intKind_is _ _ _ _;unfold setAddHashed setAddHashedIn;refine Hx (aS (I0 ho rfl hf ?_));dsimp only;rw[byScan_of (knd:=intKind prog w) rfl hb hel];simp only[↓reduceIte];unfold setAddByScan;refine aS ?_;refine aS (wpAny_rule ?_);refine aS (wpAny_setScan_of (knd:=intKind prog w) hkey ho rfl hf hel ?_);have hin:∀e∈es.toList,(intKind prog w).is (Int.ofNat k) e.2=true->k∈l:=by
  intro e he hi;obtain⟨tk',et⟩:=h2 e he;obtain⟨t2,e2⟩:=Value.isInt_shape (show Value.isInt (Int.ofNat k) e.2=true from hi);rw[et] at e2;injection e2 with e3 _;have:e.1∈l.map Int.ofNat:=by rw[<-h1]; exact G1 he
  obtain⟨k',hk',ek⟩:=dh this;rw[e3] at ek;have:k'=k:=Int.ofNat.inj ek;exact this ▸ hk'
 cases hr:List.findIdx? (λe=>(intKind prog w).is (Int.ofNat k) e.2) es.toList with
 | some j=>
  dsimp only;obtain⟨hj,hpj,_⟩:=Hf.mp hr;have hkl:k∈l:=hin _ (G5 hj) hpj;refine bh (bh ?_);have e:s={ s with heap:=s.heap }:=by cases s; rfl
  have:=h s.heap false (Heap.SameBut.refl a s.heap) ⟨es,ep,t,ho,by rw[if_pos hkl]; exact h1,h2,by rw[if_pos hkl]; exact ht⟩;rw[e]; exact this
 | none=>
  dsimp only;have hkl:k∉l:=by
   intro hm;have:Int.ofNat k∈es.toList.map (·.1):=by rw[h1]; exact G1 hm
   obtain⟨e,he,ee⟩:=dh this;have:=List.findIdx?_eq_none_iff.mp hr e he;obtain⟨tk',et⟩:=h2 e he;rw[et,ee] at this;have z:(intKind prog w).is (Int.ofNat k) (.int (Int.ofNat k) tk')=true:=intKind_is _ _ _ _;rw[z] at this;cases this
  rw[if_neg hkl] at h;have hh:(intKind prog w).hash (Int.ofNat k)=Int.ofNat k:=ui hk;rw[hh];obtain⟨es',t',hL,e1,e2,m1,m2,m3,m4,m5,m6,m7⟩:=Dl (x:=.int (Int.ofNat k) tk) ht h1 hk hkl hD;rw[hL];dsimp only;have e2':∀e∈es'.toList,∃tk,e.2=.int e.1 tk:=λe he=>by
   rcases e2 e he with q | q
   .exact h2 e q
   .rw[q]; exact⟨tk,rfl⟩
  have hz':=gO e1;have h6':=(mem_b4 m7).1;refine aS ?_;refine bh ?_;rw[m5];simp only[if_true];refine aS ?_;rw[hashByValue_scannable 8 (x:=.int (Int.ofNat k) tk) rfl];refine bh ?_;simp only[plainKind,if_true,Bool.not_false,Bool.true_and];refine aS (wpAny_storeSet_of ho rfl ?_ (small_line (by rw[hz']; exact h6')));by_cases hfull:t'.tooFull=true
  .rw[if_pos hfull];obtain⟨t2,r1,r2⟩:=BJ (b:=b) (D:=D) m7 e1 m4 m5;rw[r1];dsimp only;have hx:=HH (Obj.putSet es' t') ho rfl;refine aS ?_;refine bh ?_;refine aS (wpAny_storeSet_of (o:={ cls:=.type "set",dict:=none,data:=.set es' (ep+1) t' }) hx rfl ?_ (small_line (by rw[hz']; exact h6')));refine bh (bh (h _ true ((HB s.heap a _).trans (HB _ a _)) (SG.store hx e1 e2' r2).2))
  .rw[if_neg hfull];have hm':t'.mask=7/\t'.fill<=4\/t'.mask=15\/t'.mask=31:=by
    rcases ht.mask with ⟨q,q2⟩ | q
    .refine .inl ⟨m1.trans q,?_⟩;simp only[SetTable.tooFull,m1,q,GV,ge_iff_le] at hfull;omega
    .exact .inr (by rw[m1]; exact q)
   refine bh (bh (h _ true (HB s.heap a _) (SG.store ho e1 e2' ⟨m7,m2,by rw[m3]; exact ht.dum,hm',m4,m5⟩).2))
end
end St
end
section
namespace St
open PySem PyProof.Rows PySem.W
def Cu:entryFor table "set.__iter__" = some Builtin.«frozenset.__iter__»:=
 entryFor_alias (id' := "frozenset.__iter__") (by kernel_rfl) rfl (by decide +kernel) (by kernel_rfl)
def kU:Slot "set_iterator" "__next__" "set_iterator.__next__" :=
 .of (owner := "set_iterator") (n := "__next__") (by rw[typeLookup_type,Jl]; kernel_rfl) (by decide +kernel) (by decide +kernel) (by decide +kernel)
  (by first | exact .inl (by decide +kernel) | exact .inr (by decide +kernel)) (by rw[isSubtype_type]; kernel_rfl)
def uF:entryFor table "set_iterator.__next__" = some Builtin.«set_iterator.__next__»:=entryFor_of_tree (by kernel_rfl)
theorem wC:Manifest.owners.lookup (String.ofList ['r','o','t','a','r','e','t','i','_','t','e','s'].reverse)=some Manifest.sig_set_iterator:=by kernel_rfl
def vZ (a:Value):argsOk "set_iterator.__next__" ⟨[a],[]⟩:=by
 unfold argsOk; rw[signature?_of (id := "set_iterator.__next__") (n:=['_','_','t','x','e','n','_','_']) (o:=['r','o','t','a','r','e','t','i','_','t','e','s']) (by kernel_rfl) wC]; kernel_rfl
def wf:Slot "set_iterator" "__iter__" "set_iterator.__iter__" :=
 .of (owner := "set_iterator") (n := "__iter__") (by rw[typeLookup_type,Jl]; kernel_rfl) (by decide +kernel) (by decide +kernel) (by decide +kernel)
  (by first | exact .inl (by decide +kernel) | exact .inr (by decide +kernel)) (by rw[isSubtype_type]; kernel_rfl)
def y8:typeLookup (.type "set") "__len__" = pure (some (.builtin "set.__len__")):=by rw[typeLookup_type,Jl]; kernel_rfl
section
variable {prog:Program}{w:World}{A:Around}{E:Value->Shared->Prop}{s:Shared}{r:Addr}
def Ay {Q:Bool->Shared->Prop}(hT:s.TypeIs (.ref r) "set")(h:Q false s):wpAny (model prog w) A (Builtin.List.listLengthHint (.ref r)) Q E s:=by
 unfold Builtin.List.listLengthHint;refine aS (wpAny_specialOf hT y8 ?_);generalize hid:("set.__len__" : String)=id0;wp_delta
 rw[show splitId id0=some ("set", "__len__") from by subst hid; decide +kernel];subst hid;refine aS (wpAny_isInstance (T := "set") (b:=true) hT (by rw[isSubtype_type]; kernel_rfl) ?_);refine Ia (λhab=>absurd hab (by decide)) (λ_=>?_);refine Ia (λ_=>?_) (λhab=>absurd (by decide +kernel) hab);refine aS (wpAny_typeOf hT ?_);exact bh h
def rS {Q:Bool->Shared->Prop}(h:Q (w.params.followText "set-order") s):wpAny (model prog w) A setsByText Q E s:=by
 unfold setsByText;refine aS (wpAny_askSetting ?_);exact bh h
def A9 {a:Addr}{es:Array (Int×Value)}{ep:Nat}{t:SetTable}{Q:Bool->Shared->Prop}(ho:s.heap.get? a=some { cls:=.type "set",dict:=none,data:=.set es ep t })(hf:t.fits es.size=true)(hp:t.plain=true)(h:Q false s) :
  wpAny (model prog w) A (setDrawn a) Q E s:=by
 unfold setDrawn;refine aS (I0 ho rfl hf ?_);dsimp only;refine aS (rS ?_);refine bh ?_;show Q (!w.params.followText "set-order" && (!t.plain&&decide (es.size > 1))) s;rw[hp,Jr,Bool.false_and,Bool.and_false];exact h
end
noncomputable abbrev kW (slot i:Nat)(a:Addr)(n ep:Nat):Obj:={ cls:=.type "set_iterator",data:=.fields #[.int slot 0,.int i 0,.ref a,.int n 0,.int ep 0] }
section
variable {prog:Program}{w:World}{A:Around}{E:Value->Shared->Prop}{s:Shared}{a:Addr}{es:Array (Int×Value)}{ep:Nat}{t:SetTable}
def BI {Q:Value->Shared->Prop}(ho:s.heap.get? a=some { cls:=.type "set",dict:=none,data:=.set es ep t })(hf:t.fits es.size=true)(hp:t.plain=true)
  (hQ:Q (.ref s.heap.objs.size) { s with heap:=s.heap.push (kW 0 0 a es.size ep) }):wpAny (model prog w) A (pyIter (.ref a)) Q E s:=by
 have hT:s.TypeIs (.ref a) "set":=⟨_,ho,rfl⟩
 refine wpAny_pyIter_slot hT F.slot_set_iter (Hk F.slot_set_iter hT Cu ?_ (F.args_set_iter_1 _));unfold Builtin.«frozenset.__iter__» Builtin.Frozenset.slot0 slotArgs;simp only[List.isEmpty_nil,Jr,GN,↓reduceIte,bind_assoc,List.length_nil,HP];unfold Builtin.Frozenset.addrOf Builtin.Frozenset.sizeOf;refine aS (bh ?_);try dsimp only
 refine aS (bh ?_);refine aS (aS (Jw ho rfl hf (bh ?_)));refine aS (A9 ho hf hp ?_);simp only[GN,if_false];refine aS (bh ?_);refine aS (wpAny_setEpoch_of ho rfl hf ?_);unfold newFields;refine aS (GY (bh ⟨_,rfl, "set_iterator",_,⟨_,df _ rfl,rfl⟩,kU.lookup,?_⟩));exact hQ
noncomputable def ord (w:World)(a:Addr)(ep:Nat)(es:Array (Int×Value)):Array (Int×Value):=if w.params.followText "set-order" then pickOrder (w.params.setOrder a ep) es else es
noncomputable def nextOf (w:World)(a:Addr)(ep:Nat)(es:Array (Int×Value))(t:SetTable)(slot i:Nat):Option (Value×Nat):=
 if w.params.followText "set-order" then ((ord w a ep es)[i]?).map λe=>(e.2,slot) else match es[SetTable.below t.place slot]?,t.place[SetTable.below t.place slot]? with
  | some (_,x),some j=>some (x,j+1)
  | _,_=>none
def wN {slot i:Nat}{Q:Option (Value×Nat)->Shared->Prop}(ho:s.heap.get? a=some { cls:=.type "set",dict:=none,data:=.set es ep t })(hf:t.fits es.size=true)(hp:t.plain=true)(hl:t.led = !w.params.followText "set-order")(h:Q (nextOf w a ep es t slot i) s) :
  wpAny (model prog w) A (setNext a slot i ep) Q E s:=by
 unfold setNext;refine aS (I0 ho rfl hf ?_);dsimp only;refine aS (rS ?_);unfold nextOf ord at h;cases hb:w.params.followText "set-order" with
 | true=>
  rw[hb] at h;simp only[if_true,HP,GN,if_false] at h ⊢;refine aS ?_;unfold setWalk;refine aS (I0 ho rfl hf ?_);dsimp only;refine aS (rS ?_);rw[hb];simp only[if_true];refine aS (wpAny_askSetting ?_);exact bh (bh h)
 | false=>
  rw[hb] at h hl;simp only[GN,if_false] at h ⊢;refine Ia (λhab=>absurd (show (!t.plain&&decide (es.size > 1))=true from hab) (by rw[hp]; simp)) (λ_=>?_);refine aS ?_;refine Ia (λhab=>absurd (show (!t.led&&!es.isEmpty)=true from hab) (by rw[hl]; simp)) (λ_=>?_);exact bh (bh h)
end
theorem wF {α:Type}:∀{l:List α} {i:Nat} (h:i<l.length),List.Perm (l[i]::l.eraseIdx i) l
 | x::l,0,_=>List.Perm.refl _
 | x::l,i+1,h=>by
  have:=wF (l:=l) (i:=i) (Nat.lt_of_succ_lt_succ h);rw[List.eraseIdx_cons_succ,List.getElem_cons_succ];exact (List.Perm.swap x _ _).trans (this.cons x)
theorem xo {α:Type}(next:Nat->Nat):∀(fuel k:Nat) (left:List α) (out:Array α),fuel=left.length->List.Perm (pickOrder.go next fuel k left out).toList (out.toList++left)
 | 0,k,left,out,h=>by
  have:left=[]:=Hy.mp h.symm;subst this;simp[pickOrder.go]
 | fuel+1,k,left,out,h=>by
  unfold pickOrder.go;have hl:next k % left.length<left.length:=Nat.mod_lt _ (by omega);rw[Gw hl];dsimp only;refine (xo next fuel (k+1) _ _ ?_).trans ?_
  .rw[List.length_eraseIdx,if_pos hl]; omega
  .rw[JH,HN];refine List.Perm.append_left _ ?_;exact wF hl
def Gp {α:Type}(next:Nat->Nat)(xs:Array α):List.Perm (pickOrder next xs).toList xs.toList:=by
 have:=xo next xs.size 0 xs.toList #[] (by simp);simpa[pickOrder] using this
def sh (w:World)(a:Addr)(ep:Nat)(es:Array (Int×Value)):List.Perm (ord w a ep es).toList es.toList:=by
 unfold ord;split
 .exact Gp _ _
 .exact List.Perm.refl _
def pU (w:World)(a:Addr)(ep:Nat)(es:Array (Int×Value)):(ord w a ep es).size=es.size:=by
 rw[<-Array.length_toList,(sh w a ep es).length_eq,Array.length_toList]
noncomputable def slotAt (w:World)(l:am)(i:Nat):Nat:=if w.params.followText "set-order" then 0 else if i=0 then 0 else l.getD (i - 1) 0+1
section
variable {prog:Program}{w:World}{A:Around}{E:Value->Shared->Prop}{s:Shared}{a I:Addr}{es:Array (Int×Value)}{ep:Nat}{t:SetTable}{b:Bool}{l D:am}
def yp {i:Nat}(ht:TG b l D t)(h1:es.toList.map (·.1)=l.map Int.ofNat)(hi:i<es.size):∃e,(ord w a ep es)[i]? = some e/\nextOf w a ep es t (slotAt w l i) i=some (e.2,slotAt w l (i+1)):=by
 have hz:=gO h1;have ho:i<(ord w a ep es).size:=by rw[pU]; exact hi
 refine⟨(ord w a ep es)[i],by simp[ho],?_⟩;unfold nextOf slotAt;by_cases hb:w.params.followText "set-order" = true
 .simp only[hb,if_true];rw[IB ho];rfl
 .have q:=dR vb l ht.mem;simp only[b3,List.all_eq_true,GC,GS] at q;have q1:=q i (by omega);have hbel:SetTable.below t.place (if i=0 then 0 else l.getD (i - 1) 0+1)=i:=by rw[ht.place]; exact q1
  have hil:i<l.length:=by omega
  have hb':w.params.followText "set-order" = false:=by simpa using hb
  simp only[hb',GN,if_false,hbel];have e1:es[i]? = some es[i]:=by simp[hi]
  have e2:t.place[i]? = some (l[i]'hil):=by rw[ht.place]; simp[hil]
  have e3:(ord w a ep es)=es:=by unfold ord; rw[if_neg hb]
  rw[e1,e2];simp only[e3,Nat.add_eq_zero_iff,Nat.succ_ne_self,and_false,if_false,Nat.add_sub_cancel,Nat.reduceAdd,Nat.one_ne_zero];simp[hil]
def zV (ht:TG b l D t)(h1:es.toList.map (·.1)=l.map Int.ofNat):nextOf w a ep es t (slotAt w l es.size) es.size=none:=by
 have hz:=gO h1;unfold nextOf slotAt;by_cases hb:w.params.followText "set-order" = true
 .simp only[hb,if_true];rw[Ja (by rw[pU]; exact bC _)];rfl
 .have q:=dR vb l ht.mem;simp only[b3,List.all_eq_true,GC,GS] at q;have q1:=q es.size (by omega);have hbel:SetTable.below t.place (if es.size=0 then 0 else l.getD (es.size - 1) 0+1)=es.size:=by rw[ht.place]; exact q1
  have hb':w.params.followText "set-order" = false:=by simpa using hb
  simp only[hb',GN,if_false,hbel];have e1:es[es.size]? = none:=by simp
  rw[e1]
def Dj {i slot nx:Nat}{x:Value}{Q:aB->Shared->Prop}(hI:s.heap.get? I=some (kW slot i a es.size ep))(ho:s.heap.get? a=some { cls:=.type "set",dict:=none,data:=.set es ep t })(hf:t.fits es.size=true)(hp:t.plain=true)(hl:t.led = !w.params.followText "set-order")(hn:nextOf w a ep es t slot i=some (x,nx))
  (hQ:∀h',h'.get? I=some (kW nx (i+1) a es.size ep)->Heap.SameBut I s.heap h'->Q (some x) { s with heap:=h' }):wpAny (model prog w) A (pyNext (.ref I)) Q E s:=by
 have hT:s.TypeIs (.ref I) "set_iterator":=⟨_,hI,rfl⟩
 unfold pyNext;refine aS (wpAny_attempt (wpAny_callSpecial?_slot (name:=Str.ofString "__next__") hT kU (Hk kU hT uF ?_ (vZ _))));unfold Builtin.«set_iterator.__next__» slotArgs;simp only[List.isEmpty_nil,Jr,GN,↓reduceIte,bind_assoc,List.length_nil,HP];refine aS (bh ?_);refine aS (wpAny_fieldsOf hI rfl ?_);dsimp only;refine aS (Jw ho rfl hf ?_);refine Ia (λhab=>absurd hab (by simp)) (λ_=>?_);simp only[Int.toNat_natCast];refine aS (wN ho hf hp hl ?_);rw[hn];dsimp only;refine aS (wpAny_setField_rec hI (by simp) λh1 g1 s1=>?_);refine aS (wpAny_setField_rec (s:={ s with heap:=h1 }) g1 (by simp) λh2 g2 s2=>?_);exact bh ⟨_,rfl,bh (hQ h2 g2 (s1.trans s2))⟩
def AB {i slot:Nat}{Q:aB->Shared->Prop}(hh:A.handled=none)(hI:s.heap.get? I=some (kW slot i a es.size ep))(ho:s.heap.get? a=some { cls:=.type "set",dict:=none,data:=.set es ep t })(hf:t.fits es.size=true)(hp:t.plain=true)(hl:t.led = !w.params.followText "set-order")(hn:nextOf w a ep es t slot i=none)
  (hQ:∀h',Heap.ExtBut I s.heap h'->Q none { s with heap:=h' }):wpAny (model prog w) A (pyNext (.ref I)) Q E s:=by
 have hT:s.TypeIs (.ref I) "set_iterator":=⟨_,hI,rfl⟩
 unfold pyNext;refine aS (wpAny_attempt (wpAny_callSpecial?_slot (name:=Str.ofString "__next__") hT kU (Hk kU hT uF ?_ (vZ _))));unfold Builtin.«set_iterator.__next__» slotArgs;simp only[List.isEmpty_nil,Jr,GN,↓reduceIte,bind_assoc,List.length_nil,HP];refine aS (bh ?_);refine aS (wpAny_fieldsOf hI rfl ?_);dsimp only;refine aS (Jw ho rfl hf ?_);refine Ia (λhab=>absurd hab (by simp)) (λ_=>?_);simp only[Int.toNat_natCast];refine aS (wN ho hf hp hl ?_);rw[hn];dsimp only;refine aS (JB hI rfl (by simp) ?_);show wpAny _ _ (newExc (.type "StopIteration") [] >>= _) _ _ _;refine aS ?_;simp only[newExc,newTuple];refine aS (GY ?_ (by size_fits));refine aS (m:=firstArgMember _ _) (wpAny_of_eq (a:=Value.none) (by first | rfl | (simp only[firstArgMember]; rfl)) ?_);refine GY ?_ (by size_fits);simp only[raiseNew];refine aS (wpAny_handled ?_);rw[show A.in1.handled=none from hh];refine aS (bh (wpAny_throw ?_));refine aS (wpAny_isInstance (T := "StopIteration") (b:=true) ⟨_,df _ rfl,rfl⟩ isSubtype_stop ?_);exact bh (hQ _ (((HB ..).extBut.push _).push _))
end
def Fb:entryFor table "set_iterator.__iter__" = some Builtin.«dict_keyiterator.__iter__»:=
 entryFor_alias (id' := "dict_keyiterator.__iter__") (by kernel_rfl) rfl (by decide +kernel) (by kernel_rfl)
def yu (a:Value):argsOk "set_iterator.__iter__" ⟨[a],[]⟩:=by
 unfold argsOk; rw[signature?_of (id := "set_iterator.__iter__") (n:=['_','_','r','e','t','i','_','_']) (o:=['r','o','t','a','r','e','t','i','_','t','e','s']) (by kernel_rfl) wC]; kernel_rfl
noncomputable abbrev nE (es:Array (Int×Value))(ep:Nat)(t:SetTable):Obj:={ cls:=.type "set",dict:=none,data:=.set es ep t }
section
variable {prog:Program}{w:World}{A:Around}{E:Value->Shared->Prop}{s:Shared}{a I:Addr}{es:Array (Int×Value)}{ep:Nat}{t:SetTable}{l D:am}
def FS (w:World)(l:am):slotAt w l 0=0:=by unfold slotAt; split <;> rfl
def zh (hh:A.handled=none)(hne:a≠I)(ht:TG (!w.params.followText "set-order") l D t)(h1:es.toList.map (·.1)=l.map Int.ofNat) :
  Walks prog w A I [I,a] [I] es.size (λi v=>∃e,(ord w a ep es)[i]? = some e/\v=e.2) (λi h=>h.get? I=some (kW (slotAt w l i) i a es.size ep)/\h.get? a=some (nE es ep t)) where
 sub:=λb hb=>by simp at hb; simp[hb]
 frame:=λ_ _ _ st hk=>⟨hk I (by simp) _ st.1,hk a (by simp) _ st.2⟩
 item:=λi s Q E hi st hQ=>by
  obtain⟨e,e1,e2⟩:=yp (w:=w) (a:=a) (ep:=ep) ht h1 hi;refine Dj st.1 st.2 (ht.fits (gO h1)) ht.plain ht.led e2 λh' g sb=>?_;exact hQ _ h' s.toks ⟨e,e1,rfl⟩ ⟨g,sb.extBut _ _ hne st.2⟩ λb o hb q=>sb.extBut b o (λz=>hb (by simp[z])) q
 done:=λs Q E st hQ=>AB hh st.1 st.2 (ht.fits (gO h1)) ht.plain ht.led (zV ht h1) λh' he=>hQ h' s.toks λb o hb q=>he b o (λz=>hb (by simp[z])) q
 self:=λi s Q E st hQ=>by
  have hT:s.TypeIs (.ref I) "set_iterator":=⟨_,st.1,rfl⟩
  refine wpAny_pyIter_slot hT wf (Hk wf hT Fb ?_ (yu _));show wpAny _ _ (ret (.ref I)) _ _ s;exact bh ⟨_,rfl, "set_iterator",_,hT,kU.lookup,hQ⟩
def y4 (ht:TG (!w.params.followText "set-order") l D t)(h1:es.toList.map (·.1)=l.map Int.ofNat):KdlSrc prog w "set" a a es.size (λi v=>∃e,(ord w a ep es)[i]? = some e/\v=e.2) (λh=>h.get? a=some (nE es ep t)) where
 type:=λ_ hm=>⟨_,hm,rfl⟩
 there:=λ_ hm=>⟨bS hm,bS hm⟩
 keep:=λ_ _ hm hk=>hk a (.inl rfl) _ hm
 notList:=by decide
 notTuple:=by decide
 hint:=λ_ _ _ _ hm hq=>Ay ⟨_,hm,rfl⟩ hq
 iter:=λA s hh hm=>⟨kW 0 0 a es.size ep,_,(λ_ _ hq=>BI hm (ht.fits (gO h1)) ht.plain hq),zh hh (dk (bS hm)) ht h1,⟨by rw[FS]; exact df _ rfl,b7 _ hm⟩⟩
def Aq {T:String}{r d:Addr}{n:Nat}{P:Nat->Value->Prop}{OK:Heap->Prop}{Q:ar->Shared->Prop}(K:KdlSrc prog w T r d n P OK)(hh:A.handled=none)(hok:OK s.heap)(hn:n<=sizeLine)
  (hQ:∀h' tk acc,(∀b o,s.heap.get? b=some o->h'.get? b=some o)->ItemsOf P acc n->Q acc.toList { s with heap:=h',toks:=tk }):wpAny (model prog w) A (collect (.ref r)) Q E s:=by
 unfold collect;refine aS (wpAny_runValue (Ib F.entry_proto_collect ?_));rw[HQ F.plain_proto_collect _];show wpAny _ A.in1 (newList [] >>= λl=>again (.builtin "list.__iadd__" ⟨[l,.ref r],[]⟩)) _ _ s;refine aS (GY ?_);refine bh ⟨plainId_quiet F.plain_list_iadd _,Ib F.entry_list_iadd ?_⟩;rw[HQ F.plain_list_iadd _];show wpAny _ A.in1 (Builtin.List.listExtendWith (.ref s.heap.objs.size) (.ref r) (.ref s.heap.objs.size)) _ _ _;have hlt:=K.there _ hok;refine kdl_extend (R:=λr s'=>match r with
   | .ok (.ret v)=>wpAny (model prog w) A (match v with
    | .ref a=>do
     match (<-load a).data with
     | .seq xs _=>pure xs.toList
     | _=>unsupported "internal:collect"
    | _=>unsupported "internal:collect") Q E s'
   | .ok _=>False
   | .error e=>E e s') (s:={ s with heap:=s.heap.push { cls:=.type "list",data:=.seq ([]:List Value).toArray } }) K hh (K.keep _ _ hok λb _ o e=>b7 _ e) s.heap.objs.size (HK hlt.1) (HK hlt.2) (.ref s.heap.objs.size) 0 (df _ rfl) (λh' tk acc' c' hk hS' hacc=>?_) hn
 show wpAny _ A (load s.heap.objs.size >>= _) _ _ _;refine aS (wpAny_load hS' ?_);exact bh (hQ h' tk acc' (λb o e=>hk b o (dk (bS e)) (b7 _ e)) hacc)
def sorted_set {Q:Value->Shared->Prop}(hh:A.handled=none)(hS:SG (!w.params.followText "set-order") s.heap a l D)
  (h:∀h' tk L (vs:ar) n,(∀b o,s.heap.get? b=some o->h'.get? b=some o)->a<L->h'.get? L=some { cls:=.type "list",data:=.seq vs.toArray n }->IntsAre vs (l.map Int.ofNat)->Q (.ref L) { s with heap:=h',toks:=tk }) :
  wpAny (model prog w) A (call (.builtin "sorted") [.ref a]) Q E s:=by
 obtain⟨es,ep,t,ho,h1,h2,ht⟩:=hS;have hz:=gO h1;have h6:=(mem_b4 ht.mem).1;refine Calls.call_function_entry kind_sorted plain_sorted entry_sorted (args_sorted1 _) ?_;unfold Builtin.«sorted»;refine aS (m:=checkCount "sorted" 1 1 _) (bh ?_);refine aS (Aq (y4 (prog:=prog) (a:=a) (ep:=ep) ht h1) hh ho (small_line (by omega)) λh' tk acc hk hacc=>?_);refine aS (wpAny_newList ?_ (hsz:=by rw[Array.length_toList,hacc.1]; exact small_line (by omega)));have hvs:acc.toList=(ord w a ep es).toList.map (·.2):=by
  apply Hz;intro j;rw[GD,Ii,Ii];by_cases hj:j<acc.size
  .obtain⟨e,e1,e2⟩:=hacc.2 j acc[j] (by simp[hj]);rw[e1,IB hj,e2];rfl
  .have hsz:(ord w a ep es).size<=j:=by rw[pU,<-hacc.1]; omega
   rw[Ja (by omega),Ja hsz];rfl
 have hints:IntsAre acc.toList ((ord w a ep es).toList.map (·.1)):=by
  rw[hvs];have:∀(m:List (Int×Value)),(∀e∈m,∃tk,e.2=.int e.1 tk)->IntsAre (m.map (·.2)) (m.map (·.1)):=by
   intro m;induction m with
   | nil=>intro _; exact IntsAre.nil
   | cons e m ih=>
    intro hm;obtain⟨tk,et⟩:=hm e bQ;rw[GA,GA,et];exact IntsAre.cons _ _ (ih λx hx=>hm x (bN _ hx))
  exact this _ λe he=>h2 e ((sh w a ep es).mem_iff.mp he)
 have hoL:(h'.push (seqObj "list" acc.toList.toArray 0)).get? h'.objs.size=some (seqObj "list" acc.toList.toArray 0):=df _ rfl;have hlen:acc.toList.length<64:=by rw[Array.length_toList,hacc.1]; omega
 refine aS (Hx (Hk slot_list_sort ⟨_,hoL,rfl⟩ entry_list_sort (list_sort_tree hoL hints hlen λout ns' a1 a2 a3=>⟨_,rfl,?_⟩) (args_list_sort _)));have hns:ns'=l.map Int.ofNat:=by
  have p:ns'.Perm (l.map Int.ofNat):=by
   rw[<-h1];exact a2.trans ((sh w a ep es).map _)
  refine ksm_same p a3 ?_;rw[Jb];exact (mem_b4 ht.mem).2.2.imp λh=>Int.ofNat_le.mpr (Iu h)
 subst hns;obtain⟨e,ge⟩:=sortedHeap_at (out:=out) hoL;refine bh ⟨_,rfl,h _ _ h'.objs.size out.toList e (λb o q=>?_) ?_ ?_ a1⟩
 .have hb:b<h'.objs.size:=bS (hk b o q);rw[sortedHeap_old (Ir hb) (by rw[GT]; exact Ht hb)];exact b7 _ (hk b o q)
 .exact bS (hk a _ ho)
 .simpa using ge
end
noncomputable def stp (l:am)(k:Nat):am:=if k∈l then l else ins l k
noncomputable def acc (val:Nat->Nat)(i:Nat):am:=((List.range i).map val).foldl stp []
def De (val:Nat->Nat)(i:Nat):acc val (i+1)=stp (acc val i) (val i):=by
 unfold acc;rw[List.range_succ,HA,List.foldl_append];rfl
section
variable {prog:Program}{w:World}{A:Around}{R:Result->Shared->Prop}{I:Addr}{fp wr:aq}{G:Array GenState->Array GenState->Prop}{n:Nat}{P:Nat->Value->Prop}{St:Nat->Shared->Prop}
def SG.at {b:Bool}{h h':Heap}{a:Addr}{l D:am}(x:SG b h a l D)(e:∀o,h.get? a=some o->h'.get? a=some o):SG b h' a l D:=by
 obtain⟨es,ep,t,ho,r⟩:=x;exact⟨es,ep,t,e _ ho,r⟩
def A3 (b:Bool)(W:WalksS prog w A.in1 I fp wr G n P St)(S:Addr)(hSf:S∉fp)(val:Nat->Nat)(hval:∀i v,P i v->val i<6/\∃t,v=.int (Int.ofNat (val i)) t) :
  ∀(k i:Nat) (s:Shared),n - i=k->i<=n->St i s->SG b s.heap S (acc val i) [] ->
   (∀s',Moved (S::wr) G s s'->SG b s'.heap S (acc val n) []->R (.ok (.ret .none)) s') ->
   codeAny (model prog w) A (.builtin "set.update.loop" ⟨[.ref S,.ref I],[]⟩) R s:=by
 have hSw:S∉wr:=λh=>hSf (W.sub _ h);have hsub:∀b∈wr,b∈S::wr:=λb hb=>bN _ hb;intro k;induction k with
 | zero=>
  intro i s hk hi hst hS hR;have hin:i=n:=by omega
  subst hin;refine Ib F.entry_set_update_loop ?_;rw[HQ IN _];show wpAny _ A.in1 (pyNext (.ref I) >>= _) _ _ s;refine aS (W.done s _ _ hst λs' hm=>?_);show wpAny _ A.in1 (ret Value.none) _ _ s';exact bh (hR s' (hm.mono hsub) (hS.at λo e=>hm.heap S _ hSw e))
 | succ k ih=>
  intro i s hk hi hst hS hR;have hlt:i<n:=by omega
  refine Ib F.entry_set_update_loop ?_;rw[HQ IN _];show wpAny _ A.in1 (pyNext (.ref I) >>= _) _ _ s;refine aS (W.item i s _ _ hlt hst λv s' hP hst' hm=>?_);obtain⟨hv6,t,rfl⟩:=hval i v hP;have hS':SG b s'.heap S (acc val i) []:=hS.at λo e=>hm.heap S _ hSw e;show wpAny _ A.in1 (holding [Value.int (Int.ofNat (val i)) t] (setAdd S (.int (Int.ofNat (val i)) t)) >>= _) _ _ s';refine aS (Hx ?_);unfold setAdd;refine Hx ?_;refine aS ((intKind prog w).pyHash (k:=Int.ofNat (val i)) (intKind_is _ _ _ _) ?_);refine Br (s:={ s' with toks:=s'.toks+1 }) hS' hv6 (λz=>by cases z) λh' r hsb hS2=>?_;have hSi:SG b h' S (acc val (i+1)) []:=by rw[De]; exact hS2
  refine bh ⟨plainId_quiet IN _,ih (i+1) _ (by omega) hlt (W.frame _ s' _ _ hst' (HE _) λb hb o e=>?_) hSi λs'' hm'' hS''=>?_⟩
  .rw[hsb.2 b (λh:b=S=>hSf (by rw[<-h]; exact hb))]; exact e
  .refine hR s'' (Moved.trans W.gtrans ((hm.mono hsub).then_heap (HE _) λb o hb e=>?_) hm'') hS'';rw[hsb.2 b (λh:b=S=>hb (by rw[h]; exact bQ))]; exact e
end
section
variable {prog:Program}{w:World}{A:Around}{E:Value->Shared->Prop}{s:Shared}
def FM (a:Value){Q₁:Value->Shared->Prop}
  (h:Q₁ (.ref s.heap.objs.size) { s with heap:=s.heap.push { cls:=.type "set",dict:=none,data:=.set #[] 0 (.fresh 0 0 (!w.params.followText "set-order")) } }) :
  codeAny (model prog w) A (.call (.builtin "set.__new__") ⟨[.type "set",a],[]⟩) (wants Q₁ E) s:=by
 refine codeAny_of_tree ?_;show wpAny _ A.in1 (do checkBuiltinCall "set.__new__" ⟨[.type "set",a],[]⟩; again (.builtin "set.__new__" ⟨[.type "set",a],[]⟩)) _ _ s;refine aS (wpAny_of_eq (F.newCall_set_1 a) (bh ⟨plainId_quiet F.plain_set_new _,Ib F.entry_set_new ?_⟩));rw[HQ F.plain_set_new _];unfold Builtin.«set.__new__» Builtin.Frozenset.newClass;have hsub:=sub_set_self;obtain⟨hp,g,d,tk,os⟩:=s;dsimp only;wp_walk
 refine wpAny_askSetting (bh ?_);dsimp only;simp only[newObj];refine aS (wpAny_alloc (bh ?_));exact bh h
def zt (b:Bool){h:Heap}{a:Addr}(e:h.get? a=some { cls:=.type "set",dict:=none,data:=.set #[] 0 (.fresh 0 0 b) }):SG b h a [] []:=
 ⟨#[],0,_,e,rfl,λe he=>by simp at he,⟨by decide +kernel,rfl,⟨[],by decide +kernel,rfl,λx hx=>by cases hx⟩,.inl ⟨rfl,by simp[SetTable.fill,SetTable.fresh]⟩,rfl,rfl⟩⟩
set_option maxHeartbeats 3200000 in
def set_list {l:Addr}{items:aC}{ns:am}{Q:Value->Shared->Prop}
  (hh:A.handled=none)(hl:s.heap.IsList l items)(hi:IntsAre items.toList (ns.map Int.ofNat))(h6:∀x∈ns,x<6)
  (h:∀(h':Heap) (tk:Nat),SG (!w.params.followText "set-order") h' s.heap.objs.size (ns.foldl stp []) [] ->
   (∀b o,b<s.heap.objs.size->s.heap.get? b=some o->h'.get? b=some o)->Q (.ref s.heap.objs.size) { s with heap:=h',toks:=tk }) :
  wpAny (model prog w) A (call (.type "set") [.ref l]) Q E s:=by
 have hlen:items.size=ns.length:=by have:=IntsAre.length hi; simpa using this
 have hacc:acc (λi=>ns.getD i 0) items.size=ns.foldl stp []:=by
  unfold acc;have:(List.range items.size).map (λi=>ns.getD i 0)=ns:=by
   rw[hlen];apply Hz;intro j;by_cases hj:j<ns.length
   .simp[hj]
   .simp[Nat.le_of_not_lt hj]
  rw[this]
 obtain⟨c,tl,hmro⟩:=HX.mro;have hmade:=HX.made;have hsub:=HX.sub;refine wpAny_call (codeAny_of_tree ?_);show wpAny _ _ (callAny (.type "set") _) _ _ _;refine bh ⟨Code.quiet_builtin _ (by decide +kernel),Ib F.entry_type_call ?_⟩;rw[Around.under_plain (weight_type_call_type "set" [.ref l] []) rfl];have h1:=HX.notType;have h2:=HX.canCreate;have hct:=F.typeCall_set_1 (.ref l);repeat (any_goals (first | assumption | wp_step))
 refine IS (FM (.ref l) (E:=E) (Q₁:=λobj s₁=>obj=.ref s.heap.objs.size/\s₁={ s with heap:=s.heap.push { cls:=.type "set",dict:=none,data:=.set #[] 0 (.fresh 0 0 (!w.params.followText "set-order")) } }) ⟨rfl,rfl⟩) λr s₁ hr=>?_;cases r with
 | error e=>exact hr
 | ok fl=>
  cases fl with
  | ret obj=>
   obtain⟨rfl,rfl⟩:=hr;generalize hled:(!w.params.followText "set-order")=led at *;have hS:(s.heap.push { cls:=.type "set",dict:=none,data:=.set #[] 0 (.fresh 0 0 led) }).get? s.heap.objs.size=some { cls:=.type "set",dict:=none,data:=.set #[] 0 (.fresh 0 0 led) }:=df _ rfl;have hT:Shared.TypeIs { s with heap:=s.heap.push { cls:=.type "set",dict:=none,data:=.set #[] 0 (.fresh 0 0 led) } } (.ref s.heap.objs.size) "set":=⟨_,hS,rfl⟩
   have hli:=HX.init.lookup;have hbi:=HX.init.bind (.ref s.heap.objs.size);repeat (any_goals (first | assumption | wp_step))
   refine IS (codeAny_call_builtin (R:=wants (λr s₂=>r=.none/\∃h' tk,s₂={ s with heap:=h',toks:=tk }/\SG led h' s.heap.objs.size (ns.foldl stp []) [] /\
     (∀b o,b<s.heap.objs.size->s.heap.get? b=some o->h'.get? b=some o)) E) HX.init.plain F.entry_set_init (check_set_init_1 hT ?_)) λr₂ s₂ hr₂=>?_
   .obtain⟨ol,hol,hcl,nl,hdl⟩:=hl;obtain⟨ocls,odict,odata,oslots⟩:=ol;simp only at hcl hdl;subst hcl; subst hdl;have hol':(s.heap.push { cls:=.type "set",dict:=none,data:=.set #[] 0 (.fresh 0 0 led) }).get? l=some { cls:=.type "list",dict:=odict,data:=.seq items nl,slots:=oslots }:=b7 _ hol;have hsls:=F.sub_list_set;have hslf:=F.sub_list_frozenset;have hne:(Value.type "list" == Value.type "dict")=false:=by decide
    have hl1:(s.heap.push { cls:=.type "set",dict:=none,data:=.set #[] 0 (.fresh 0 0 led) }).IsList l items:=⟨_,hol',rfl,nl,rfl⟩
    unfold Builtin.«set.__init__» noKeywords Builtin.Frozenset.updateFrom;generalize hPI:pyIter=PI;wp_walk
    subst hPI;refine IR hl1 ?_;refine aS (wpAny_runValue ?_);have hlS:l<s.heap.objs.size:=bS hol;have hh3:A.in1.in1.in1.handled=none:=by simp[hh]
    have hneI:l≠(s.heap.push { cls:=.type "set",dict:=none,data:=.set #[] 0 (.fresh 0 0 led) }).objs.size:=by
     rw[GT]; exact dk (Ht hlS)
    have hSf:s.heap.objs.size∉[(s.heap.push { cls:=.type "set",dict:=none,data:=.set #[] 0 (.fresh 0 0 led) }).objs.size,l]:=by
     rw[GT]; simp only[GO,Gz,GL,or_false,not_or];exact⟨dk (HF _),HK hlS⟩
    have hval:∀(i:Nat) (v:Value),items[i]? = some v->(λi=>ns.getD i 0) i<6/\∃t,v=.int (Int.ofNat ((λi=>ns.getD i 0) i)) t:=λi v hv=>by
     have hil:i<ns.length:=by
      have:=(Hs.mp hv).1;omega
     obtain⟨t,et⟩:=IntsAre.int_at hi i v (by rw[Ii]; exact hv);refine⟨?_,t,?_⟩
     .simp only[Gy,Gw hil,Option.getD_some];exact h6 _ (G5 hil)
     .rw[et];simp[hil]
    refine A3 led ((Walks.list hh3 _ l hneI items).toS) s.heap.objs.size
     hSf (λi=>ns.getD i 0) hval (items.size - 0) 0 _ (by omega) (GX _)
     ⟨⟨_,df _ rfl,rfl,rfl⟩,(hl1.push _)⟩ ?hS0 ?hR
    case hS0=>exact zt led (b7 _ hS)
    case hR=>
     intro s' hm hS';rw[hacc] at hS';obtain⟨h',g',d',tk',os'⟩:=s';have eg:g'=s.gens:=hm.gens;have ed:d'=s.drawn:=hm.drawn;have eo:os'=s.os:=hm.os;subst eg; subst ed; subst eo;show wpAny _ _ _ _ _ _;refine bh ?_;show wpAny _ _ (ret Value.none) _ _ _;refine bh ⟨rfl,h',tk',rfl,hS',λb o hb e=>?_⟩;have hb1:b≠s.heap.objs.size:=dk hb;have hb2:b≠(s.heap.push { cls:=.type "set",dict:=none,data:=.set #[] 0 (.fresh 0 0 led) }).objs.size:=by
      rw[GT]; exact dk (Ht hb)
     exact hm.heap b o (by simp only[GO,Gz,GL,or_false,not_or]; exact⟨hb1,hb2⟩) (b7 _ (b7 _ e))
   .cases r₂ with
    | error e=>exact hr₂
    | ok fl₂=>
     cases fl₂ with
     | ret r=>
      obtain⟨rfl,h',tk,rfl,hS',hk'⟩:=hr₂;repeat (any_goals (first | assumption | wp_step))
      exact h _ _ hS' hk'
     | _=>exact hr₂.elim
  | _=>exact hr.elim
end
end St
end
section
namespace L2
open PySem PySem.Spec PyProof.Rows
section
variable {X:Cx}
noncomputable def cw (ns:am):aw:=ns.map λn=>.int (Int.ofNat n)
def xG (K:bq)(te:TE):TE:=λσ H Q=>te σ H λx H1=>∃a ns,x=.ref a/\SqL K H1 a (cw ns)/\(∀n∈ns,n<6)/\∀p,H1 p=none->Q (.ref p) (upd H1 p (.lst (cw (ns.foldl St.stp []))))
theorem vi:∀{ns:am} {its:ar},Vals (cw ns) its->IntsAre its (ns.map Int.ofNat)
 | [],_,h=>by cases h; exact .nil
 | n::ns,_,h=>by
  cases h with
  | cons h1 h2=>
   obtain⟨t,rfl⟩:=(show ∃t,_=Value.int (Int.ofNat n) t from h1)
   exact .cons _ _ (vi h2)
theorem xn:∀{ns:am} {its:ar},IntsAre its (ns.map Int.ofNat)->Vals (cw ns) its
 | [],_,h=>by cases h; exact .nil
 | n::ns,_,h=>by
  cases h with
  | cons _ t h=>exact .cons ⟨t,rfl⟩ (xn h)
def BE {e:Expr}{te:TE}{p1 p2 p3 p4:Pos}(hc:X.calm=true)(he:PE X e te)(g1:Gl X "sorted")(m1:X.mg "sorted" = none)(b1:bootBuiltins "sorted" = some (.builtin "sorted"))(g2:Gl X "set")(m2:X.mg "set" = none)(b2:bootBuiltins "set" = some (.type "set"))
  (hs1:starEach [.Call (.Name "set" p2) [e] [] p3] X.env=[(false,eval (.Call (.Name "set" p2) [e] [] p3) X.env)])(hs2:starEach [e] X.env=[(false,eval e X.env)]) :
  PE X (.Call (.Name "sorted" p1) [.Call (.Name "set" p2) [e] [] p3] [] p4) (xG X.K te):=by
 intro pins s σ H Q I h;have hh:=I.ok.hd hc;refine G9 (gr I g1 m1 b1 ?_);refine PyProof.Rows.callWith_builtin1 ?_ hs1 rfl;rw[hs1];show wpAny _ _ (spliced ((false,eval (.Call (.Name "set" p2) [e] [] p3) X.env)::[])) _ _ s;refine HV ?_;refine G9 (gr I g2 m2 b2 ?_);refine GU ?_ hs2 rfl;rw[hs2];show wpAny _ _ (spliced ((false,eval e X.env)::[])) _ _ s;refine HV (bi (he pins s σ H _ I h) λu s1 hZz=>?_);obtain⟨x,H1,I1,r1,a,ns,ex,hx,h6,q⟩:=hZz;subst ex;cases r1;refine Ij ?_;obtain⟨its,rv,pl,hz⟩:=I1.list hx;refine St.set_list hh pl.isList (by simpa using vi rv) h6 λh' tk hS hk=>?_;refine Ij ?_;refine St.sorted_set hh hS λh'' tk' L vs n hk' hlt hget hints=>?_;refine⟨.ref L,upd H1 L (.lst (cw (ns.foldl St.stp []))),I1.laid (t':=tk') (λb o qb=>hk' b o (hk b o (bS qb) qb)) (Iu hlt) ⟨?_,vs,n,xn hints,hget⟩,rfl,q L (I1.hok.fresh (Iu hlt))⟩;have:=hS;obtain⟨es,ep,t,_,h1,_,ht⟩:=this;rw[cw,Gx];exact St.small_line (St.mem_b4 ht.mem).1
end
section
variable {X:Cx}
def EJ:OpR X (binaryOp .Add) (λx y H Q=>∃a b ys,x=.ref a/\y=.ref b/\SqT X.K H a []/\SqT X.K H b ys/\Q (.ref b) H):=by
 intro pins s σ H x y v u Q I rx ry h;obtain⟨a,b,ys,rfl,rfl,ha,hb,q⟩:=h;cases rx;cases ry;obtain⟨its,r1,⟨⟨cls,dd,data,sl⟩,ho,hc,n,hd⟩,_⟩:=I.tuple ha;obtain⟨its2,r2,⟨⟨cls2,dd2,data2,sl2⟩,ho2,hc2,n2,hd2⟩,_⟩:=I.tuple hb;simp only at hc hd hc2 hd2;subst hc hd hc2 hd2;cases r1;exact concat_meets ⟨_,ho,rfl⟩ ⟨_,ho2,rfl⟩ noFill_tuple_add seq_tuple_add IU IM (IF _ _)
  (tuple_addW0 a b #[] its2.toArray n n2 dd dd2 sl sl2 rfl) ⟨ho,ho2,⟨.ref b,H,I,rfl,q⟩⟩
def zF (l:Addr)(items:aC)(n:Nat)(b:Addr)(items2:aC)(n2:Nat)(dd2:aF)(sl2:Array aB)(hs0:¬(!items.isEmpty&&Builtin.List.listTooLong (items.size+items2.size))=true)(hs1:items.size<=sizeLine)(hs2:items.size+items2.size<=sizeLine+1) :
  Meets (Builtin.«list.extend» ⟨[.ref l,.ref b],[]⟩) (λ_ R s=>s.heap.get? l=some { cls:=.type "list",dict:=none,data:=.seq items n,slots:=#[] }/\s.heap.get? b=some { cls:=.type "tuple",dict:=dd2,data:=.seq items2 n2,slots:=sl2 }/\R (.ok (.ret Value.none)) { s with heap:=s.heap.update l (Obj.mapSeq λx=>x++items2),toks:=s.toks }):=
 .of_wp λprog w A R s h=>by
  obtain⟨hp,g,d,tk,os⟩:=s; obtain⟨hl,hb,h⟩:=h; have f1:=AutoSeq1.idx_int; have f2:=AutoSeq1.sub_tuple_tuple; have f3:=AutoSeq1.sub_list_list; have f4:=AutoSeq1.sub_tuple_list; have f5:=AutoSeq1.sub_list_tuple;have hz':(items++items2).size<=sizeLine+1:=by rw[Array.size_append]; exact hs2
  wp_walk using (wpAny_updateSeq hl rfl (hz:=hs1) (_hz':=hz')),wpAny_loadPart' hl,wpAny_loadPart' hb; exact⟨_,rfl,h⟩
def i6 (K:bq):V->aw->Hp->VK->Prop:=λx vs H Q=>∃l b xs zs,x=.ref l/\vs=[.ref b]/\H l=some (.lst xs)/\SqT K H b zs/\xs.length+zs.length<=sizeLine/\Q .non (upd H l (.lst (xs++zs)))
def Du:pb X "list.extend" (i6 X.K):=by
 intro pins s σ H x vs v us Q I rx rv h;obtain⟨l,b,xs,zs,rfl,rfl,hH,hB,hz,q⟩:=h;cases rx;obtain⟨u,rfl,ru⟩:=rv.one;cases ru;obtain⟨z,its,n,r,hl,e⟩:=I.lstM hH;obtain⟨its2,r2,⟨⟨cls2,dd2,data2,sl2⟩,ho2,hc2,n2,hd2⟩,_⟩:=I.tuple hB;simp only at hc2 hd2;subst hc2 hd2;have hl2:=r2.length;have hsz:its.toArray.size+its2.toArray.size<=sizeLine:=by rw[Gv,Gv]; omega
 have hlong:¬(!its.toArray.isEmpty&&Builtin.List.listTooLong (its.toArray.size+its2.toArray.size))=true:=by
  rw[uN hsz,Bool.and_false];exact GR
 refine HW F.slot_list_extend ⟨_,e,rfl⟩ F.entry_list_extend (F.args_list_extend_2 _ _)
  (zF l its.toArray n b its2.toArray n2 dd2 sl2 hlong (by rw[Gv]; omega) (by omega)) ⟨e,ho2,?_⟩
 refine⟨.non,_,I.lset (its':=its++its2) hH e (by simp) (r.append r2) ?_,rfl,q⟩;rw[GG];omega
def Bp (te:TE):TE:=λσ H Q=>te σ H λx H1=>∃j:Int,x=.int j/\0<=j/\j<=16777216/\∀p,H1 p=none->Q (.ref p) (upd H1 p (.lst (cw (List.range j.toNat))))
def yf {e:Expr}{te:TE}{p1 p2 p3 p4:Pos}(hc:X.calm=true)(he:PE X e te)(g1:Gl X "list")(m1:X.mg "list" = none)(b1:bootBuiltins "list" = some (.type "list"))(g2:Gl X "range")(m2:X.mg "range" = none)(b2:bootBuiltins "range" = some (.type "range"))
  (hs1:starEach [.Call (.Name "range" p2) [e] [] p3] X.env=[(false,eval (.Call (.Name "range" p2) [e] [] p3) X.env)])(hs2:starEach [e] X.env=[(false,eval e X.env)]) :
  PE X (.Call (.Name "list" p1) [.Call (.Name "range" p2) [e] [] p3] [] p4) (Bp te):=by
 intro pins s σ H Q I h;have hh:=I.ok.hd hc;refine G9 (gr I g1 m1 b1 ?_);refine GU ?_ hs1 rfl;rw[hs1];show wpAny _ _ (spliced ((false,eval (.Call (.Name "range" p2) [e] [] p3) X.env)::[])) _ _ s;refine HV ?_;refine G9 (gr I g2 m2 b2 ?_);refine GU ?_ hs2 rfl;rw[hs2];show wpAny _ _ (spliced ((false,eval e X.env)::[])) _ _ s;refine HV (bi (he pins s σ H _ I h) λu s1 hZz=>?_);obtain⟨x,H1,I1,r1,j,ex,j0,j1,q⟩:=hZz;subst ex;obtain⟨t,rfl⟩:=(show ∃t,u=Value.int j t from r1)
 refine Ij ?_;refine call_range_1 ?_;refine Ij ?_;refine call_list_range (n:=j.toNat) hh (IsRange.new ..) (small_one (by omega) (by omega) (by omega) (by omega)) ?_ (by omega) λh' tk acc c kp ge it=>?_
 .simp[Builtin.Range.rangeSize];omega
 rw[GT] at ge ⊢;refine⟨.ref (s1.heap.objs.size+1),upd H1 (s1.heap.objs.size+1) (.lst (cw (List.range j.toNat))),I1.laid (t':=tk) (λb o qb=>kp b o (b7 _ qb)) (HE _) ⟨?_,acc.toList,c,?_,by simpa using ge⟩,rfl,q _ (I1.hok.fresh (HE _))⟩
 .rw[cw,Gx,List.length_range,HL]; omega
 .have:∀(m:Nat) (l:ar),l.length=m->(∀(i:Nat) (v:Value),l[i]? = some v->∃t,v=Value.int (i:Int) t)->Vals (cw (List.range m)) l:=by
   intro m;induction m with
   | zero=>intro l hl _; rw[Hy.mp hl]; exact .nil
   | succ m ih=>
    intro l hl hv;have hne:l≠[]:=λz=>by rw[z] at hl; cases hl
    rw[<-Ie hne,List.range_succ];unfold cw;rw[HA];refine (ih l.dropLast (by rw[List.length_dropLast]; omega) λi v hi=>hv i v ?_).append (.cons ?_ .nil)
    .rw[List.getElem?_dropLast] at hi;split at hi
     .exact hi
     .cases hi
    .have:=hv m (l.getLast hne) (by rw[List.getLast_eq_getElem,Gw (by omega)]; simp[hl]);exact this
  refine this j.toNat acc.toList (by rw[Array.length_toList]; exact it.1) λi v hi=>?_;obtain⟨t,et⟩:=it.2 i v (by rw[<-Ii]; exact hi);exact⟨t,by rw[et]; simp⟩
def zu {prog:Program}{w:World}{A:Around}{E:Value->Shared->Prop}{s:Shared}{l:Addr}{items:aC}{n:Nat}{k:Int}{t:Tok}{v:Value}{Q:Unit->Shared->Prop}(ho:s.heap.get? l=some { cls:=.type "list",data:=.seq items n })
  (h0:0<=k)(hfit:k<2 ^ 63)(hn:k<items.size)(hQ:Q () { s with heap:=s.heap.update l (Obj.mapSeq (·.setIfInBounds k.toNat v)) }):wpAny (model prog w) A (setItem (.ref l) (.int k t) v) Q E s:=by
 have hl:s.heap.IsList l items:=PySem.IsL.isList ho;unfold setItem;try with_reducible refine Hx ?_
 first | refine aS (bh ?_) | skip
 refine aS (wpAny_sequenceKey hl.typeIs (by decide) ?_);refine aS (wpAny_callSpecial?_slot (name:=Str.ofString "__setitem__") hl.typeIs slot_list_setitem
  (Hk slot_list_setitem hl.typeIs entry_list_setitem ?_ (args_list_setitem _ _ _)))
 show wpAny _ _ (Builtin.List.listSubscript? (.int k t) >>= _) _ _ s;refine aS (wpAny_listSubscript_int (fitsIndex_of h0 hfit) ?_);clear hfit;obtain⟨j,rfl⟩:=Int.eq_ofNat_of_zero_le h0;have hj:j<items.size:=by omega
 have hx':items[j]? = some items[j]:=IB hj;show wpAny _ _ ((seqItemAt l j >>= λr=>pure (r.map (j,·))) >>= _) _ _ s;refine aS (aS (wpAny_seqItemAt ho rfl (bh ?_)));rw[hx'];show wpAny _ _ (setSeqItemAt l j v >>= _) _ _ s;refine aS (wpAny_setSeqItemAt ho rfl ?_);first
  | exact aS (bh (bh ⟨.none,rfl,bh hQ⟩))
  | exact bh ⟨.none,rfl,bh hQ⟩
def jC (to ti tv:TE):TS:=λD σ H=>tv σ H λy H1=>to σ H1 λx H2=>ti σ H2 λk H3=>∃l xs i,x=.ref l/\k=.int i/\H3 l=some (.lst xs)/\0<=i/\i<xs.length/\D.nx σ (upd H3 l (.lst (xs.set i.toNat y)))
def xX {o i value:Expr}{to ti tv:TE}{pos' pos:Pos}(ho:PE X o to)(hi:PE X i ti)(hv:PE X value tv)(hs:swapsWith value (some (.Subscript o i pos')) pos.line X.env=pure false):PS X (.Assign [.Subscript o i pos'] value pos) (jC to ti tv):=by
 intro pins s σ H D I h;refine wpAny_Assign_Subscript (bi (hv pins s σ H _ I h) λu s1 ⟨y,H1,I1,ry,q⟩=>bi (ho pins s1 σ H1 _ I1 q) λov s2 ⟨x,H2,I2,rx,q2⟩=>bi (hi pins s2 σ H2 _ I2 q2) λiv s3 hZz=>?_) hs;obtain⟨k,H3,I3,rk,l,xs,j,ex,ek,hH,j0,j1,qn⟩:=hZz;subst ex ek;cases rx;obtain⟨t,rfl⟩:=(show ∃t,iv=Value.int j t from rk)
 obtain⟨z,its,n,r,hl,e⟩:=I3.lstM hH;have hz:(xs.length:Int)<=16777216:=by
  have:=z;rw[HL] at this;omega
 refine zu e j0 (by omega) (by rw[Gv]; omega) ?_;exact⟨σ,_,I3.lset (its':=its.set j.toNat u) (t':=s3.toks) hH e (by simp) (Vals.set ry j.toNat r) (by rw[G3]; exact z),qn⟩
end
section
variable {X:Cx}
def Gg {prog:Program}{w:World}{A:Around}{E:Value->Shared->Prop}{s:Shared}{t sl:Addr}{items:aC}{vl vu:Value}{lo hi:Option Int}{Q:Value->Shared->Prop}(ht:IsTup s.heap t items)(hs:s.heap.IsSliceOf sl vl vu .none)(pl:IsPart vl lo)(pu:IsPart vu hi)
  (hw:HT.sIx items.size 0 lo=0/\HT.sIx items.size items.size hi=items.size)(h:Q (.ref t) s):wpAny (model prog w) A (getItem (.ref t) (.ref sl)) Q E s:=by
 obtain⟨os,hos,hcs,hds⟩:=id hs;have hTs:s.TypeIs (.ref sl) "slice":=⟨os,hos,hcs⟩
 unfold getItem;try with_reducible refine Hx ?_
 first | refine aS (bh ?_) | skip
 refine aS (wpAny_sequenceKey ht.typeIs (by decide) ?_);refine aS (wpAny_callSpecial?_slot (name:=Str.ofString "__getitem__") ht.typeIs GZ
  (Hk GZ ht.typeIs entry_tuple_getitem ?_ (args_tuple_getitem _ _)))
 show wpAny _ _ (Builtin.Tuple.tupleItemsOf (.ref t) >>= _) _ _ s;refine aS (tupleItemsOf_ ht ?_);refine aS (wpAny_typeOf hTs ?_);rw[if_pos (by decide)];refine aS (HT.sliceApplied_gen hs pl pu ?_);have hyes:(((HT.sIx items.size 0 lo:Nat):Int) == 0&&(1:Int) == 1&&(HT.sIx items.size items.size hi - HT.sIx items.size 0 lo) == items.size)=true:=by
  rw[hw.1,hw.2]; simp
 show wpAny _ _ (if (((HT.sIx items.size 0 lo:Nat):Int) == 0&&(1:Int) == 1&&(HT.sIx items.size items.size hi - HT.sIx items.size 0 lo) == items.size)=true then _ else _) _ _ s;rw[if_pos hyes];unfold Builtin.Tuple.tupleIsExact;refine aS (aS (wpAny_typeOf ht.typeIs (bh ?_)));rw[if_pos (by decide)];refine aS (wpAny_rule (aS (bh (bh ⟨_,rfl,bh h⟩))))
def mB (K:bq):V->Option Int->Option Int->Hp->VK->Prop:=λx lo hi H Q=>∃a xs,x=.ref a/\SqT K H a xs /\
 (HT.sIx xs.length 0 lo=0/\HT.sIx xs.length xs.length hi=xs.length->Q (.ref a) H) /\
 (¬(HT.sIx xs.length 0 lo=0/\HT.sIx xs.length xs.length hi=xs.length)->∀p,H p=none->Q (.ref p) (upd H p (.tup (dE xs lo hi))))
def AC:l7 X (mB X.K):=by
 intro pins s σ H x v vl vu lo hi sl Q I rx hs pl pu h;obtain⟨a,xs,rfl,hx,q1,q2⟩:=h;by_cases hw:HT.sIx xs.length 0 lo=0/\HT.sIx xs.length xs.length hi=xs.length
 .cases rx;obtain⟨its,r,ht,hz⟩:=I.tuple hx;have hlen:its.toArray.size=xs.length:=by rw[Gv]; exact r.length.symm
  refine⟨"tuple",_,GZ.lookup,ht.typeIs,?_⟩;exact Gg ht hs pl pu (by rw[hlen]; exact hw) ⟨.ref a,H,I,rfl,q1 hw⟩
 .exact Dh pins s σ H _ v vl vu lo hi sl Q I rx hs pl pu ⟨a,xs,rfl,hx,hw,q2 hw⟩
def FN {M:Model}{A:Around}{E:Value->Shared->Prop}{s:Shared}{β:Type}{n:Nat}(f:Nat->β->Sem (ForInStep β))(I:Nat->β->Shared->Prop)(Q:β->Shared->Prop)
  (turn:∀i b s,i<n->I i b s->wpAny M A (f i b) (λr s'=>match r with | .yield b'=>I (i+1) b' s' | .done b'=>Q b' s') E s)
  (fin:∀b s,I n b s->Q b s)(b:β)(h:I 0 b s):wpAny M A (forIn [0:n] b f) Q E s:=by
 rw[Std.Legacy.Range.forIn_eq_forIn_range'];refine wpAny_forIn_list f (λrest b s=>∃i,rest=List.range' i (n - i)/\i<=n/\I i b s) Q ?_ ?_ _ b ⟨0,by simp[Std.Legacy.Range.size],GX _,h⟩
 .rintro x rest b s ⟨i,e,hi,hI⟩;have hlt:i<n:=by
   have:=congrArg List.length e;simp at this;omega
  have e2:n - i=(n - (i+1))+1:=by omega
  rw[e2,Iw] at e;obtain⟨rfl,rfl⟩:=List.cons.inj e;refine Ho (turn x b s hlt hI) (λr s' hr=>?_) λ_ _ h'=>h';cases r with
  | done b'=>exact hr
  | yield b'=>exact⟨x+1,rfl,hlt,hr⟩
 .rintro b s ⟨i,e,hi,hI⟩;have:i=n:=by
   have:=congrArg List.length e;simp at this;omega
  subst this;exact fin b s hI
def Ep (l:Addr)(items:aC)(n:Nat)(dd:aF)(sl:Array aB)(x:Value)(e:Value->Bool)(j:Nat)(hj:j<items.size)
  (hit:e items[j]=true)(hno:∀m (hm:m<items.size),m<j->e items[m]=false) :
  Meets (Builtin.«tuple.index» ⟨[.ref l,x],[]⟩)
   (λA R s=>s.heap.get? l=some { cls:=.type "tuple",dict:=dd,data:=.seq items n,slots:=sl }/\(∀y,y∈items->SeqAt.EqAt A.in1 s y x (e y))/\R (.ok (.ret (.int j s.toks))) { s with toks:=s.toks+1 }):=
 .of_wp λprog w A R s h=>by
  obtain⟨hp,g,d,tk,os⟩:=s; obtain⟨hl,he,h⟩:=h;wp_walk using Hm hl,FN _ (λi b s'=>b.1=none/\s'=⟨hp,g,d,tk,os⟩/\i<=j) _
  case turn=>
   rintro i b s' hi ⟨hb,rfl,hij⟩;have hi':i<items.size:=by omega
   have e1:items[i]? = some items[i]:=by simp[hi']
   rw[e1];refine aS (he _ (Array.getElem_mem hi') prog w _ _ ?_);by_cases hx:i=j
   .subst hx;rw[hit];wp_walk
    exact⟨_,rfl,h⟩
   .rw[hno i hi' (by omega)];wp_walk
    exact⟨rfl,rfl,by omega⟩
  case fin=>
   rintro b s' ⟨hb,rfl,hij⟩;omega
  case h=>exact⟨rfl,rfl,GX _⟩
def i4 (K:bq):V->aw->Hp->VK->Prop:=λx vs H Q=>∃a xs y j,x=.ref a/\vs=[y]/\SqT K H a xs/\flatV y=true/\xs.all flatV=true/\(xs.findIdx? λz=>eqV z y)=some j/\Q (.int (j:Nat)) H
def EY:qu X "tuple.index" (i4 X.K):=by
 intro pins s σ H x vs v us Q I rx rv h;obtain⟨a,xs,y,j,rfl,rfl,hx,fy,fs,hf,q⟩:=h;cases rx;cases rv with
 | @cons _ u _ us ry rn=>
 cases rn;obtain⟨its,r,⟨⟨cls,dd,data,sl⟩,ho,hc,n,hd⟩,_⟩:=I.tuple hx;simp only at hc hd;subst hc hd;obtain⟨hj,hp,hq⟩:=Hf.mp hf;have len:=r.length;have at':∀i (h1:i<xs.length) (h2:i<its.toArray.size),nN y its.toArray[i]=eqV xs[i] y:=λi h1 h2=>by
  obtain⟨w,e,rw'⟩:=r.get (i:=i) (x:=xs[i]) (by simp[h1]);have e2:its.toArray[i]=w:=by
   have h2':i<its.length:=by simpa using h2
   rw[Gw h2'] at e;simpa using cO e
  rw[e2];exact wa rw' (dR fs _ (G5 h1))
 have hj2:j<its.toArray.size:=by rw[Gv]; omega
 refine HW PySem.F.slot_tuple_index ⟨_,ho,rfl⟩ PySem.F.entry_tuple_index (PySem.F.args_tuple_index_2 _ _)
  (Ep a its.toArray n dd sl u (nN y) j hj2 (by rw[at' j hj hj2]; exact hp) λm hm hl=>?_)
  ⟨ho,λz hz=>wY ry fy r fs z (by simpa using hz),⟨.int (j:Nat),H,I.tok _,⟨_,rfl⟩,q⟩⟩
 have hm':m<xs.length:=by omega
 rw[at' m hm' hm];simpa using hq m hl
def CA:fillsNumberSlot (.type "tuple") "mul" = pure false:=
 PySem.fillsNumberSlot_seq (id := "tuple.__mul__") (r:=some (.builtin "tuple.__rmul__")) HY.lookup (by decide +kernel) PySem.F.slot_tuple_rmul.lookup (by decide +kernel)
def AQ:seqRepeat? (.type "tuple")=pure (some (.builtin "tuple.__mul__")):=by
 unfold seqRepeat?;rw[PySem.seqSlot_of (T := "tuple") (name := "__mul__") (id := "tuple.__mul__") HY.lookup (by decide +kernel),PySem.seqSlot_of (T := "tuple") (name := "__rmul__") (id := "tuple.__rmul__") PySem.F.slot_tuple_rmul.lookup (by decide +kernel)];rfl
def DJ (a:Int)(t:Tok)(l:Addr)(items:aC)(n:Nat)(dd:aF)(sl:Array aB) :
  Meets (Builtin.«int.__rmul__» ⟨[.int a t,.ref l],[]⟩) (λ_ R s=>s.heap.get? l=some { cls:=.type "tuple",dict:=dd,data:=.seq items n,slots:=sl }/\R (.ok (.ret Value.notImplemented)) s):=
 .of_wp λprog w A R s h=>by obtain⟨hp,g,d,tk,os⟩:=s; obtain⟨hl,h⟩:=h; wp_walk; exact⟨_,rfl,h⟩
def xE (l:Addr)(items:aC)(n:Nat)(dd:aF)(sl:Array aB)(u:Tok) :
  Meets (Builtin.«tuple.__mul__» ⟨[.ref l,.int 1 u],[]⟩) (λ_ R s=>s.heap.get? l=some { cls:=.type "tuple",dict:=dd,data:=.seq items n,slots:=sl }/\R (.ok (.ret (.ref l))) s):=
 .of_wp λprog w A R s h=>by
  obtain⟨hp,g,d,tk,os⟩:=s; obtain⟨hl,h⟩:=h;wp_walk using Hm hl
  exact⟨_,rfl,h⟩
def Ey (l:Addr)(items:aC)(n:Nat)(dd:aF)(sl:Array aB)(x:Int)(u:Tok)(h0:¬(x < -(2 ^ 63)||x ≥ 2 ^ 63)=true)(h1:¬(items.isEmpty||x == 1)=true)(h2:¬(x<=0||items.isEmpty)=true)
  (h3:¬items.size * x > (2 ^ 63 - 1) / 8)(h4:¬Builtin.Tuple.tupleTooMany (items.size * x)=true)(h5:(List.foldl (·++·) #[] (List.replicate x.toNat items)).size<=sizeLine) :
  Meets (Builtin.«tuple.__mul__» ⟨[.ref l,.int x u],[]⟩) (λ_ R s=>s.heap.get? l=some { cls:=.type "tuple",dict:=dd,data:=.seq items n,slots:=sl }/\R (.ok (.ret (.ref s.heap.objs.size))) { s with heap:=s.heap.push { cls:=.type "tuple",data:=.seq (List.foldl (·++·) #[] (List.replicate x.toNat items)) } }):=
 .of_wp λprog w A R s h=>by
  obtain⟨hp,g,d,tk,os⟩:=s; obtain⟨hl,h⟩:=h;wp_walk using Hm hl
  rw[if_neg h0];refine aS (tupleItemsOf_ (t:=l) (items:=items) ⟨_,hl,rfl,n,rfl⟩ ?_);dsimp only;rw[if_neg h1,if_neg h2,if_neg h3,if_neg h4];wp_walk
  exact⟨_,rfl,h⟩
def mF (K:bq):R2:=λx y H Q=>∃a k xs,x=.ref a/\y=.int k/\SqT K H a xs/\xs≠[]/\1<=k/\k<=1000/\xs.length * k.toNat<=sizeLine /\
 (k=1->Q (.ref a) H)/\(k≠1->∀p,H p=none->Q (.ref p) (upd H p (.tup (List.replicate k.toNat xs).flatten)))
def Av:OpR X (binaryOp .Mult) (mF X.K):=by
 intro pins s σ H x y v u Q I rx ry h;obtain⟨a,k,xs,rfl,rfl,hx,hne,k1,k2,hz,q1,q2⟩:=h;cases rx;obtain⟨t,rfl⟩:=ry;obtain⟨its,r,⟨⟨cls,dd,data,sl⟩,ho,hc,n,hd⟩,hz0⟩:=I.tuple hx;simp only at hc hd;subst hc hd;have hl:=r.length;have hne':its≠[]:=by
  intro e;subst e;exact hne (Hy.mp hl)
 have em:its.toArray.isEmpty=false:=by cases its with | nil=>exact absurd rfl hne' | cons=>rfl
 refine wpAny_binaryOp_repeat_ref (T := "tuple") (U := "int") (by decide) ⟨_,ho,rfl⟩ (λs'=>typeIs_int s' k t) CA PySem.F.fills_int_mul PySem.F.slot_int_rmul AQ PySem.F.slot_int_index.lookup
  (HW PySem.F.slot_int_rmul (typeIs_int s k t) PySem.F.entry_int_rmul (PySem.F.args_int_rmul_2 _ _) (DJ k t a its.toArray n dd sl) ⟨ho,rfl,⟨_,ho,rfl⟩,?_⟩)
 by_cases hk:k=1
 .subst hk;exact HW HY ⟨_,ho,rfl⟩ PySem.F.entry_tuple_mul (PySem.F.args_tuple_mul_2 _ _) (xE a its.toArray n dd sl t) ⟨ho,⟨.ref a,H,I,rfl,q1 rfl⟩⟩
 .have f0:List.foldl (λx1 x2=>x1++x2) #[] (List.replicate k.toNat its.toArray)=(List.replicate k.toNat its).flatten.toArray:=by
   have:=sS its k.toNat [];rw[List.nil_append] at this;exact this
  have sz:(its.length:Int) * k<=sizeLine:=by
   have:((its.length * k.toNat:Nat):Int)<=(sizeLine:Nat):=by rw[<-hl]; exact_mod_cast hz
   rw[Int.natCast_mul,G2 (by omega)] at this;exact this
  refine HW HY ⟨_,ho,rfl⟩ PySem.F.entry_tuple_mul (PySem.F.args_tuple_mul_2 _ _)
   (Ey a its.toArray n dd sl k t (by simp; omega) (by rw[em]; simpa using hk) (by rw[em]; simp; omega) ?_ ?_ ?_) ⟨ho,?_⟩
  .have:((sizeLine:Nat):Int)<=(2 ^ 63 - 1) / 8:=by decide
   rw[Gv];omega
  .rw[Gv];unfold Builtin.Tuple.tupleTooMany;simp only[GV];omega
  .rw[f0,Gv,sP,Nat.mul_comm,<-hl]; exact hz
  .rw[f0];refine⟨.ref _,_,I.laid (t':=s.toks) (o:=.tup (List.replicate k.toNat xs).flatten) (λb ob q=>b7 _ q) (bC _) ?_,rfl,q2 hk _ (I.hok.fresh (bC _))⟩;exact⟨by rw[sP,Nat.mul_comm]; exact hz,_,r.rep k.toNat,TupN.new _ _⟩
end
section
variable {prog:Program}{w:World}{A:Around}{E:Value->Shared->Prop}{s:Shared}{it t:Addr}{i:Nat}{items:aC}
def xc {Q:Value->Shared->Prop}(hit:s.heap.IsTupleIter it t i)
  (h:wpAny (model prog w) A.in1 (Builtin.«tuple_iterator.__next__» ⟨[.ref it],[]⟩) (λfin s'=>∃v,fin=.done (.ret v)/\Q v s') E s):wpAny (model prog w) A (Builtin.SmallTypes.nextOf (.ref it)) Q E s:=by
 unfold Builtin.SmallTypes.nextOf;refine aS (wpAny_callSpecial?_slot (name:=Str.ofString "__next__") hit.typeIs Jc (Hk Jc hit.typeIs PySem.F.entry_tuple_iterator_next ?_ (PySem.F.args_tuple_iterator_next_1 _)));refine Ho h (λfin s' ⟨v,e,q⟩=>⟨v,e,bh q⟩) λ_ _ e=>e
def AH {x:Value}{Q:Value->Shared->Prop}(hit:s.heap.IsTupleIter it t i)(ht:s.heap.IsTuple t items)(hx:items[i]? = some x)(hQ:∀h',h'.IsTupleIter it t (i+1)->Heap.SameBut it s.heap h'->Q x { s with heap:=h' }):wpAny (model prog w) A (Builtin.SmallTypes.nextOf (.ref it)) Q E s:=by
 refine xc hit ?_;obtain⟨o,ho,hc,hd⟩:=id hit;obtain⟨ol,hol,_,nl,hdl⟩:=ht;show wpAny _ _ (field (.ref it) 0 >>= _) _ _ s;refine aS (HM ho hd (x:=.ref t) rfl ?_);show wpAny _ _ (if (Value.ref t == Value.none)=true then _ else _) _ _ s;rw[if_neg (show ¬((Value.ref t == Value.none)=true) from GR)];show wpAny _ _ (field (.ref it) 1 >>= _) _ _ s;refine aS (HM ho hd (x:=.int i 0) rfl ?_);show wpAny _ _ (seqItems? (.ref t) >>= _) _ _ s;refine aS (wpAny_seqItems hol hdl ?_);simp only[Int.toNat_natCast,hx];refine aS (JB ho hd (by simp) (bh ⟨x,rfl,hQ _ ?_ (HB ..)⟩));exact⟨_,HH _ ho (Jk (JC hd _)),(Obj.cls_mapFields ..).trans hc,by rw[JC hd]; simp[rawInt]⟩
def tu {Q:Value->Shared->Prop}(hh:A.handled=none)(hit:s.heap.IsTupleIter it t i)(ht:s.heap.IsTuple t items)(hx:items[i]? = none)
  (hE:∀h' e,Heap.ExtBut it s.heap h'->(∃o,h'.get? e=some o/\o.cls=.type "StopIteration")->E (.ref e) { s with heap:=h' }):wpAny (model prog w) A (Builtin.SmallTypes.nextOf (.ref it)) Q E s:=by
 refine xc hit ?_;obtain⟨o,ho,hc,hd⟩:=id hit;obtain⟨ol,hol,_,nl,hdl⟩:=ht;show wpAny _ _ (field (.ref it) 0 >>= _) _ _ s;refine aS (HM ho hd (x:=.ref t) rfl ?_);show wpAny _ _ (if (Value.ref t == Value.none)=true then _ else _) _ _ s;rw[if_neg (show ¬((Value.ref t == Value.none)=true) from GR)];show wpAny _ _ (field (.ref it) 1 >>= _) _ _ s;refine aS (HM ho hd (x:=.int i 0) rfl ?_);show wpAny _ _ (seqItems? (.ref t) >>= _) _ _ s;refine aS (wpAny_seqItems hol hdl ?_);simp only[Int.toNat_natCast,hx];refine aS (wpAny_rule (aS (JB ho hd (by simp) ?_)));show wpAny _ _ (newExc (.type "StopIteration") [] >>= _) _ _ _;refine aS ?_;simp only[newExc,newTuple];refine aS (GY ?_ (by size_fits));refine aS (m:=firstArgMember _ _) (wpAny_of_eq (a:=Value.none) (by first | rfl | (simp only[firstArgMember]; rfl)) ?_);refine GY ?_ (by size_fits);simp only[raiseNew];refine aS (wpAny_handled ?_);rw[show A.in1.handled=none from hh];exact aS (bh (wpAny_throw (hE _ _ (((HB ..).extBut.push _).push _) ⟨_,df _ rfl,rfl⟩)))
def jJ (hh:A.handled=none)(it t:Addr)(hne:t≠it)(items:aC) :
  Draws prog w A it [it,t] items.size (λi v=>items[i]? = some v) (λi h=>h.IsTupleIter it t i/\h.IsTuple t items) where
 live:=λ_ _ st=>let ⟨o,ho,_⟩:=st.1; ⟨o,ho⟩
 frame:=λ_ _ _ st hk=>⟨st.1.at λo e=>hk it (by simp) o e,let ⟨o,ho,r⟩:=st.2; ⟨o,hk t (by simp) o ho,r⟩⟩
 item:=λi s Q E hi st hQ=>AH st.1 st.2 (x:=items[i]) (by simp[hi]) λh' a b=>hQ _ h' s.toks (by simp[hi]) ⟨a,let ⟨o,ho,r⟩:=st.2; ⟨o,(b.2 t hne).trans ho,r⟩⟩ b
 done:=λs Q E st hE=>tu hh st.1 st.2 (by simp) hE
def Co (hh:A.handled=none)(it t:Addr)(items:aC)(n:Nat)(hx:items[n]? = none) :
  Draws prog w A it [it,t] n (λ_ _=>False) (λk h=>k=n/\h.IsTupleIter it t n/\h.IsTuple t items) where
 live:=λ_ _ st=>let ⟨o,ho,_⟩:=st.2.1; ⟨o,ho⟩
 frame:=λ_ _ _ st hk=>⟨st.1,st.2.1.at λo e=>hk it (by simp) o e,let ⟨o,ho,r⟩:=st.2.2; ⟨o,hk t (by simp) o ho,r⟩⟩
 item:=λi s Q E hi st hQ=>absurd hi (by rw[st.1]; exact HD _)
 done:=λs Q E st hE=>tu hh st.2.1 st.2.2 hx hE
def A5 (l:Addr)(items:aC)(n:Nat)(dct:aF)(sl:Array aB) :
  Meets (Builtin.«enumerate.__new__» ⟨[.type "enumerate",.ref l],[]⟩) (λ_ R s=>s.heap.get? l=some { cls:=.type "tuple",dict:=dct,data:=.seq items n,slots:=sl } /\
   R (.ok (.ret (.ref (s.heap.push { cls:=.type "tuple_iterator",data:=.fields #[.ref l,.int 0 0] }).objs.size)))
    { s with heap:=(s.heap.push { cls:=.type "tuple_iterator",data:=.fields #[.ref l,.int 0 0] }).push { cls:=.type "enumerate",data:=.fields #[.none,.bool false,.ref s.heap.objs.size,rawInt 0,.none,.none] } }):=
 .of_wp λprog w A R s h=>by
  obtain⟨hp,g,d,tk,os⟩:=s; obtain⟨hl,h⟩:=h;have hsub:=sub_enumerate;have hT:Heap.IsTuple (Shared.heap ⟨hp,g,d,tk,os⟩) l items:=⟨_,hl,rfl,n,rfl⟩
  wp_walk using Hm hl
  refine wpAny_stack_any λst=>bh ?_;split
  .rename_i c _ _ _ _ _;cases (c == Value.type "enumerate") <;> (wp_walk using Hm hl,Jz hT; exact⟨_,rfl,h⟩)
  .wp_walk using Hm hl,Jz hT
   exact⟨_,rfl,h⟩
def AX {l:Addr}{Q:Value->Shared->Prop}(hL:s.heap.IsTuple l items)
  (h:∀h',IsEnum h' (s.heap.objs.size+1) s.heap.objs.size 0 .none->h'.IsTupleIter s.heap.objs.size l 0->(∀b o,s.heap.get? b=some o->h'.get? b=some o)->Q (.ref (s.heap.objs.size+1)) { s with heap:=h' }) :
  wpAny (model prog w) A (call (.type "enumerate") [.ref l]) Q E s:=by
 obtain⟨⟨c,dct,dt,sl⟩,hl,hc,n,hd⟩:=hL;have hc':c=.type "tuple":=hc;have hd':dt=.seq items n:=hd;subst hc' hd';refine callType_new PySem.F.called_enumerate (by decide) (PySem.F.typeCall_enumerate_1 _) (PySem.F.newCall_enumerate_1 _) (λobj=>PySem.F.args_object_init_2 obj _) PySem.F.entry_enumerate_new (A5 l items n dct sl) ⟨hl,?_⟩;have hz:(s.heap.push { cls:=.type "tuple_iterator",data:=.fields #[.ref l,.int 0 0] }).objs.size=s.heap.objs.size+1:=GT ..;show _/\_;rw[hz];have he:=df (s.heap.push { cls:=.type "tuple_iterator",data:=.fields #[.ref l,.int 0 0] }) (o:={ cls:=.type "enumerate",data:=.fields #[.none,.bool false,.ref s.heap.objs.size,rawInt 0,.none,.none] }) rfl;rw[hz] at he;exact⟨⟨_,he,rfl⟩,h _ he ⟨_,b7 _ (df _ rfl),rfl,rfl⟩ λb o x=>b7 _ (b7 _ x)⟩
end
noncomputable def kl (K:bq)(a:Addr):It:=
 ⟨λi H=>∃xs x,SqT K H a xs/\xs[i]? = some x,λi H v H'=>∃x p,v=.ref p/\H p=none/\H'=upd H p (.tup [.int i,x])/\∀xs,SqT K H a xs->xs[i]? = some x,λi H=>∃xs,SqT K H a xs/\xs.length<=i⟩
def hZ (e it l:Addr)(i:Nat)(h:Heap):Prop:=(∃old,IsEnum h e it i old)/\h.IsTupleIter it l i
def FQ {P:Program}{w:World}{K:bq}{es:av}{k1:Nat}{ps:Pos}(l e it:Addr):Turn P w K (.Tuple es k1 ps) (kl K l) [e,it] e (hZ e it l) where
 mem:=by simp
 obj:=λi h t b hb=>by
  obtain⟨⟨old,te⟩,⟨o1,e1,_,d1⟩⟩:=t;simp only[GO,GL,or_false] at hb;rcases hb with rfl | rfl
  .exact⟨_,te,(λv q=>nomatch q)⟩
  .exact⟨o1,e1,λv q=>by rw[d1] at q; cases q⟩
 keep:=λi h h' t k=>by
  obtain⟨⟨old,te⟩,t1⟩:=t;exact⟨⟨old,k e (by simp) _ te⟩,t1.at λo q=>k it (by simp) o q⟩
 item:=by
  intro X hP hw hK hc i pins s σ H E I hf st hg;subst hP hw hK;obtain⟨xs,x,hx,ex⟩:=hg;obtain⟨its,rv,p,hz⟩:=I.tuple hx;obtain⟨u,hu,ru⟩:=rv.get ex;obtain⟨⟨old,te⟩,t1⟩:=st;have hl:=rv.length;have hi:i<its.toArray.size:=by
   have:=(dO hu).1;simpa using this
  have ne:e≠it:=by
   obtain⟨o1,e1,c1,_⟩:=t1;exact kX "enumerate" "tuple_iterator" te e1 rfl c1 (by decide)
  have nl:l≠it:=by
   obtain⟨o1,e1,c1,_⟩:=t1;obtain⟨o2,e2,c2,_⟩:=p;exact kX "tuple" "tuple_iterator" e2 e1 c2 c1 (by decide)
  have nel:e≠l:=by
   obtain⟨o2,e2,c2,_⟩:=p;exact kX "enumerate" "tuple" te e2 rfl c2 (by decide)
  refine wpAny_pyNext_enum_itemD (jJ (A:=X.A.in1) (by exact I.ok.hd hc) it l nl its.toArray) te (show s.heap.IsTupleIter it l i/\s.heap.IsTuple l its.toArray from ⟨t1,p⟩) hi ne (by simp; exact⟨ne,nel⟩) λy h' tk hy z1 z2 z3 z4 z5=>?_;have ey:y=u:=by
   have hu':its.toArray[i]? = some u:=by simpa using hu
   rw[hu'] at hy;exact (cO hy).symm
  subst ey;refine⟨_,rfl,?_⟩;refine wpAny_letOwnedTupleGo_enum (s:={ s with heap:=h',toks:=tk+1 }) z1 λh2 z1' sb=>?_;have kk:∀b o,b∉[e,it]->s.heap.get? b=some o->h2.get? b=some o:=λb o nb q=>by
   simp only[GO,GL,or_false,not_or] at nb;exact (sb.2 b nb.1).trans (z5 b o nb.1 nb.2 q)
  have le:e<s.heap.objs.size:=bS te;have gT:h2.get? s.heap.objs.size=some { cls:=.type "tuple",data:=.seq #[.int i tk,y] }:=(sb.2 _ (HK le)).trans z3;refine⟨.ref s.heap.objs.size,upd H s.heap.objs.size (.tup [.int i,x]),I.turnedN (t':=tk+1) hf kk (bC _) ⟨by show 2<=sizeLine; decide,[.int i tk,y],.cons ⟨_,rfl⟩ (.cons ru .nil),_,gT,rfl,⟨_,rfl⟩,rfl⟩,rfl,
   ⟨x,_,rfl,I.hok.fresh (bC _),rfl,λzs hq=>by rw[I.tuple_inj hq hx]; exact ex⟩,⟨⟨y,by simpa using z1'⟩,z2.1.at λo q=>(sb.2 it (Iv ne)).trans q⟩,λb hb=>?_⟩
  obtain⟨o,q,_⟩:∃o,s.heap.get? b=some o/\True:=by
   simp only[GO,GL,or_false] at hb;obtain⟨o1,e1,_,d1⟩:=t1;rcases hb with rfl | rfl
   .exact⟨_,te,trivial⟩
   .exact⟨o1,e1,trivial⟩
  rw[ca (Ir (Heap.lt_size q))];exact (hf b hb).1
 done:=by
  intro X hP hw hK hc i pins s σ H E I hf st hg;subst hP hw hK;obtain⟨xs,hx,hend⟩:=hg;obtain⟨its,rv,p,hz⟩:=I.tuple hx;obtain⟨⟨old,te⟩,t1⟩:=st;have hl:=rv.length;have nl:l≠it:=by
   obtain⟨o1,e1,c1,_⟩:=t1;obtain⟨o2,e2,c2,_⟩:=p;exact kX "tuple" "tuple_iterator" e2 e1 c2 c1 (by decide)
  refine wpAny_pyNext_enum_endD (Co (A:=X.A.in1) (by exact I.ok.hd hc) it l its.toArray i (by simp; omega)) te ⟨rfl,t1,p⟩ λh' kp=>⟨rfl,I.turnedL (t':=s.toks) hf λb o nb q=>?_⟩
  simp only[GO,GL,or_false,not_or] at nb;exact kp b o nb.2 q
 self:=λ_ _ _ _ _ st h=>by
  obtain⟨⟨old,te⟩,_⟩:=st;exact IY te h
section
variable {X:Cx}{es:av}{k1:Nat}{tp:Pos}
def zJ {a:Expr}{ta:TA}{p pos:Pos}(hg:Gl X "enumerate")(hm:X.mg "enumerate" = none)(hv:bootBuiltins "enumerate" = some (.type "enumerate"))(ha:PA X [a] ta)(hs:starEach [a] X.env=[(false,eval a X.env)]:=by rfl) :
  PI X (.Tuple es k1 tp) (.Call (.Name "enumerate" p) [a] [] pos) (λσ H R=>ta σ H λvs H1=>(∃a xs,vs=[.ref a]/\SqL X.K H1 a xs/\R (pN X.K a) H1)\/∃a xs,vs=[.ref a]/\SqT X.K H1 a xs/\R (kl X.K a) H1):=by
 intro pins s σ H R I h;refine Call_ (gr I hg hm hv (GU (bi (ha pos pins s σ H _ I h) λus s1 hZz=>?_) hs rfl));obtain⟨vs,H1,I1,r1,q1⟩:=hZz;rcases q1 with ⟨l1,xs,rfl,hx,q⟩ | ⟨l1,xs,rfl,hx,q⟩
 .obtain⟨u,rfl,ru⟩:=vals1 r1;cases ru;obtain⟨its,rx,px,hzx⟩:=I1.list hx;refine call_enumerate_list px.isList λh' z1 z2 z3 z4=>?_;refine IY (s:={ s1 with heap:=h' }) z1 ⟨_,_,_,_,H1,rfl,I1.kept (t':=s1.toks) z4,yG l1 _ _,⟨⟨_,z1⟩,z2⟩,λb hb=>?_,q⟩;have lb:s1.heap.objs.size<=b:=by
   simp only[GO,GL,or_false] at hb;rcases hb with rfl | rfl <;> omega
  exact I1.fpOk lb (I1.hok.fresh lb)
 .obtain⟨u,rfl,ru⟩:=vals1 r1;cases ru;obtain⟨its,rx,px,hzx⟩:=I1.tuple hx;refine AX px λh' z1 z2 z4=>?_;refine IY (s:={ s1 with heap:=h' }) z1 ⟨_,_,_,_,H1,rfl,I1.kept (t':=s1.toks) z4,FQ l1 _ _,⟨⟨_,z1⟩,z2⟩,λb hb=>?_,q⟩;have lb:s1.heap.objs.size<=b:=by
   simp only[GO,GL,or_false] at hb;rcases hb with rfl | rfl <;> omega
  exact I1.fpOk lb (I1.hok.fresh lb)
end
section
variable {X:Cx}
noncomputable def fM:V->Bool
 | .int _=>true
 | _=>false
noncomputable def jX (i:Int):Value->Bool
 | .int j _=>j == i
 | _=>false
theorem vz {i:Int}{t:Tok}:∀{xs:aw} {us:ar},Vals xs us->xs.all fM=true->∀u∈us,MeetsSeq.EqGives u (.int i t) (jX i u)
 | _,_,.nil,_=>λu hu=>by cases hu
 | y::xs,u::us,.cons r q,f=>λu' hu=>by
  rw[List.all_cons,tw] at f;rcases cg hu with rfl | hu
  .cases y with
   | int j=>obtain⟨t',rfl⟩:=r; exact MeetsSeq.EqGives.int j i t' t
   | _=>cases f.1
  .exact vz q f.2 u' hu
def fS:V->aw->Hp->VK->Prop:=λx vs H Q=>∃l xs i j,x=.ref l/\vs=[.int i]/\H l=some (.lst xs)/\xs.all fM=true/\(xs.findIdx? λz=>eqV z (.int i))=some j/\Q .non (upd H l (.lst (xs.eraseIdx j)))
def Ci:pb X "list.remove" fS:=by
 intro pins s σ H x vs v us Q I rx rv h;obtain⟨l,xs,i,j,rfl,rfl,hH,hi,hf,q⟩:=h;cases rx;obtain⟨u,rfl,ru⟩:=Vals.one rv;obtain⟨t,rfl⟩:=ru;obtain⟨z,its,n,r,hl,e⟩:=I.lstM hH;obtain⟨hj,hp,hq⟩:=Hf.mp hf;have at':∀m (h1:m<xs.length) (h2:m<its.toArray.size),jX i its.toArray[m]=eqV xs[m] (.int i):=λm h1 h2=>by
  obtain⟨w,e,rw'⟩:=r.get (i:=m) (x:=xs[m]) (by simp[h1]);have e2:its.toArray[m]=w:=by
   have h2':m<its.length:=by simpa using h2
   rw[Gw h2'] at e;simpa using cO e
  rw[e2];have fi:=dR hi _ (G5 h1);cases hx:xs[m] with
  | int y=>rw[hx] at rw'; obtain⟨t',rfl⟩:=rw'; rfl
  | _=>rw[hx] at fi; cases fi
 have hj2:j<its.toArray.size:=by rw[Gv]; omega
 refine HW PySem.F.slot_list_remove ⟨_,e,rfl⟩ PySem.F.entry_list_remove (PySem.F.args_list_remove_2 _ _)
  (MeetsSeq.list_remove l its.toArray n (.int i t) (jX i) (λy hy=>vz r hi y (by simpa using hy)) j hj2 (by rw[at' j hj hj2]; exact hp) (λm hm hl'=>?_) (by rw[Gv]; omega)) ⟨e,?_⟩
 .have hm':m<xs.length:=by rw[Gv] at hm; omega
  rw[at' m hm' hm];simpa using hq m hl'
 .refine⟨.non,_,I.lset (its':=its.eraseIdx j) hH e ?_ (r.eraseIdx j) ?_,rfl,q⟩
  .show its.toArray.eraseIdxIfInBounds j=(its.eraseIdx j).toArray;rw[List.eraseIdxIfInBounds_toArray]
  .have:=vH xs j;omega
end
section
variable {X:Cx}{tg:Expr}
end
section
variable {X:Cx}
end
end L2
end
section
namespace L2
open PySem PySem.Spec PySem.W PyProof.Rows
noncomputable def eR {α:Type}(c:Nat->Nat->Bool):KasT α->α
 | .ret a=>a
 | .ask i j k=>eR c (k (c i j))
noncomputable def KOk {α:Type}(N:Nat)(P:α->Prop):KasT α->Prop
 | .ret a=>P a
 | .ask i j k=>i<N/\j<N/\∀b,KOk N P (k b)
theorem KOk.bind {α β:Type}{N:Nat}{P:α->Prop}{R:β->Prop}{f:α->KasT β}(hf:∀a,P a->KOk N R (f a)):∀{t:KasT α},KOk N P t->KOk N R (t.bind f)
 | .ret a,h=>hf a h
 | .ask i j k,h=>⟨h.1,h.2.1,λb=>KOk.bind hf (h.2.2 b)⟩
theorem KOk.post {α:Type}{N:Nat}{P:α->Prop}{c:Nat->Nat->Bool}:∀{t:KasT α},KOk N P t->P (eR c t)
 | .ret _,h=>h
 | .ask i j k,h=>show P (L2.eR c (k (c i j))) from KOk.post (h.2.2 (c i j))
theorem uV {α:Type}{N:Nat}{P:α->Prop}{c:Nat->Nat->Bool}{ask:Nat->Nat->(Bool->Shared->Prop)->Shared->Prop}{J:α->Shared->Prop}{s:Shared}(ha:∀i j,i<N->j<N->∀C:Bool->Shared->Prop,C (c i j) s->ask i j C s):∀t:KasT α,KOk N P t->J (eR c t) s->t.kasWp ask J s
 | .ret _,_,h=>h
 | .ask i j k,o,h=>ha i j o.1 o.2.1 _ (uV ha (k (c i j)) (o.2.2 _) h)
def Pm (N:Nat)(p:Array Nat):Prop:=p.Perm (List.toArray (List.range N))
def Pm.lt {N:Nat}{p:Array Nat}(hN:0<N)(h:Pm N p)(i:Nat):p.getD i 0<N:=by
 by_cases hi:i<p.size
 .have:p[i]∈List.toArray (List.range N):=(Array.Perm.mem_iff h).mp (Array.getElem_mem hi);have e:p.getD i 0=p[i]:=by simp[Array.getD,hi]
  rw[e];simpa using this
 .have e:p.getD i 0=0:=by simp[Array.getD,hi]
  rw[e]; exact hN
def Pm.rev {N:Nat}{p:Array Nat}(h:Pm N p)(i j:Nat):Pm N (kas_rev p i j):=(mirror_perm p i j _).trans h
section
variable {N:Nat}(hN:0<N)
include hN
theorem rz {p:Array Nat}(h:Pm N p):∀f n,KOk N (λ_=>True) (kas_asc p f n)
 | 0,_=>trivial
 | f+1,n=>⟨h.lt hN _,h.lt hN _,λb=>by
  cases b with
  | true=>exact trivial
  | false=>exact rz h f (n+1)⟩
theorem n5:∀f p n q,Pm N p->KOk N (λr:Array Nat×Nat×Nat=>Pm N r.1) (kas_desc f p n q)
 | 0,_,_,_,h=>h
 | f+1,p,n,q,h=>⟨h.lt hN _,h.lt hN _,λb=>by
  cases b with
  | true=>
   show KOk N _ (if q > 0 then _ else _);split
   .exact n5 f _ _ _ (h.rev _ _)
   .exact n5 f _ _ _ h
  | false=>exact⟨h.lt hN _,h.lt hN _,λd=>by
    cases d with
    | true=>exact h
    | false=>exact n5 f _ _ _ h⟩⟩
def uC {p:Array Nat}(n m:Nat)(h:Pm N p):KOk N (λr:Nat×Array Nat=>Pm N r.2) (kas_tail3 n m p):=by
 unfold kas_tail3;refine KOk.bind (P:=λ_=>True) (λ_ _=>?_) (rz hN (h.rev 0 n) _ _);exact h.rev 0 n
def vk {p:Array Nat}(n m:Nat)(h:Pm N p):KOk N (λr:Nat×Array Nat=>Pm N r.2) (kas_descPart n m p):=(n5 hN _ _ _ _ h).bind λr hr=>by
 show KOk N _ (if r.2.2 > 0 then _ else _);split
 .exact uC hN _ _ (hr.rev _ _)
 .exact uC hN _ _ hr
def BU {p:Array Nat}(m:Nat)(h:Pm N p):KOk N (λr:Nat×Array Nat=>Pm N r.2) (kas_count m p):=(rz hN h _ _).bind λn _=>by
 show KOk N _ (if (n == m)=true then _ else if n > 1 then _ else _);split
 .exact h
 .split
  .exact⟨h.lt hN _,h.lt hN _,λb=>by
    cases b with
    | true=>exact h
    | false=>exact vk hN _ _ (h.rev _ _)⟩
  .exact vk hN _ _ h
theorem rA {p:Array Nat}(k:Nat)(h:Pm N p):∀f l r,KOk N (λ_=>True) (kas_place p k f l r)
 | 0,_,_=>trivial
 | f+1,l,r=>by
  unfold kas_place;split
  .exact trivial
  .exact⟨h.lt hN _,h.lt hN _,λb=>by
    cases b with
    | true=>exact rA k h f _ _
    | false=>exact rA k h f _ _⟩
theorem vd:∀f p k,Pm N p->KOk N (Pm N) (kas_bin f p k)
 | 0,_,_,h=>h
 | f+1,p,k,h=>(rA hN k h k 0 k).bind λl _=>vd f _ _ ((bubble_perm p k (k - l)).trans h)
def l9:KOk N (Pm N) (kas_sort N):=(BU hN N (Array.Perm.refl _)).bind λr hr=>by
 show KOk N _ (if r.1<N then _ else _);split
 .exact vd hN _ _ _ hr
 .exact hr
end
noncomputable def da {α:Type}(d:α)(c:Nat->Nat->Bool)(vs:List α):List α:=if vs.length<2 then vs else (eR c (kas_sort vs.length)).toList.map λi=>vs.getD i d
section
variable {prog:Program}{w:World}{A:Around}{E:Value->Shared->Prop}{s:Shared}{a:Addr}{vs:ar}{n:Nat}{κ:SortKind}{c:Nat->Nat->Bool}
def kG (a:Addr)(h h':Heap):Prop:=∀b o,b≠a->h.get? b=some o->h'.get? b=some o
def Ck {P:PySem.Fin->Shared->Prop}(ho:s.heap.get? a=some (seqObj "list" vs.toArray n))(h64:vs.length<64)
  (hk:2<=vs.length->∀h',kG a s.heap h'->∀Q:SortKind->Shared->Prop,Q κ { s with heap:=h' }->wpAny (model prog w) A (keyKind' vs.toArray) Q (λ_ _=>False) { s with heap:=h' })
  (hc:2<=vs.length->∀h',kG a s.heap h'->∀i j,i<vs.length->j<vs.length->∀C:Bool->Shared->Prop,C (c i j) { s with heap:=h' }->kas_ask prog w A κ vs i j C { s with heap:=h' })
  (h:∀h' e,kG a s.heap h'->h'.get? a=some (seqObj "list" (da Value.none c vs).toArray e)->P (.done (.ret .none)) { s with heap:=h' }) :
  wpAny (model prog w) A (Builtin.«list.sort» ⟨[.ref a],[]⟩) P E s:=by
 have lt:a<s.heap.objs.size:=bS ho;obtain⟨e1,o1⟩:∃e1,(s.heap.update a (Obj.mapSeq λ_=>(#[]:aC))).get? a=some (seqObj "list" #[] e1):=⟨_,get?_update_seq ho λ_=>#[]⟩
 have k3:kG a s.heap (((s.heap.update a (Obj.mapSeq λ_=>(#[]:aC))).push (seqObj "tuple" vs.toArray 0)).push (seqObj "list" #[] 0)):=λb o nb e=>
  b7 _ (b7 _ ((IC _ _ _ _ nb).trans e))
 have o3:(((s.heap.update a (Obj.mapSeq λ_=>(#[]:Array Value))).push (seqObj "tuple" vs.toArray 0)).push (seqObj "list" #[] 0)).get? a=some (seqObj "list" #[] e1):=b7 _ (b7 _ o1);have kk:=λz=>hk z _ k3;have cc:=λz=>hc z _ k3;rw[list_sort_plain];refine aS (listItems_at ho rfl ?_);refine aS (listUpdate_at ho rfl ?_ (by rw[Gv,HL]; omega) (GX _));refine aS (seqEpoch_at o1 rfl ?_);refine aS (wpAny_newTuple ?_ (by show vs.length<=_; rw[HL]; omega));refine aS (wpAny_newList ?_ (GX _));refine Hx ?_;generalize ((s.heap.update a (Obj.mapSeq λ_=>(#[]:Array Value))).push (seqObj "tuple" vs.toArray 0)).push (seqObj "list" #[] 0)=h3 at k3 o3 kk cc;show wpAny (model prog w) A _ P E { s with heap:=h3 };dsimp only;by_cases n2:vs.toArray.size<2
 .have so:da Value.none c vs=vs:=by unfold da; rw[if_pos (by simpa using n2)]
  rw[so] at h;rw[if_pos n2,if_pos n2];refine aS (bh ?_);rw[StateT.run_pure];refine aS (bh ?_);dsimp only;have e0:(arrOf (SortSt.mk' general' (vs.toArray.zip vs.toArray) #[] 7 none)).map (·.2)=vs.toArray:=by
   show (vs.toArray.zip vs.toArray).map (·.2)=vs.toArray;apply Jo.mp;simp[List.map_snd_zip]
  rw[e0];obtain⟨c2,hc2⟩:∃c2,(h3.update a (Obj.mapSeq λ_=>vs.toArray)).get? a=some (seqObj "list" vs.toArray c2):=⟨_,get?_update_seq o3 λ_=>vs.toArray⟩
  refine aS (seqEpoch_at o3 rfl ?_);refine aS (listUpdate_at o3 rfl ?_ (GX _) (by rw[HL]; omega));simp only[HP,GN,if_false];exact bh (h _ c2 (λb o nb e=>(IC _ _ _ _ nb).trans (k3 b o nb e)) hc2)
 have h2:2<=vs.length:=by rw[Gv] at n2; omega
 rw[if_neg n2,if_neg n2];refine aS (Ho (kk h2 (λk t=>k=κ/\t={ s with heap:=h3 }) ⟨rfl,rfl⟩) (λk t hkt=>?_) λ_ _ x=>x.elim);obtain⟨rfl,rfl⟩:=hkt;refine aS (Ho (kat_run (Q:=λst t=>∃p:Array Nat,p.size=vs.length/\arrOf st=p.map (kas_item (vs.toArray.zip vs.toArray))/\failedOf st=none/\p=eR c (kas_sort vs.length)/\t={ s with heap:=h3 })
  rfl h2 h64 (λp st t a1 a2 a3 a4=>⟨p,a1,a2,a3,a4⟩) (uV (cc h2) _ (l9 (by omega)) ⟨rfl,rfl⟩)) ?_ λ_ _ e=>e)
 rintro⟨⟨⟩,st⟩ t ⟨p,hp,har,hf,hpe,rfl⟩;dsimp only;have hout:(arrOf st).map (·.2)=(da Value.none c vs).toArray:=by rw[kat_snds rfl har,hpe]; unfold da; rw[if_neg (by omega)]
 have hsz:(da Value.none c vs).toArray.size=vs.length:=by rw[Gv]; unfold da; rw[if_neg (by omega),Gx,Array.length_toList,<-hpe,hp]
 rw[hout];obtain⟨c2,hc2⟩:∃c2,(h3.update a (Obj.mapSeq λ_=>(da Value.none c vs).toArray)).get? a=some (seqObj "list" (da Value.none c vs).toArray c2):=⟨_,get?_update_seq o3 λ_=>(da Value.none c vs).toArray⟩
 refine aS (seqEpoch_at o3 rfl ?_);refine aS (listUpdate_at o3 rfl ?_ (GX _) (bH (Jx hsz) (by rw[HL]; omega)));rw[hf];simp only[HP,GN,if_false];exact bh (h _ c2 (λb o nb e=>(IC _ _ _ _ nb).trans (k3 b o nb e)) hc2)
def PrA (h:Heap)(v:Value)(p:Int×Int):Prop:=∃b o t u n,v=.ref b/\h.get? b=some o/\o.cls=.type "tuple" /\ o.data=.seq #[.int p.1 t,.int p.2 u] n
noncomputable def mR (p q:Int×Int):Bool:=decide (p.1<q.1\/p.1=q.1/\p.2<q.2)
def Ek {v v':Value}{p q:Int×Int}{C:Bool->Shared->Prop}(h1:PrA s.heap v p)(h2:PrA s.heap v' q)(h:C (mR p q) s):wpAny (model prog w) A (keyLt' (tuples' true) v v') C E s:=by
 obtain⟨x,o,t,u,n,rfl,e1,_,d1⟩:=h1;obtain⟨y,o',t',u',n',rfl,e2,_,d2⟩:=h2;refine kat_lt e1 d1 e2 d2 (kat_cons (wpAny_eqBool_int ?_));unfold mR at h;by_cases c1:p.1=q.1
 .rw[show (p.1 == q.1)=true by simpa using c1];refine kat_yes (kat_cons (wpAny_eqBool_int ?_));by_cases c2:p.2=q.2
  .rw[show (p.2 == q.2)=true by simpa using c2];refine kat_yes (kat_nil ?_);have:¬(p.1<q.1\/p.1=q.1/\p.2<q.2):=by omega
   rw[GQ this] at h;exact h
  .rw[show (p.2 == q.2)=false by simpa using c2];refine kat_no (kat_one _ _ (lt_int ?_));have:decide (p.1<q.1\/p.1=q.1/\p.2<q.2)=decide (p.2<q.2):=by rw[Ix]; omega
   rw[this] at h;exact h
 .rw[show (p.1 == q.1)=false by simpa using c1];refine kat_no (oneLt_int ?_);have:decide (p.1<q.1\/p.1=q.1/\p.2<q.2)=decide (p.1<q.1):=by rw[Ix]; omega
  rw[this] at h;exact h
def PrA.kept {h h':Heap}{v:Value}{p:Int×Int}(x:PrA h v p)(hlt:∀b o,h.get? b=some o->h'.get? b=some o):PrA h' v p:=by
 obtain⟨b,o,t,u,n,e,e1,r⟩:=x;exact⟨b,o,t,u,n,e,hlt b o e1,r⟩
noncomputable def ef (ps:List (Int×Int))(i j:Nat):Bool:=mR (ps.getD i (0,0)) (ps.getD j (0,0))
def Ee {vs:ar}{ps:List (Int×Int)}(hp:Paired (PrA s.heap) vs ps)(h2:2<=vs.length){Q:SortKind->Shared->Prop}(h:Q (tuples' true) s):wpAny (model prog w) A (keyKind' vs.toArray) Q E s:=by
 obtain⟨fs,k,hf⟩:∃fs,KatTups s.heap vs fs/\∀f∈fs,∃i t,f=Value.int i t:=by
  clear h2 h;induction hp with
  | nil=>exact⟨[],trivial,λ_ h=>nomatch h⟩
  | cons hx _ ih=>
   obtain⟨b,o,t,u,n,rfl,e1,c1,d1⟩:=hx;obtain⟨fs,k,hf⟩:=ih;exact⟨_::fs,.cons e1 c1 d1 rfl k,λf hm=>(cg hm).elim (λe=>⟨_,_,e⟩) (hf f)⟩
 have hl:∀{vs fs:ar},KatTups s.heap vs fs->vs.length=fs.length:=by
  intro vs;induction vs with
  | nil=>intro fs k; cases fs with | nil=>rfl | cons _ _=>exact k.elim
  | cons v vs ih=>intro fs k; cases fs with | nil=>exact k.elim | cons f fs=>rw[List.length_cons,List.length_cons,ih k.2]
 refine kat_kind (T:=.type "int") k (by rw[<-hl k]; omega) (λf hm=>?_) (by decide) h;obtain⟨i,t,rfl⟩:=hf f hm;exact .now
theorem rK {h:Heap}:∀{vs:ar} {ps:List (Int×Int)},Paired (PrA h) vs ps->∀i,i<vs.length->PrA h (vs.getD i Value.none) (ps.getD i (0,0))
 | _,_,.nil,_,hi=>absurd hi (by simp)
 | _,_,.cons hx _,0,_=>hx
 | _,_,.cons _ t,i+1,hi=>by simpa using rK t i (by simpa using hi)
def Dw {l:Addr}{ps:List (Int×Int)}{Q:Value->Shared->Prop}(hl:s.heap.IsList l vs.toArray)(hp:Paired (PrA s.heap) vs ps)(h64:vs.length<64)
  (h:∀h' L e,(∀b o,s.heap.get? b=some o->h'.get? b=some o)->s.heap.objs.size<=L->h'.get? L=some (seqObj "list" (da Value.none (ef ps) vs).toArray e)->Q (.ref L) { s with heap:=h' }) :
  wpAny (model prog w) A (call (.builtin "sorted") [.ref l]) Q E s:=by
 refine Calls.call_function_entry kind_sorted plain_sorted entry_sorted (args_sorted1 _) ?_;unfold Builtin.«sorted»;refine aS (m:=checkCount "sorted" 1 1 _) (bh ?_);refine aS (collect_list hl ?_ (by rw[HL]; omega));refine aS (wpAny_newList ?_ (by rw[HL]; omega));have sz:((s.heap.push (seqObj "list" #[] 0)).update s.heap.objs.size (Obj.mapSeq (·++vs.toArray))).objs.size=s.heap.objs.size+1:=by rw[Heap.size_update,size_push']
 have oL:(((s.heap.push (seqObj "list" #[] 0)).update s.heap.objs.size (Obj.mapSeq (·++vs.toArray))).push (seqObj "list" vs.toArray 0)).get? (s.heap.objs.size+1)=some (seqObj "list" vs.toArray 0):=by
  rw[<-sz]; exact df _ rfl
 have kp:∀b o,s.heap.get? b=some o->(((s.heap.push (seqObj "list" #[] 0)).update s.heap.objs.size (Obj.mapSeq (·++vs.toArray))).push (seqObj "list" vs.toArray 0)).get? b=some o:=λb o q=>
  b7 _ ((IC _ _ _ _ (dk (bS q))).trans (b7 _ q))
 show wpAny _ _ _ _ _ { s with heap:=((s.heap.push (seqObj "list" #[] 0)).update s.heap.objs.size (Obj.mapSeq (·++vs.toArray))).push (seqObj "list" vs.toArray 0) };rw[sz];generalize ((s.heap.push (seqObj "list" #[] 0)).update s.heap.objs.size (Obj.mapSeq (·++vs.toArray))).push (seqObj "list" vs.toArray 0)=h1 at oL kp;have kk:∀h',kG (s.heap.objs.size+1) h1 h'->∀b o,s.heap.get? b=some o->h'.get? b=some o:=λh' k b o q=>k b o (dk (Ht (bS q))) (kp b o q);have pp:∀h',kG (s.heap.objs.size+1) h1 h'->Paired (PrA h') vs ps:=λh' k=>Paired.mapP hp λ_ _ x=>x.kept (kk h' k);refine aS (Hx (Hk slot_list_sort ⟨_,oL,rfl⟩ entry_list_sort ?body (args_list_sort _)))
 case body=>
  exact Ck (s:={ s with heap:=h1 }) (κ:=tuples' true) (c:=ef ps) oL h64 (λz h' k Q q=>Ee (s:={ s with heap:=h' }) (pp h' k) z q) (λ_ h' k i j hi hj C q=>Ek (s:={ s with heap:=h' }) (rK (pp h' k) i hi) (rK (pp h' k) j hj) q) λh' e k o=>⟨_,rfl,bh ⟨_,rfl,h h' _ e (kk h' k) (HE _) o⟩⟩
end
theorem vy:∀{xs:aw} {us:ar},Vals xs us->∀i,i<xs.length->RelV (xs.getD i .non) (us.getD i Value.none)
 | _,_,.nil,_,hi=>absurd hi (by simp)
 | _,_,.cons hx _,0,_=>hx
 | _,_,.cons _ t,i+1,hi=>by simpa using vy t i (by simpa using hi)
theorem tD {xs:aw}{us:ar}(r:Vals xs us):∀{l:am},(∀i∈l,i<xs.length)->Vals (l.map λi=>xs.getD i .non) (l.map λi=>us.getD i Value.none)
 | [],_=>.nil
 | i::l,h=>.cons (vy r i (h i bQ)) (tD r λj hj=>h j (bN _ hj))
def pT {N:Nat}{c:Nat->Nat->Bool}(hN:0<N):∀i∈(eR c (kas_sort N)).toList,i<N:=λi hi=>by
 have p:Pm N (eR c (kas_sort N)):=(l9 hN).post;have:i∈List.toArray (List.range N):=(Array.Perm.mem_iff p).mp (by simpa using hi);simpa using this
def Cs {xs:aw}{us:ar}{c:Nat->Nat->Bool}(r:Vals xs us):Vals (da .non c xs) (da Value.none c us):=by
 have e:=r.length;unfold da;rw[<-e];split
 .exact r
 .exact tD r (pT (by omega))
def zf {α:Type}{d:α}{c:Nat->Nat->Bool}(xs:List α):(da d c xs).length=xs.length:=by
 unfold da;split
 .rfl
 .have p:Pm xs.length (eR c (kas_sort xs.length)):=(l9 (by omega)).post;rw[Gx,Array.length_toList,p.size_eq];simp
section
variable {X:Cx}
def nK (K:bq)(H:Hp)(v:V)(p:Int×Int):Prop:=∃b,v=.ref b/\SqT K H b [.int p.1,.int p.2]
def zz:CallR X (.builtin "sorted") (λxs H Q=>∃(a:Addr) (vs:List V) (ps:List (Int×Int)),xs=[.ref a]/\SqL X.K H a vs/\Paired (nK X.K H) vs ps/\vs.length<64/\∀p,H p=none->Q (.ref p) (upd H p (.lst (da .non (ef ps) vs)))):=by
 rintro pins s σ H xs us Q I rs ⟨a,vs,ps,e,hS,hp,hz,q⟩;subst e;obtain⟨u,rfl,ru⟩:=rs.one;cases ru;obtain⟨its,rv,pl,hlen⟩:=I.list hS;have pr:∀{vs:aw} {its:ar} {ps:List (Int×Int)},Vals vs its->Paired (nK X.K H) vs ps->Paired (PrA s.heap) its ps:=by
  intro vs its ps rv hp;induction hp generalizing its with
  | nil=>cases rv; exact .nil
  | cons hx _ ih=>
   cases rv with
   | cons h1 h2=>
    obtain⟨b,rfl,hb⟩:=hx;obtain⟨it2,rv2,⟨o,e1,c1,⟨n,d1⟩,_⟩,_⟩:=I.tupN hb;cases rv2 with
    | cons g1 g2=>
     cases g2 with
     | cons g2 g3=>
      cases g3;obtain⟨t,rfl⟩:=g1;obtain⟨u,rfl⟩:=g2;cases h1;exact .cons ⟨b,o,t,u,n,rfl,e1,c1,d1⟩ (ih h2)
 have el:=rv.length;refine Dw pl.isList (pr rv hp) (by omega) λh' L e kp hle ho=>?_;refine⟨.ref L,upd H L (.lst (da .non (ef ps) vs)),I.laid (t':=s.toks) kp hle ⟨?_,_,e,Cs rv,ho⟩,rfl,q L (I.hok.fresh hle)⟩;rw[zf]; exact hlen
end
end L2
end
section
namespace L2
open PySem PySem.Spec PyProof.Rows
section
variable {X:Cx}{tg:Expr}
end
end L2
end
section
namespace L2
open PySem PySem.Spec PySem.W PyProof.Rows
section
variable {X:Cx}
def lI (K:bq)(n:Nat)(t:gR):TG:=λv σ H Q=>∃a xs,v=.ref a/\SqL K H a xs/\xs.length=n/\t xs σ H Q
def xY {es:av}{k:Nat}{t:gR}{n:Nat}{pos:Pos}(hc:X.calm=true)(h:k9 X es t)(hn:(assignEach es X.env).length=n)(hst:(assignEach es X.env).findIdx? (·.1)=none):PG X (.Tuple es k pos) (lI X.K n t):=by
 intro pins s σ H v u Q I r hw;obtain⟨a,xs,e1,hq,hl,hw⟩:=hw;subst e1;cases r;obtain⟨its,rv,ht,hz⟩:=I.list hq;have ln:=rv.length;show wpAny _ _ (do standAt pos; unpack (.ref a) (assignEach es X.env)) _ _ s;refine aS (wpAny_standAt (aS (Hx ?_)));rw[hst,hn,<-hl,ln,<-show its.toArray.size=its.length by simp];refine kun_itemsOf (I.ok.hd hc) ht.isList λh' hx=>?_;have I1:Inv X pins σ H { s with heap:=h' }:=I.kept (t':=s.toks) λb o e=>hx b o (dk (bS e)) e;exact h pins _ σ H xs _ Q I1 (by simpa using rv) hw
end
end L2
end
section
namespace Ip
open PySem (Str)
noncomputable section
inductive D where
 | non | bl (b:Bool) | int (i:Int) | str (s:Str)
 | lst (xs:List D) | tup (xs:List D)
 | ins (c:Nat) (fs:List (Nat×D))
 | exc (c:Nat) (fs:List (Nat×D))
 deriving Inhabited
abbrev _root_.aJ:=Nat×D
abbrev _root_.ay:=List D
mutual
@[simp] noncomputable def D.flat:D->Bool
 | .lst _=>false
 | .tup xs=>D.flats xs
 | .ins _ _=>false
 | .exc _ _=>false
 | _=>true
@[simp] noncomputable def D.flats:ay->Bool
 | []=>true
 | d::ds=>d.flat&&D.flats ds
end
theorem qx:∀xs:ay,D.flats xs=xs.all D.flat
 | []=>by rw[D.flats]; rfl
 | d::ds=>by rw[D.flats,qx ds]; rfl
@[simp] noncomputable def D.fb:Nat->D->Bool
 | 0,d=>d.flat
 | k+1,.lst xs=>xs.all (D.fb k)
 | k+1,.tup xs=>xs.all (D.fb k)
 | k+1,.ins _ fs=>fs.all λp=>D.fb k p.2
 | _+1,.exc _ _=>false
 | _+1,_=>true
noncomputable def D.pur:Nat->D->Bool
 | 0,.lst _=>false
 | 0,.tup _=>false
 | n+1,.lst xs=>xs.all (D.pur n)
 | n+1,.tup xs=>xs.all (D.pur n)
 | _,.ins _ _=>false
 | _,.exc _ _=>false
 | _,.str s=>s.cps.all (·<1114112)
 | _,_=>true
@[simp] theorem pur_non (n:Nat):D.pur n .non=true:=by cases n <;> rfl
@[simp] theorem pur_bl (n:Nat)(b:Bool):D.pur n (.bl b)=true:=by cases n <;> rfl
@[simp] theorem pur_int (n:Nat)(i:Int):D.pur n (.int i)=true:=by cases n <;> rfl
@[simp] theorem Ch (n:Nat)(s:Str):D.pur n (.str s)=s.cps.all (·<1114112):=by cases n <;> rfl
@[simp] theorem uf (n:Nat)(xs:ay):D.pur (n+1) (.lst xs)=xs.all (D.pur n):=rfl
@[simp] theorem pur_tup (n:Nat)(xs:ay):D.pur (n+1) (.tup xs)=xs.all (D.pur n):=rfl
@[simp] theorem pur_ints (n:Nat)(xs:ao):(xs.map D.int).all (D.pur n)=true:=by simp
noncomputable abbrev D.pures (xs:ay):Bool:=xs.all (D.pur 60)
@[simp] noncomputable def D.scal:D->Bool
 | .non=>true | .bl _=>true | .int _=>true | .str _=>true
 | _=>false
mutual
noncomputable def D.eq:D->D->Bool
 | .non,.non=>true
 | .int i,.int j=>decide (i=j)
 | .int i,.bl b=>decide (i=if b then 1 else 0)
 | .bl b,.int i=>decide ((if b then 1 else 0)=i)
 | .bl b,.bl c=>decide (b=c)
 | .str s,.str t=>decide (s=t)
 | .lst xs,.lst ys=>D.eqs xs ys
 | .tup xs,.tup ys=>D.eqs xs ys
 | _,_=>false
noncomputable def D.eqs:ay->ay->Bool
 | [],[]=>true
 | x::xs,y::ys=>x.eq y&&D.eqs xs ys
 | _,_=>false
end
inductive R (α:Type) where
 | ok (a:α)
 | exc (c:Nat) (fs:List aJ)
 | bad
@[simp,reducible] noncomputable def R.bind {α β:Type}(r:R α)(f:α->R β):R β:=match r with
 | .ok a=>f a
 | .exc c fs=>.exc c fs
 | .bad=>.bad
noncomputable abbrev KD:=aJ
abbrev _root_.aA:=Option KD
abbrev _root_.ax:=List KD
noncomputable def bt (j:Nat)(x:KD):Bool:=x.2.flat||(x.1 == j||(D.fb j x.2&&D.fb x.1 x.2))
noncomputable def bf (xs:ax):Nat:=match xs.find? λx=>!x.2.flat with
 | none=>98
 | some x=>if xs.all (bt x.1) then x.1 else 0
noncomputable def dA (k:Nat)(xs:ay)(v:KD):Nat:=if bt k v then k else if xs.all (λd=>bt v.1 (k,d)) then v.1 else 0
noncomputable abbrev SL:Nat:=1000000
inductive Ty where
 | int | bool | str | list | tuple | dict | verr | cls (c:Nat)
inductive Op where
 | add | sub | mul | fdiv | mod | pow | shr | neg | not
 | eq | ne | lt | le | gt | ge | isN | notN | isin | nin
 | lst | tup | ix | slL | slH | slLH | rev
 | fld (f:Nat) | isi (ts:List Ty)
 | len | list | lrng | lrev | tuple | all | any | toInt | sum | srt | srtSet | symd | min1 | min2 | max2
 | index | count
inductive Wk where
 | seq | rng1 | rng2 | enum | zip
inductive Tg where
 | one (i:Nat) | many (is:am)
inductive Ex where
 | var (i:Nat)
 | cst (d:D)
 | op (o:Op) (es:List Ex)
 | and (a b:Ex) | or (a b:Ex)
 | ite (c a b:Ex)
 | chain (o p:Op) (a b c:Ex)
 | sl2 (a l h:Ex)
 | comp (caps:List aE) (tg:Tg) (wk:Wk) (it:List Ex) (t:List Ex) (e:Ex)
 | call (f:Nat) (es:List Ex)
 | make (c:Nat) (es:List Ex)
 | meth (m:Nat) (o:Ex) (es:List Ex)
 | bad
 deriving Inhabited
abbrev _root_.aG:=List Ex
inductive Mu where
 | append | extend | clear | insert | remove | pop0
inductive S where
 | set (i:Nat) (e:Ex)
 | setT (is:am) (e:Ex)
 | ret (e:Ex)
 | ex (e:Ex)
 | iff (c:Ex) (t e:List S)
 | whl (c:Ex) (b:List S)
 | fo (tg:Tg) (wk:Wk) (it:aG) (b:List S)
 | brk | cnt | pass
 | mut (x:Nat) (path:aG) (m:Mu) (es:aG)
 | put (x:Nat) (path:aG) (i e:Ex)
 | sfld (i:Nat) (f:Nat) (e:Ex)
 | retP (s:Str) (i:Nat)
 | foz (tg:Tg) (x y:Nat) (b:List S)
 | bad
 deriving Inhabited
abbrev _root_.az:=List S
structure Fn where
 np:Nat
 io:am
 ns:Nat
 dfl:ay
 body:az
structure Cl where
 init:aE
 meths:ak
 ups:am
 isx:Bool
structure Pg where
 fn:Nat->Option Fn
 cl:Nat->Option Cl
inductive Run where
 | ret (k:Nat) (d:D) (outs:ax)
 | exc (c:Nat) (fs:List aJ) (outs:ax)
 | bad
def lE (n:Nat):∃f:Int->Bool,∀i,f i=true ↔ -(2 ^ n)<=i/\i<2 ^ n:=⟨λi=>decide (-(2 ^ n)<=i/\i<2 ^ n),λi=>decide_eq_true_iff⟩
noncomputable def cN:Int->Bool:=Classical.choose (lE 62)
def dY {i:Int}:cN i=true ↔ -(2 ^ 62)<=i/\i<2 ^ 62:=Classical.choose_spec (lE 62) i
noncomputable def d6 (n:Nat)(i:Int):aE:=if 0<=i then (if i<n then some i.toNat else none) else if -(n:Int)<=i then some (i+n).toNat else none
noncomputable def dH (n d:Nat):Option Int->Nat
 | none=>d
 | some i=>if 0<=i then min i.toNat n else (i+n).toNat
noncomputable def cutD {α:Type}(xs:List α)(lo hi:Option Int):List α:=(xs.drop (dH xs.length 0 lo)).take (dH xs.length xs.length hi - dH xs.length 0 lo)
@[simp] noncomputable def mj:Ty->Bool
 | .bool=>true | .int=>true | _=>false
@[simp] noncomputable def jn:Ty->Bool
 | .int=>true | _=>false
@[simp] noncomputable def iV:Ty->Bool
 | .str=>true | _=>false
@[simp] noncomputable def iT:Ty->Bool
 | .list=>true | _=>false
@[simp] noncomputable def je:Ty->Bool
 | .tuple=>true | _=>false
@[simp] noncomputable def iQ (G:Pg)(c d:Nat):Bool:=match G.cl c with
 | some K=>decide (d=c)||K.ups.contains d
 | none=>false
@[simp] noncomputable def iJ (G:Pg)(c:Nat):Ty->Bool
 | .cls d=>iQ G c d | _=>false
@[simp] noncomputable def iK (G:Pg)(c:Nat):Ty->Bool
 | .cls d=>iQ G c d | .verr=>true | _=>false
noncomputable def bj (G:Pg):D->Ty->Bool
 | .bl _=>mj
 | .int _=>jn
 | .str _=>iV
 | .lst _=>iT
 | .tup _=>je
 | .ins c _=>iJ G c
 | .exc c _=>iK G c
 | .non=>λ_=>false
@[simp] theorem isTy_bl (G:Pg)(b:Bool)(t:Ty):bj G (.bl b) t=mj t:=rfl
@[simp] theorem isTy_int (G:Pg)(b:Int)(t:Ty):bj G (.int b) t=jn t:=rfl
@[simp] theorem isTy_str (G:Pg)(b:Str)(t:Ty):bj G (.str b) t=iV t:=rfl
@[simp] theorem isTy_lst (G:Pg)(b:ay)(t:Ty):bj G (.lst b) t=iT t:=rfl
@[simp] theorem isTy_tup (G:Pg)(b:ay)(t:Ty):bj G (.tup b) t=je t:=rfl
@[simp] theorem isTy_ins (G:Pg)(c:Nat)(fs:List aJ)(t:Ty):bj G (.ins c fs) t=iJ G c t:=rfl
@[simp] theorem isTy_exc (G:Pg)(c:Nat)(fs:List aJ)(t:Ty):bj G (.exc c fs) t=iK G c t:=rfl
@[simp] theorem isTy_non (G:Pg)(t:Ty):bj G .non t=false:=rfl
noncomputable def allB:ay->Option Bool
 | []=>some true
 | .bl b::ds=>(allB ds).map λc=>b&&c
 | _::_=>none
noncomputable def anyB:ay->Option Bool
 | []=>some false
 | .bl b::ds=>(anyB ds).map λc=>b||c
 | _::_=>none
noncomputable def di:ay->Option ao
 | []=>some []
 | .int i::ds=>(di ds).map λis=>i::is
 | _::_=>none
noncomputable def D.memb (x:D)(xs:ay):Bool:=xs.any λy=>y.eq x
noncomputable def D.find (x:D)(xs:ay):aE:=xs.findIdx? λy=>y.eq x
mutual
noncomputable def D.lt:D->D->Option Bool
 | .int i,.int j=>some (decide (i<j))
 | .tup xs,.tup ys=>D.lts xs ys
 | .lst xs,.lst ys=>D.lts xs ys
 | .str s,.str t=>some (decide (s.cps.toList<t.cps.toList))
 | _,_=>none
noncomputable def D.lts:ay->ay->Option Bool
 | [],[]=>some false
 | [],_::_=>some true
 | _::_,[]=>some false
 | x::xs,y::ys=>if x.eq y then D.lts xs ys else D.lt x y
end
@[simp] noncomputable def fB (b:Bool):aA:=some (99,.bl b)
@[simp] noncomputable def fI (i:Int):aA:=some (99,.int i)
@[simp] noncomputable def lc (b:Bool):R KD:=.ok (99,.bl b)
@[simp] noncomputable def D.seq:D->Option ay
 | .lst xs=>some xs
 | .tup xs=>some xs
 | _=>none
@[simp] noncomputable def D.lstO:D->Option ay
 | .lst xs=>some xs
 | _=>none
@[simp] noncomputable def cj (f:D->aA):ax->aA
 | [x]=>f x.2
 | _=>none
@[simp] noncomputable def bE (f:D->D->aA):ax->aA
 | [x,y]=>f x.2 y.2
 | _=>none
@[simp] noncomputable def on3 (f:D->D->D->aA):ax->aA
 | [x,y,z]=>f x.2 y.2 z.2
 | _=>none
@[simp] noncomputable def bL (f:Int->Int->aA):D->D->aA
 | .int i,.int j=>f i j
 | _,_=>none
@[simp] noncomputable def bI:D->D->aA
 | .int i,.int j=>fI (i+j)
 | .lst xs,.lst ys=>if xs.length+ys.length<=SL then some (1,.lst (xs++ys)) else none
 | .tup xs,.tup ys=>if xs.length+ys.length<=SL then some (0,.tup (xs++ys)) else none
 | _,_=>none
noncomputable def cA:ay->Option am
 | []=>some []
 | .int i::ds=>if 0<=i/\i<6 then (cA ds).map λns=>i.toNat::ns else none
 | _::_=>none
noncomputable def aV (ns:am):am:=(List.range 6).filter λk=>ns.contains k
noncomputable def aL (ns:am):ay:=ns.map λn=>.int (Int.ofNat n)
@[simp] noncomputable def dF:D->D->aA
 | .int i,.int j=>if cN i||cN j then fI (i * j) else none
 | .lst xs,.int j=>if 0<=j/\cN j=true/\xs.length * j.toNat<=SL then some (1,.lst (List.replicate j.toNat xs).flatten) else none
 | .tup xs,.int j=>if xs.isEmpty=false/\1<=j/\j<=1000/\xs.length * j.toNat<=SL then some (0,.tup (List.replicate j.toNat xs).flatten) else none
 | _,_=>none
@[simp] noncomputable def jA (neg:Bool)(x y:D):aA:=if x.pur 60&&y.pur 60 then fB (if neg then !x.eq y else x.eq y) else none
@[simp] noncomputable def jM (neg:Bool)(x y:D):aA:=match y.seq with
 | some ys=>if x.pur 60&&D.pures ys then fB (if neg then !x.memb ys else x.memb ys) else none
 | none=>none
@[simp] noncomputable def aW:D->D->aA
 | x,.int i=>match x.seq with
  | some xs=>match (d6 xs.length i).bind λj=>xs[j]? with
   | some d=>some (0,d)
   | none=>none
  | none=>none
 | _,_=>none
@[simp] noncomputable def aY (lo hi:Option Int):D->aA
 | .lst xs=>some (1,.lst (cutD xs lo hi))
 | .tup xs=>some (0,.tup (cutD xs lo hi))
 | _=>none
noncomputable def hY (f:Nat):D->aA
 | .ins _ fs=>match fs.lookup f with | some d=>some (0,d) | none=>none
 | .exc _ fs=>match fs.lookup f with | some d=>some (0,d) | none=>none
 | _=>none
@[simp] noncomputable def gc (f:ay->aA):D->aA
 | .lst xs=>f xs
 | _=>none
@[simp] noncomputable def gh (f:ay->aA)(x:D):aA:=match x.seq with | some xs=>f xs | none=>none
@[simp] noncomputable def intD:D->aA
 | .int i=>fI i
 | .bl b=>fI (if b then 1 else 0)
 | _=>none
@[simp] noncomputable def jO:D->aA
 | .bl b=>fB (!b)
 | _=>none
@[simp] noncomputable def jS:D->aA
 | .int i=>fI (-i)
 | _=>none
@[simp] noncomputable def dc (neg:Bool):D->aA
 | .non=>fB (!neg)
 | _=>fB neg
@[simp] noncomputable def mC:D->aA
 | .lst xs=>some (0,.tup xs)
 | .tup xs=>some (0,.tup xs)
 | _=>none
noncomputable def b8 (x y:D):aA:=match x with
 | .tup xs=>if y.scal&&xs.all D.scal then (match y.find xs with | some j=>fI j | none=>none) else none
 | _=>none
@[simp] theorem ki (xs:ay)(y:D):b8 (.tup xs) y=if y.scal&&xs.all D.scal then (match y.find xs with | some j=>fI j | none=>none) else none:=rfl
def Cb {x y:D}{z:KD}(h:b8 x y=some z):∃xs,x=.tup xs:=by cases x <;> first | exact⟨_,rfl⟩ | cases h
@[simp] noncomputable def countD (x y:D):aA:=match x.seq with
 | some xs=>if y.pur 60&&D.pures xs then fI (xs.countP λz=>z.eq y) else none
 | none=>none
noncomputable def jU (x y:D):aA:=match x with
 | .lst xs=>if y.scal&&xs.all D.scal then fI ((xs.countP λz=>z.eq y:Nat):Int) else none
 | _=>none
@[simp] theorem cntD_lst (xs:ay)(y:D):jU (.lst xs) y=if y.scal&&xs.all D.scal then fI ((xs.countP λz=>z.eq y:Nat):Int) else none:=rfl
noncomputable def wW:ao->Option (Int×Int)
 | [i,j]=>some (i,j)
 | _=>none
noncomputable def uT:D->Option (Int×Int)
 | .tup xs=>(di xs).bind wW
 | _=>none
noncomputable def fJ:ay->Option (List (Int×Int))
 | []=>some []
 | x::xs=>(uT x).bind λp=>(fJ xs).map λps=>p::ps
noncomputable def gH (xs:ay):aA:=(fJ xs).bind λps=>if xs.length<64 then some (1,.lst (L2.da .non (L2.ef ps) xs)) else none
@[simp] noncomputable def gC:D->aA
 | .int j=>if 0<=j/\j<=SL then some (1,.lst (aL (List.range j.toNat))) else none
 | _=>none
noncomputable def bB (G:Pg):Op->ax->aA
 | .lst,vs=>some (bf vs+1,.lst (vs.map (·.2)))
 | .tup,vs=>some (bf vs+1,.tup (vs.map (·.2)))
 | .add,vs=>bE bI vs
 | .sub,vs=>bE (bL λi j=>fI (i - j)) vs
 | .mul,vs=>bE dF vs
 | .fdiv,vs=>bE (bL λi j=>if 0<j/\j<1000000000000000000000000000000000000000000000000 then fI (i / j) else none) vs
 | .mod,vs=>bE (bL λi j=>if 0<j then fI (i % j) else none) vs
 | .pow,vs=>bE (bL λi j=>if 0<=j/\j<=1000000/\cN i=true then fI (i ^ j.toNat) else none) vs
 | .shr,vs=>bE (bL λi j=>if 0<=j then fI (i / 2 ^ j.toNat) else none) vs
 | .neg,vs=>cj jS vs
 | .not,vs=>cj jO vs
 | .eq,vs=>bE (jA false) vs
 | .ne,vs=>bE (jA true) vs
 | .lt,vs=>bE (bL λi j=>fB (decide (i<j))) vs
 | .le,vs=>bE (bL λi j=>fB (decide (i<=j))) vs
 | .gt,vs=>bE (bL λi j=>fB (decide (j<i))) vs
 | .ge,vs=>bE (bL λi j=>fB (decide (j<=i))) vs
 | .isN,vs=>cj (dc false) vs
 | .notN,vs=>cj (dc true) vs
 | .isin,vs=>bE (jM false) vs
 | .nin,vs=>bE (jM true) vs
 | .ix,vs=>bE aW vs
 | .slL,vs=>bE (λx y=>match y with | .int i=>aY (some i) none x | _=>none) vs
 | .slH,vs=>bE (λx y=>match y with | .int i=>aY none (some i) x | _=>none) vs
 | .slLH,_=>none
 | .rev,vs=>cj (gc λxs=>some (1,.lst xs.reverse)) vs
 | .fld f,vs=>cj (hY f) vs
 | .isi ts,vs=>cj (λx=>fB (ts.any (bj G x))) vs
 | .len,vs=>cj (gh λxs=>fI xs.length) vs
 | .list,vs=>cj (gh λxs=>some (1,.lst xs)) vs
 | .lrng,vs=>cj gC vs
 | .lrev,_=>none
 | .tuple,vs=>cj mC vs
 | .all,vs=>cj (gc λxs=>match allB xs with | some b=>fB b | none=>none) vs
 | .any,vs=>cj (gc λxs=>match anyB xs with | some b=>fB b | none=>none) vs
 | .toInt,vs=>cj intD vs
 | .sum,_=>none
 | .srt,vs=>cj (gc gH) vs
 | .srtSet,vs=>cj (gc λxs=>match cA xs with | some ns=>some (1,.lst (aL (aV ns))) | none=>none) vs
 | .symd,_=>none
 | .min1,_=>none
 | .min2,vs=>bE (bL λi j=>fI (if j<i then j else i)) vs
 | .max2,vs=>bE (bL λi j=>fI (if j > i then j else i)) vs
 | .index,vs=>bE b8 vs
 | .count,vs=>bE jU vs
@[simp] theorem Gm (G:Pg)(vs:ax):bB G .lst vs=some (bf vs+1,.lst (vs.map (·.2))):=rfl
@[simp] theorem ET (G:Pg)(vs:ax):bB G .tup vs=some (bf vs+1,.tup (vs.map (·.2))):=rfl
@[simp] theorem Bx (G:Pg)(vs:ax):bB G .add vs=bE bI vs:=rfl
@[simp] theorem opD_sub (G:Pg)(vs:ax):bB G .sub vs=bE (bL λi j=>fI (i - j)) vs:=rfl
@[simp] theorem yw (G:Pg)(vs:ax):bB G .mul vs=bE dF vs:=rfl
@[simp] theorem opD_fdiv (G:Pg)(vs:ax):bB G .fdiv vs=bE (bL λi j=>if 0<j/\j<1000000000000000000000000000000000000000000000000 then fI (i / j) else none) vs:=rfl
@[simp] theorem opD_mod (G:Pg)(vs:ax):bB G .mod vs=bE (bL λi j=>if 0<j then fI (i % j) else none) vs:=rfl
@[simp] theorem opD_pow (G:Pg)(vs:ax):bB G .pow vs=bE (bL λi j=>if 0<=j/\j<=1000000/\cN i=true then fI (i ^ j.toNat) else none) vs:=rfl
@[simp] theorem opD_shr (G:Pg)(vs:ax):bB G .shr vs=bE (bL λi j=>if 0<=j then fI (i / 2 ^ j.toNat) else none) vs:=rfl
@[simp] theorem D4 (G:Pg)(vs:ax):bB G .neg vs=cj jS vs:=rfl
@[simp] theorem E6 (G:Pg)(vs:ax):bB G .not vs=cj jO vs:=rfl
@[simp] theorem Aj (G:Pg)(vs:ax):bB G .eq vs=bE (jA false) vs:=rfl
@[simp] theorem Cz (G:Pg)(vs:ax):bB G .ne vs=bE (jA true) vs:=rfl
@[simp] theorem opD_lt (G:Pg)(vs:ax):bB G .lt vs=bE (bL λi j=>fB (decide (i<j))) vs:=rfl
@[simp] theorem opD_le (G:Pg)(vs:ax):bB G .le vs=bE (bL λi j=>fB (decide (i<=j))) vs:=rfl
@[simp] theorem opD_gt (G:Pg)(vs:ax):bB G .gt vs=bE (bL λi j=>fB (decide (j<i))) vs:=rfl
@[simp] theorem opD_ge (G:Pg)(vs:ax):bB G .ge vs=bE (bL λi j=>fB (decide (j<=i))) vs:=rfl
@[simp] theorem xF (G:Pg)(vs:ax):bB G .isN vs=cj (dc false) vs:=rfl
@[simp] theorem Ft (G:Pg)(vs:ax):bB G .notN vs=cj (dc true) vs:=rfl
@[simp] theorem opD_isin (G:Pg)(vs:ax):bB G .isin vs=bE (jM false) vs:=rfl
@[simp] theorem opD_nin (G:Pg)(vs:ax):bB G .nin vs=bE (jM true) vs:=rfl
@[simp] theorem zr (G:Pg)(vs:ax):bB G .ix vs=bE aW vs:=rfl
@[simp] theorem opD_slL (G:Pg)(vs:ax):bB G .slL vs=bE (λx y=>match y with | .int i=>aY (some i) none x | _=>none) vs:=rfl
@[simp] theorem opD_slH (G:Pg)(vs:ax):bB G .slH vs=bE (λx y=>match y with | .int i=>aY none (some i) x | _=>none) vs:=rfl
@[simp] theorem opD_slLH (G:Pg)(vs:ax):bB G .slLH vs=none:=rfl
@[simp] theorem DR (G:Pg)(vs:ax):bB G .rev vs=cj (gc λxs=>some (1,.lst xs.reverse)) vs:=rfl
@[simp] theorem DA (G:Pg)(f:Nat)(vs:ax):bB G (.fld f) vs=cj (hY f) vs:=rfl
@[simp] theorem opD_isi (G:Pg)(ts:List Ty)(vs:ax):bB G (.isi ts) vs=cj (λx=>fB (ts.any (bj G x))) vs:=rfl
@[simp] theorem Dz (G:Pg)(vs:ax):bB G .len vs=cj (gh λxs=>fI xs.length) vs:=rfl
@[simp] theorem Dq (G:Pg)(vs:ax):bB G .list vs=cj (gh λxs=>some (1,.lst xs)) vs:=rfl
@[simp] theorem Bh (G:Pg)(vs:ax):bB G .lrng vs=cj gC vs:=rfl
@[simp] theorem opD_lrev (G:Pg)(vs:ax):bB G .lrev vs=none:=rfl
@[simp] theorem Fq (G:Pg)(vs:ax):bB G .tuple vs=cj mC vs:=rfl
@[simp] theorem Ca (G:Pg)(vs:ax):bB G .all vs=cj (gc λxs=>match allB xs with | some b=>fB b | none=>none) vs:=rfl
@[simp] theorem CH (G:Pg)(vs:ax):bB G .any vs=cj (gc λxs=>match anyB xs with | some b=>fB b | none=>none) vs:=rfl
@[simp] theorem xN (G:Pg)(vs:ax):bB G .toInt vs=cj intD vs:=rfl
@[simp] theorem opD_sum (G:Pg)(vs:ax):bB G .sum vs=none:=rfl
@[simp] theorem zY (G:Pg)(vs:ax):bB G .srt vs=cj (gc gH) vs:=rfl
@[simp] theorem DC (G:Pg)(vs:ax):bB G .srtSet vs=cj (gc λxs=>match cA xs with | some ns=>some (1,.lst (aL (aV ns))) | none=>none) vs:=rfl
@[simp] theorem opD_symd (G:Pg)(vs:ax):bB G .symd vs=none:=rfl
@[simp] theorem opD_min1 (G:Pg)(vs:ax):bB G .min1 vs=none:=rfl
@[simp] theorem opD_min2 (G:Pg)(vs:ax):bB G .min2 vs=bE (bL λi j=>fI (if j<i then j else i)) vs:=rfl
@[simp] theorem Bm (G:Pg)(vs:ax):bB G .max2 vs=bE (bL λi j=>fI (if j > i then j else i)) vs:=rfl
@[simp] theorem AV (G:Pg)(vs:ax):bB G .index vs=bE b8 vs:=rfl
@[simp] theorem opD_count (G:Pg)(vs:ax):bB G .count vs=bE jU vs:=rfl
@[simp,reducible] noncomputable def R.of {α:Type}:Option α->R α
 | some a=>.ok a
 | none=>.bad
def bY {α:Type}{x:α}(h:(none:Option α)=some x):False:=nomatch h
noncomputable def oM (f:D->Option ay):ax->Option ay
 | []=>none
 | x::r=>match r with
  | []=>f x.2
  | _::_=>none
noncomputable def wk2 (f:D->D->Option ay):ax->Option ay
 | []=>none
 | x::r=>match r with
  | []=>none
  | y::t=>match t with
   | []=>f x.2 y.2
   | _::_=>none
def tW {f:D->Option ay}{vs:ax}{ds:ay}(h:oM f vs=some ds):∃x,vs=[x]/\f x.2=some ds:=by
 cases vs with
 | nil=>exact (bY h).elim
 | cons x r=>
  cases r with
  | nil=>exact⟨x,rfl,h⟩
  | cons _ _=>exact (bY h).elim
def vX {f:D->D->Option ay}{vs:ax}{ds:ay}(h:wk2 f vs=some ds):∃x y,vs=[x,y]/\f x.2 y.2=some ds:=by
 cases vs with
 | nil=>exact (bY h).elim
 | cons x r=>
  cases r with
  | nil=>exact (bY h).elim
  | cons y t=>
   cases t with
   | nil=>exact⟨x,y,rfl,h⟩
   | cons _ _=>exact (bY h).elim
noncomputable def fm:D->Option Int
 | .int i=>some i
 | _=>none
def qO {d:D}{i:Int}(h:fm d=some i):d=.int i:=by
 cases d <;> first | exact (bY h).elim | exact congrArg D.int (cO h)
noncomputable def iY (d:D):Option ay:=(fm d).bind λj=>if cN j=true then some ((List.range j.toNat).map λ(n:Nat)=>.int n) else none
noncomputable def iW (d e:D):Option ay:=(fm d).bind λi=>(fm e).bind λj=>if cN i=true/\cN j=true then some ((List.range (j - i).toNat).map λ(n:Nat)=>.int (i+n)) else none
noncomputable def iI (x:D):Option ay:=x.seq.map λxs=>xs.mapIdx λn d=>.tup [.int n,d]
noncomputable def lM (x y:D):Option ay:=x.lstO.bind λxs=>y.lstO.map λys=>(xs.zip ys).map λp=>.tup [p.1,p.2]
noncomputable def c7:Wk->ax->Option ay
 | .seq=>oM D.seq
 | .rng1=>oM iY
 | .rng2=>wk2 iW
 | .enum=>oM iI
 | .zip=>wk2 lM
noncomputable abbrev Sl:=List (Option D)
@[simp] noncomputable def cD (a:Sl):aE->Option D
 | some i=>(a[i]?).join
 | none=>none
@[simp] noncomputable def bD {α:Type}(f:D->α):am->ay->List (Option α)->List (Option α)
 | i::is,d::ds,a=>bD f is ds (a.set i (some (f d)))
 | _,_,a=>a
@[simp] noncomputable def dC {α:Type}(f:D->α)(a:List (Option α)):Tg->D->Option (List (Option α))
 | .one i,d=>some (a.set i (some (f d)))
 | .many is,d=>match d with
  | .tup ds=>if ds.length=is.length then some (bD f is ds a) else none
  | _=>none
noncomputable def bc (f:D->R aA):ay->R ax
 | []=>.ok []
 | x::xs=>(f x).bind λo=>(bc f xs).bind λys=>.ok (match o with | some y=>y::ys | none=>ys)
@[simp] noncomputable def R.bl (r:R KD):R Bool:=r.bind λx=>match x.2 with
 | .bl b=>.ok b
 | _=>.bad
@[simp] noncomputable def R.nox {α:Type}(r:R α):R α:=match r with | .exc _ _=>.bad | r=>r
noncomputable def gp {α:Type}(d:D)(t e b:α):α:=match d with
 | .bl c=>if c then t else e
 | _=>b
@[simp] theorem kY {α:Type}(c:Bool)(t e b:α):gp (.bl c) t e b=if c then t else e:=rfl
section
variable (G:Pg)(cl:Nat->ax->Run)
@[simp] noncomputable def iy:Run->R KD
 | .ret k d []=>.ok (k,d)
 | .exc c fs []=>.exc c fs
 | _=>.bad
@[simp] noncomputable def fill (F:Fn)(vs:ax):ax:=vs++(F.dfl.drop (F.dfl.length - (F.np - vs.length))).map λd=>(99,d)
@[simp] noncomputable def dq (f m:Nat):Option Fn:=match G.fn f with
 | some F=>if F.io=[]/\m<=F.np/\F.np - m<=F.dfl.length then some F else none
 | none=>none
noncomputable def cz (c m:Nat):Option (Nat×Fn×D):=match G.cl c with
 | some C=>match C.init with
  | some f=>match G.fn f with
   | some F=>if F.io=[0]/\m+1<=F.np/\F.np - (m+1)<=F.dfl.length/\m<=50 then some (f,F,if C.isx then .exc c [] else .ins c []) else none
   | none=>none
  | none=>none
 | none=>none
@[simp] noncomputable def made:Run->R KD
 | .ret _ .non [x]=>.ok x
 | .exc c fs _=>.exc c fs
 | _=>.bad
@[simp] noncomputable def fR (p:Nat×Fn×D)(vs:ax):R KD:=made (cl p.1 ((1,p.2.2)::fill { p.2.1 with np:=p.2.1.np - 1 } vs))
noncomputable def ck (m k:Nat):D->Option (Nat×Fn)
 | .ins c fs=>match G.cl c with
  | some C=>match C.meths.lookup m with
   | some f=>match G.fn f with
    | some F=>if F.io=[]/\fs.lookup m=none/\k+1<=F.np/\F.np - (k+1)<=F.dfl.length then some (f,F) else none
    | none=>none
   | none=>none
  | none=>none
 | _=>none
@[simp] noncomputable def kd (i:Int)(x:D):D->R KD
 | .int j=>R.of (aY (some i) (some j) x)
 | _=>.bad
mutual
noncomputable def eval (a:Sl):Ex->R KD
 | .var i=>match a[i]? with
  | some (some d)=>.ok (0,d)
  | _=>.bad
 | .cst d=>.ok (99,d)
 | .op o es=>(evals a es).bind λvs=>R.of (bB G o vs)
 | .and x y=>(eval a x).bind λv=>gp v.2 (eval a y) (lc false) .bad
 | .or x y=>(eval a x).bind λv=>gp v.2 (lc true) (eval a y) .bad
 | .ite c x y=>(eval a c).bind λv=>gp v.2 (eval a x) (eval a y) .bad
 | .chain o p x y z=>(eval a x).bind λu=>(eval a y).bind λv=>(R.of (bB G o [u,v])).bind λb=>gp b.2 ((eval a z).bind λw=>R.of (bB G p [v,w])) (lc false) .bad
 | .sl2 x y z=>(eval a x).bind λu=>(eval a y).bind λv=>match v.2 with
  | .int i=>(eval a z).bind λw=>kd i u.2 w.2
  | _=>.bad
 | .comp caps tg wk it t e=>(evals a it).bind λvs=>match c7 wk vs with
  | some xs=>if xs.length<=SL then
    ((bc (λx=>match dC id (caps.map (cD a)) tg x with
     | some b=>((evals b t).bind λts=>match ts with
      | []=>(eval b e).bind λy=>.ok (some y)
      | [t]=>gp t.2 ((eval b e).bind λy=>.ok (some y)) (.ok none) .bad
      | _=>.bad)
     | none=>.bad) xs).nox).bind λys=>.ok (bf ys+1,.lst (ys.map (·.2)))
   else .bad
  | none=>.bad
 | .call f es=>(R.of (dq G f es.length)).bind λF=>(evals a es).bind λvs=>iy (cl f (fill F vs))
 | .make c es=>(R.of (cz G c es.length)).bind λp=>(evals a es).bind (fR cl p)
 | .meth m o es=>(eval a o).bind λx=>(R.of (ck G m es.length x.2)).bind λp=>(evals a es).bind λvs=>iy (cl p.1 (fill p.2 (x::vs)))
 | .bad=>.bad
noncomputable def evals (a:Sl):aG->R ax
 | []=>.ok []
 | e::es=>(eval a e).bind λx=>(evals a es).bind λxs=>.ok (x::xs)
end
@[simp] theorem de (a:Sl):evals G cl a []=.ok []:=rfl
@[simp] theorem bP (a:Sl)(e:Ex)(es:aG):evals G cl a (e::es)=(eval G cl a e).bind λx=>(evals G cl a es).bind λxs=>.ok (x::xs):=rfl
noncomputable def compF (b0:Sl)(tg:Tg)(t:aG)(e:Ex)(x:D):R aA:=match dC id b0 tg x with
 | some b=>(evals G cl b t).bind λts=>match ts with
  | []=>(eval G cl b e).bind λy=>.ok (some y)
  | [t]=>gp t.2 ((eval G cl b e).bind λy=>.ok (some y)) (.ok none) .bad
  | _=>.bad
 | none=>.bad
@[simp] theorem ko (a:Sl)(i:Nat):eval G cl a (.var i)=match a[i]? with
  | some (some d)=>.ok (0,d)
  | _=>.bad:=rfl
@[simp] theorem lh (a:Sl)(d:D):eval G cl a (.cst d)=.ok (99,d):=rfl
@[simp] theorem cR (a:Sl)(o:Op)(es:aG):eval G cl a (.op o es)=(evals G cl a es).bind λvs=>R.of (bB G o vs):=rfl
@[simp] theorem lX (a:Sl)(x y:Ex):eval G cl a (.and x y)=(eval G cl a x).bind λv=>gp v.2 (eval G cl a y) (lc false) .bad:=rfl
@[simp] theorem mH (a:Sl)(x y:Ex):eval G cl a (.or x y)=(eval G cl a x).bind λv=>gp v.2 (lc true) (eval G cl a y) .bad:=rfl
@[simp] theorem xx (a:Sl)(c x y:Ex):eval G cl a (.ite c x y)=(eval G cl a c).bind λv=>gp v.2 (eval G cl a x) (eval G cl a y) .bad:=rfl
@[simp] theorem rO (a:Sl)(o p:Op)(x y z:Ex):eval G cl a (.chain o p x y z)=(eval G cl a x).bind λu=>(eval G cl a y).bind λv=>(R.of (bB G o [u,v])).bind λb=>
  gp b.2 ((eval G cl a z).bind λw=>R.of (bB G p [v,w])) (lc false) .bad:=rfl
@[simp] theorem pe (a:Sl)(x y z:Ex):eval G cl a (.sl2 x y z)=(eval G cl a x).bind λu=>(eval G cl a y).bind λv=>match v.2 with
  | .int i=>(eval G cl a z).bind λw=>kd i u.2 w.2
  | _=>.bad:=rfl
@[simp] theorem my (a:Sl)(f:Nat)(es:aG):eval G cl a (.call f es)=(R.of (dq G f es.length)).bind λF=>(evals G cl a es).bind λvs=>iy (cl f (fill F vs)):=rfl
@[simp] theorem ny (a:Sl)(f:Nat)(es:aG):eval G cl a (.make f es)=(R.of (cz G f es.length)).bind λp=>(evals G cl a es).bind (fR cl p):=rfl
@[simp] theorem jL (a:Sl)(m:Nat)(o:Ex)(es:aG):eval G cl a (.meth m o es)=(eval G cl a o).bind λx=>(R.of (ck G m es.length x.2)).bind λp=>(evals G cl a es).bind λvs=>iy (cl p.1 (fill p.2 (x::vs))):=rfl
@[simp] theorem eU (a:Sl):eval G cl a .bad=.bad:=rfl
@[simp] theorem kF (a:Sl)(caps:List aE)(tg:Tg)(wk:Wk)(it t:aG)(e:Ex):eval G cl a (.comp caps tg wk it t e)=(evals G cl a it).bind λvs=>match c7 wk vs with
  | some xs=>if xs.length<=SL then ((bc (compF G cl (caps.map (cD a)) tg t e) xs).nox).bind λys=>.ok (bf ys+1,.lst (ys.map (·.2))) else .bad
  | none=>.bad:=by
 rfl
noncomputable abbrev Fr:=List aA
@[simp] noncomputable def Fr.sl (A:Fr):Sl:=A.map (Option.map (·.2))
inductive O where
 | nx (A:Fr) | ret (k:Nat) (d:D) (A:Fr) | brk (A:Fr) | cnt (A:Fr) | exc (c:Nat) (fs:List aJ) (A:Fr) | bad
mutual
@[simp] noncomputable def Ex.names:Ex->am
 | .var i=>[i]
 | .cst _=>[]
 | .op _ es=>Ex.namess es
 | .and a b=>a.names++b.names
 | .or a b=>a.names++b.names
 | .ite c a b=>c.names++(a.names++b.names)
 | .chain _ _ a b c=>a.names++(b.names++c.names)
 | .sl2 a b c=>a.names++(b.names++c.names)
 | .comp caps _ _ it _ _=>caps.filterMap id++Ex.namess it
 | .call _ es=>Ex.namess es
 | .make _ es=>Ex.namess es
 | .meth _ o es=>o.names++Ex.namess es
 | .bad=>[]
@[simp] noncomputable def Ex.namess:aG->am
 | []=>[]
 | e::es=>e.names++Ex.namess es
end
@[simp] noncomputable def frz1 (A:Fr)(i:Nat):Fr:=match A[i]? with
 | some (some (_,d))=>A.set i (some (0,d))
 | _=>A
@[simp] noncomputable def frz (ns:am)(A:Fr):Fr:=ns.foldl frz1 A
noncomputable def ii (A:Fr):Fr:=A.map (Option.map λx=>(0,x.2))
@[simp] noncomputable def settle (ns:am)(A:Fr)(x:KD):Fr:=if x.2.fb x.1 then A else frz ns A
@[simp] noncomputable def fD (A:Fr)(fs:List aJ):Fr:=if fs.all λp=>p.2.flat then A else ii A
@[simp] noncomputable def putF (f:Nat)(d:D):List aJ->List aJ
 | []=>[(f,d)]
 | (g,e)::r=>if g=f then (g,d)::r else (g,e)::putF f d r
noncomputable def br (body:D->Fr->O):ay->Fr->O
 | [],A=>.nx A
 | x::xs,A=>match body x A with
  | .nx A=>br body xs A
  | .cnt A=>br body xs A
  | .brk A=>.nx A
  | o=>o
noncomputable def cX (test:Fr->R Bool)(body:Fr->O):Nat->Fr->O
 | 0,_=>.bad
 | n+1,A=>match test A with
  | .ok true=>match body A with
   | .nx A=>cX test body n A
   | .cnt A=>cX test body n A
   | .brk A=>.nx A
   | o=>o
  | .ok false=>.nx A
  | .exc c fs=>.exc c fs (fD A fs)
  | .bad=>.bad
@[simp] noncomputable def R.toO {α:Type}(r:R α)(A:Fr)(f:α->O):O:=match r with
 | .ok a=>f a
 | .exc c fs=>.exc c fs (fD A fs)
 | .bad=>.bad
@[simp] noncomputable def O.seq (o:O)(f:Fr->O):O:=match o with
 | .nx A=>f A
 | o=>o
noncomputable def D.isI:D->Bool
 | .int _=>true
 | _=>false
noncomputable def fK (m:Mu)(k:Nat)(xs:ay)(vs:ax):aA:=match m,vs with
 | .append,[v]=>if xs.length<SL then some (dA k xs v+1,.lst (xs++[v.2])) else none
 | .extend,[v]=>match v.2 with
  | .tup ys=>if ys.all D.scal=true/\xs.length+ys.length<=SL then some (1,.lst (xs++ys)) else none
  | _=>none
 | .clear,[]=>some (99,.lst [])
 | .insert,[v,w]=>match v.2 with
  | .int i=>if 0<=i/\i.toNat<=xs.length/\xs.length<SL/\w.2.scal=true then some (1,.lst (xs.take i.toNat++w.2::xs.drop i.toNat)) else none
  | _=>none
 | .remove,[v]=>match v.2 with
  | .int i=>if xs.all D.isI=true then (match D.find (.int i) xs with | some j=>some (1,.lst (xs.eraseIdx j)) | none=>none) else none
  | _=>none
 | .pop0,[]=>if xs=[] then none else some (k+1,.lst xs.dropLast)
 | _,_=>none
@[simp] theorem tP (k:Nat)(xs:ay)(v:KD):fK .append k xs [v]=if xs.length<SL then some (dA k xs v+1,.lst (xs++[v.2])) else none:=rfl
@[simp] theorem DY (k:Nat)(xs:ay):fK .clear k xs []=some (99,.lst []):=rfl
@[simp] theorem mutD_insert (k:Nat)(xs:ay)(v w:KD):fK .insert k xs [v,w]=match v.2 with
  | .int i=>if 0<=i/\i.toNat<=xs.length/\xs.length<SL/\w.2.scal=true then some (1,.lst (xs.take i.toNat++w.2::xs.drop i.toNat)) else none
  | _=>none:=rfl
@[simp] theorem uH (k:Nat)(xs:ay)(v:KD):fK .remove k xs [v]=match v.2 with
  | .int i=>if xs.all D.isI=true then (match D.find (.int i) xs with | some j=>some (1,.lst (xs.eraseIdx j)) | none=>none) else none
  | _=>none:=rfl
@[simp] theorem uP (k:Nat)(xs:ay)(v:KD):fK .extend k xs [v]=match v.2 with
  | .tup ys=>if ys.all D.scal=true/\xs.length+ys.length<=SL then some (1,.lst (xs++ys)) else none
  | _=>none:=rfl
noncomputable def f8 (v:D):ay->Option ay
 | []=>some []
 | .lst xs::ds=>if xs.length<SL then (f8 v ds).map λes=>.lst (xs++[v])::es else none
 | _::_=>none
section
variable (io:am)
@[simp] noncomputable def cH (i:Nat)(x:KD)(A:Fr):O:=if io.contains i=false/\i<A.length then .nx (A.set i (some x)) else .bad
@[simp] noncomputable def setFs:am->ax->Fr->O
 | [],[],A=>.nx A
 | i::is,x::xs,A=>(cH io i x A).seq (setFs is xs)
 | _,_,_=>.bad
@[simp] noncomputable def bv (tg:Tg)(d:D)(A:Fr):O:=match tg,d with
 | .one i,d=>cH io i (0,d) A
 | .many is,.tup ds=>setFs io is (ds.map λd=>(0,d)) A
 | .many is,.lst ds=>setFs io is (ds.map λd=>(0,d)) A
 | _,_=>.bad
@[simp] noncomputable def eT (io:am)(is:am)(e:Ex)(A:Fr)(x:KD):O:=match x.2 with
 | .tup ds=>setFs io is (ds.map λd=>(0,d)) (settle e.names A x)
 | .lst ds=>setFs io is (ds.map λd=>(0,d)) (settle e.names A x)
 | _=>.bad
noncomputable def cr (A:Fr)(e:Ex)(r:R KD):O:=match e with
 | .var i=>match A[i]? with
  | some (some x)=>.ret x.1 x.2 (A.set i none)
  | _=>.bad
 | e=>r.toO A λx=>.ret x.1 x.2 (settle e.names A x)
@[simp] theorem wJ (A:Fr)(i:Nat)(r:R KD):cr A (.var i) r=match A[i]? with
  | some (some x)=>.ret x.1 x.2 (A.set i none)
  | _=>.bad:=rfl
@[simp] theorem retO_cst (A:Fr)(d:D)(r:R KD):cr A (.cst d) r=r.toO A λx=>.ret x.1 x.2 (settle (Ex.cst d).names A x):=rfl
@[simp] theorem retO_op (A:Fr)(o:Op)(es:aG)(r:R KD):cr A (.op o es) r=r.toO A λx=>.ret x.1 x.2 (settle (Ex.op o es).names A x):=rfl
@[simp] theorem retO_and (A:Fr)(x y:Ex)(r:R KD):cr A (.and x y) r=r.toO A λz=>.ret z.1 z.2 (settle (Ex.and x y).names A z):=rfl
@[simp] theorem retO_or (A:Fr)(x y:Ex)(r:R KD):cr A (.or x y) r=r.toO A λz=>.ret z.1 z.2 (settle (Ex.or x y).names A z):=rfl
@[simp] theorem retO_ite (A:Fr)(c x y:Ex)(r:R KD):cr A (.ite c x y) r=r.toO A λz=>.ret z.1 z.2 (settle (Ex.ite c x y).names A z):=rfl
@[simp] theorem retO_chain (A:Fr)(o p:Op)(x y w:Ex)(r:R KD):cr A (.chain o p x y w) r=r.toO A λz=>.ret z.1 z.2 (settle (Ex.chain o p x y w).names A z):=rfl
@[simp] theorem retO_sl2 (A:Fr)(x y w:Ex)(r:R KD):cr A (.sl2 x y w) r=r.toO A λz=>.ret z.1 z.2 (settle (Ex.sl2 x y w).names A z):=rfl
@[simp] theorem retO_comp (A:Fr)(caps:List aE)(tg:Tg)(wk:Wk)(it t:aG)(e:Ex)(r:R KD):cr A (.comp caps tg wk it t e) r=r.toO A λz=>.ret z.1 z.2 (settle (Ex.comp caps tg wk it t e).names A z):=rfl
@[simp] theorem retO_call (A:Fr)(f:Nat)(es:aG)(r:R KD):cr A (.call f es) r=r.toO A λz=>.ret z.1 z.2 (settle (Ex.call f es).names A z):=rfl
@[simp] theorem retO_make (A:Fr)(f:Nat)(es:aG)(r:R KD):cr A (.make f es) r=r.toO A λz=>.ret z.1 z.2 (settle (Ex.make f es).names A z):=rfl
@[simp] theorem retO_meth (A:Fr)(f:Nat)(o:Ex)(es:aG)(r:R KD):cr A (.meth f o es) r=r.toO A λz=>.ret z.1 z.2 (settle (Ex.meth f o es).names A z):=rfl
@[simp] theorem retO_bad (A:Fr)(r:R KD):cr A .bad r=r.toO A λz=>.ret z.1 z.2 (settle Ex.bad.names A z):=rfl
@[simp] noncomputable def raisO (ns:am)(A:Fr)(x:KD):O:=match x with
 | (_+1,.exc c fs)=>.exc c fs (fD (settle ns A x) fs)
 | _=>.bad
@[simp] noncomputable def dS (m:Mu)(vs:ax)(A:Fr)(x:Nat):Option aA->O
 | some (some (k+1,.lst xs))=>match fK m k xs vs with
  | some y=>.nx (A.set x (some y))
  | none=>.bad
 | _=>.bad
noncomputable def sg (m:Mu)(vs:ax)(A:Fr)(x:Nat)(i:Int):Option aA->O
 | some (some (k+2,.lst xs))=>match d6 xs.length i with
  | some j=>match xs[j]? with
   | some (.lst ys)=>match fK m k ys vs with
    | some y=>.nx (A.set x (some (dA (k+1) (xs.eraseIdx j) y+1,.lst (xs.set j y.2))))
    | none=>.bad
   | _=>.bad
  | none=>.bad
 | _=>.bad
@[simp] noncomputable def cm:Option aA->Bool
 | some (some (_,.lst _))=>true
 | _=>false
@[simp] noncomputable def dG (m:Mu)(A:Fr)(x:Nat)(es:aG)(ps vs:ax):O:=
 let A1:=if vs.all (λv=>v.2.fb v.1) then A else frz (Ex.namess es) A
 match ps with
 | []=>dS m vs A1 x A1[x]?
 | [(_,.int i)]=>sg m vs A1 x i A1[x]?
 | _=>.bad
@[simp] noncomputable def h8 (A:Fr)(x:Nat)(v w:KD):Option aA->O
 | some (some (k+1,.lst xs))=>match w.2 with
  | .int i=>if 0<=i/\i<xs.length then .nx (A.set x (some (1,.lst (xs.set i.toNat v.2)))) else .bad
  | _=>.bad
 | _=>.bad
@[simp] noncomputable def fO (A:Fr)(x f:Nat)(v:KD):Option aA->O
 | some (some (k+1,.ins c fs))=>if fs.length<50 then .nx (A.set x (some (dA k (fs.map (·.2)) v+1,.ins c (putF f v.2 fs)))) else .bad
 | some (some (k+1,.exc c fs))=>if fs.length<50 then .nx (A.set x (some (dA k (fs.map (·.2)) v+1,.exc c (putF f v.2 fs)))) else .bad
 | _=>.bad
@[simp] noncomputable def xinitO (A:Fr):ax->O
 | (_,.exc _ _)::_=>.nx A
 | _=>.bad
@[simp] noncomputable def tryO (G:Pg)(io:am)(c i x:Nat):O->O
 | .exc c' fs A'=>if bj G (.exc c' fs) (.cls c)=true then (cH io x (0,.exc c' fs) A').seq λA=>if io.contains i=false/\i≠x/\i<A.length then .nx (A.set i none) else .bad else .bad
 | o=>o
@[simp] noncomputable def appAll0 (io:am)(A:Fr)(x y:Nat)(v:KD):Option aA->O
 | some (some (k+2,.lst ds))=>if v.2.flat=true/\io.contains x=false/\x≠y/\x<A.length then match f8 v.2 ds with
   | some es=>.nx ((A.set y (some (k+2,.lst es))).set x none)
   | none=>.bad
  else .bad
 | _=>.bad
@[simp] noncomputable def jg (A:Fr)(s:Str)(i:Nat):Option aA->O
 | some (some x)=>.ret (x.1+1) (.tup [.str s,x.2]) (A.set i none)
 | _=>.bad
@[simp] noncomputable def appAt0 (A:Fr)(x i:Nat)(v:KD):Option aA->O
 | some (some (k+2,.tup ds))=>match ds[i]? with
  | some (.lst ys)=>if v.2.scal=true/\ys.length<SL then .nx (A.set x (some (k+2,.tup (ds.set i (.lst (ys++[v.2])))))) else .bad
  | _=>.bad
 | _=>.bad
@[simp] noncomputable def Wk.rng:Wk->Bool
 | .rng1=>true
 | .rng2=>true
 | _=>false
@[simp] noncomputable def Wk.fz (wk:Wk)(it:aG):am:=if wk.rng=true then [] else Ex.namess it
@[simp] noncomputable def kB (G:Pg)(loop:ay->Fr->O)(wk:Wk)(it:aG)(A:Fr)(vs:ax):O:=match c7 wk vs with
 | some xs=>if xs.length<=SL then loop xs (frz (wk.fz it) A) else .bad
 | none=>.bad
noncomputable def ownL:Option aA->Option ay
 | some (some (k+1,.lst xs))=>some xs
 | _=>none
def md {o:Option aA}{xs:ay}(h:ownL o=some xs):∃k,o=some (some (k+1,.lst xs)):=by
 unfold ownL at h;split at h
 .cases h; exact⟨_,rfl⟩
 .cases h
open Classical in
noncomputable def iu (A0:Fr)(x y:Nat):O->O
 | .nx A=>if ownL A[x]? = ownL A0[x]?/\ownL A[y]? = ownL A0[y]? then .nx A else .bad
 | .cnt A=>if ownL A[x]? = ownL A0[x]?/\ownL A[y]? = ownL A0[y]? then .cnt A else .bad
 | o=>o
noncomputable def iw (body:D->Fr->O)(x y:Nat)(A:Fr):O:=match (ownL A[x]?).bind λxs=>(ownL A[y]?).map λys=>(xs,ys) with
 | some z=>if D.flats z.1=true/\D.flats z.2=true/\z.1.length<=SL then br body ((z.1.zip z.2).map λp=>.tup [p.1,p.2]) A else .bad
 | none=>.bad
mutual
noncomputable def exec (io:am)(A:Fr):S->O
 | .set i e=>(eval G cl A.sl e).toO A λx=>cH io i x (settle e.names A x)
 | .setT is e=>(eval G cl A.sl e).toO A (eT io is e A)
 | .ret e=>cr A e (eval G cl A.sl e)
 | .ex e=>(eval G cl A.sl e).toO A λx=>.nx (settle e.names A x)
 | .iff c t e=>((eval G cl A.sl c).bl).toO A λb=>if b then execs io A t else execs io A e
 | .whl c b=>cX (λA=>(eval G cl A.sl c).bl) (λA=>execs io A b) 10000 A
 | .fo tg wk it b=>(evals G cl A.sl it).toO A (kB G (br λx A=>(bv io tg x A).seq λA=>execs io A b) wk it A)
 | .brk=>.brk A
 | .cnt=>.cnt A
 | .pass=>.nx A
 | .mut x path m es=>if cm A[x]? then (evals G cl A.sl path).toO A λps=>(evals G cl A.sl es).toO A (dG m A x es ps) else .bad
 | .put x path i e=>if path.isEmpty=true then (eval G cl A.sl e).toO A λv=>(eval G cl A.sl i).toO A λw=>h8 (settle e.names A v) x v w (settle e.names A v)[x]? else .bad
 | .sfld x f e=>(eval G cl A.sl e).toO A λv=>fO (settle e.names A v) x f v (settle e.names A v)[x]?
 | .retP s i=>jg A s i A[i]?
 | .foz tg x y b=>iw (λd A'=>iu A x y ((bv (x::y::io) tg d A').seq λA=>execs (x::y::io) A b)) x y A
 | .bad=>.bad
noncomputable def execs (io:am)(A:Fr):az->O
 | []=>.nx A
 | s::ss=>(exec io A s).seq λA=>execs io A ss
end
end
end
section
variable (G:Pg)(cl:Nat->ax->Run)(io:am)
@[simp] theorem qK (A:Fr):execs G cl io A []=.nx A:=rfl
@[simp] theorem ji (A:Fr)(s:S)(ss:az):execs G cl io A (s::ss)=(exec G cl io A s).seq λA=>execs G cl io A ss:=rfl
noncomputable def fG (tg:Tg)(b:az)(x:D)(A:Fr):O:=(bv io tg x A).seq λA=>execs G cl io A b
noncomputable def iz (c:Ex)(A:Fr):R Bool:=(eval G cl A.sl c).bl
noncomputable def kv (b:az)(A:Fr):O:=execs G cl io A b
@[simp] theorem la (A:Fr)(i:Nat)(e:Ex):exec G cl io A (.set i e)=(eval G cl A.sl e).toO A λx=>cH io i x (settle e.names A x):=rfl
@[simp] theorem rY (A:Fr)(is:am)(e:Ex):exec G cl io A (.setT is e)=(eval G cl A.sl e).toO A (eT io is e A):=rfl
@[simp] theorem lL (A:Fr)(e:Ex):exec G cl io A (.ret e)=cr A e (eval G cl A.sl e):=rfl
@[simp] theorem rC (A:Fr)(e:Ex):exec G cl io A (.ex e)=(eval G cl A.sl e).toO A λx=>.nx (settle e.names A x):=rfl
@[simp] theorem xu (A:Fr)(c:Ex)(t e:az):exec G cl io A (.iff c t e)=((eval G cl A.sl c).bl).toO A λb=>if b then execs G cl io A t else execs G cl io A e:=rfl
@[simp] theorem exec_brk (A:Fr):exec G cl io A .brk=.brk A:=rfl
@[simp] theorem exec_cnt (A:Fr):exec G cl io A .cnt=.cnt A:=rfl
@[simp] theorem exec_pass (A:Fr):exec G cl io A .pass=.nx A:=rfl
@[simp] theorem iG (A:Fr)(x:Nat)(path:aG)(m:Mu)(es:aG):exec G cl io A (.mut x path m es)=if cm A[x]? then (evals G cl A.sl path).toO A λps=>(evals G cl A.sl es).toO A (dG m A x es ps) else .bad:=rfl
@[simp] theorem wm (A:Fr)(x:Nat)(path:aG)(i e:Ex):exec G cl io A (.put x path i e)=if path.isEmpty=true then (eval G cl A.sl e).toO A λv=>(eval G cl A.sl i).toO A λw=>h8 (settle e.names A v) x v w (settle e.names A v)[x]? else .bad:=rfl
@[simp] theorem zT (A:Fr)(x f:Nat)(e:Ex):exec G cl io A (.sfld x f e)=(eval G cl A.sl e).toO A λv=>fO (settle e.names A v) x f v (settle e.names A v)[x]?:=rfl
@[simp] theorem uj (A:Fr)(tg:Tg)(x y:Nat)(b:az):exec G cl io A (.foz tg x y b)=iw (λd A'=>iu A x y ((bv (x::y::io) tg d A').seq λA=>execs G cl (x::y::io) A b)) x y A:=rfl
@[simp] theorem xa (A:Fr)(s:Str)(i:Nat):exec G cl io A (.retP s i)=jg A s i A[i]?:=rfl
@[simp] theorem CO (A:Fr):exec G cl io A .bad=.bad:=rfl
@[simp] theorem sA (A:Fr)(tg:Tg)(wk:Wk)(it:aG)(b:az):exec G cl io A (.fo tg wk it b)=(evals G cl A.sl it).toO A (kB G (br (fG G cl io tg b)) wk it A):=by
 rfl
@[simp] theorem vW (A:Fr)(c:Ex)(b:az):exec G cl io A (.whl c b)=cX (iz G cl c) (kv G cl io b) 10000 A:=by
 rfl
end
def uK {j:Nat}{x:KD}(h:x.2.flat=true):bt j x=true:=by simp[bt,h]
@[simp] theorem joinK_nil:bf []=98:=rfl
@[simp] theorem o4 {x:KD}{xs:ax}(h:x.2.flat=true):bf (x::xs)=bf xs:=by
 have h2:∀j,bt j x=true:=λj=>uK h;unfold bf;rw[List.find?_cons_of_neg (by simp[h])];cases xs.find? λx=>!x.2.flat with
 | none=>rfl
 | some y=>
  show (if (bt y.1 x&&xs.all (bt y.1))=true then y.1 else 0)=if xs.all (bt y.1)=true then y.1 else 0
  rw[h2 y.1,Bool.true_and]
@[simp] noncomputable def outs (A:Fr):am->Option ax
 | []=>some []
 | i::is=>match A[i]? with
  | some (some x)=>(outs A is).map λxs=>x::xs
  | _=>none
@[simp] noncomputable def fin (io:am):O->Run
 | .nx A=>match outs A io with
  | some xs=>.ret 99 .non xs
  | none=>.bad
 | .ret k d A=>match outs A io with
  | some xs=>.ret k d xs
  | none=>.bad
 | .exc c fs A=>match outs A io with
  | some xs=>.exc c fs xs
  | none=>.bad
 | _=>.bad
@[simp] noncomputable def bG (F:Fn)(vs:ax):Fr:=vs.mapIdx (λi v=>if F.io.contains i then some v else some (0,v.2))++List.replicate (F.ns - F.np) none
noncomputable def run (G:Pg):Nat->Nat->ax->Run
 | 0,_,_=>.bad
 | n+1,f,vs=>match G.fn f with
  | some F=>if vs.length=F.np then fin F.io (execs G (run G n) F.io (bG F vs) F.body) else .bad
  | none=>.bad
end
end Ip
end
section
namespace Ip
open PySem
structure Tb where
 fns:List (Str×Nat)
 cls:List (Str×Nat)
 wb:Str
 att:au
 fl:am
 cst:List (Str×D)
noncomputable def pos? (x:Str):au->aE
 | []=>none
 | y::ys=>if y == x then some 0 else (pos? x ys).map (·+1)
theorem pos?_get {x:Str}:∀{l:au} {i:Nat},pos? x l=some i->l[i]? = some x
 | [],_,h=>by simp[pos?] at h
 | y::ys,i,h=>by
  unfold pos? at h;by_cases e:(y == x)=true
  .rw[if_pos e] at h;cases h;simpa using e
  .rw[if_neg e] at h;cases q:pos? x ys with
   | none=>rw[q] at h; cases h
   | some j=>rw[q] at h; cases h; simpa using pos?_get q
noncomputable def rR:Operator->Option Op
 | .Add=>some .add | .Sub=>some .sub | .Mult=>some .mul | .FloorDiv=>some .fdiv | .Mod=>some .mod | .Pow=>some .pow
 | _=>none
noncomputable def gb:CmpOp->Option Op
 | .Eq=>some .eq | .NotEq=>some .ne | .Lt=>some .lt | .LtE=>some .le | .Gt=>some .gt | .GtE=>some .ge | .In=>some .isin | .NotIn=>some .nin
 | _=>none
noncomputable def bw (sc:Scope)(x:Str):Bool:=sc.names.lookup x == some .globalImplicit
noncomputable def aZ (sc:Scope)(x:Str):Bool:=sc.names.lookup x == some .local||sc.names.lookup x == some .cell||sc.names.lookup x == some .free
noncomputable def bK (sc:Scope)(x:Str):Bool:=sc.names.lookup x == some .local||sc.names.lookup x == some .cell
noncomputable def mo:List (Str×Op):=[("len",.len),("list",.list),("tuple",.tuple),("all",.all),("any",.any),("int",.toInt),("sorted",.srt)]
noncomputable def kq:List (Str×Ty):=[("int",.int),("bool",.bool),("str",.str),("list",.list),("tuple",.tuple),("dict",.dict),("ValueError",.verr)]
noncomputable def gL (T:Tb)(sc:Scope):Expr->Option Ty
 | .Name x _=>if bw sc x then (match T.cls.lookup x with
  | some c=>some (.cls c)
  | none=>kq.lookup x) else none
 | _=>none
noncomputable def dX (T:Tb)(sc:Scope)(e:Expr):Option (List Ty):=(gL T sc e).map λt=>[t]
noncomputable def c6 (sc:Scope)(N N':au)(caps:List aE)(scope:Scope):Bool:=
 scope.kind == .function&&scope.names.all (λy=>(y.2 != .cell||scope.names.lookup y.1 == some .cell)&&(y.2 != .local||scope.names.lookup y.1 == some .local)&&(y.2 != .free||(sc.names.lookup y.1 == some .cell||sc.names.lookup y.1 == some .free))) &&
 caps.length == N'.length&&decide N'.Nodup&&(caps.zip N').all λp=>match p.1 with
  | none=>true
  | some j=>N[j]? == some p.2&&scope.names.lookup p.2 == some .free
noncomputable def be (scope:Scope):au:=(scope.names.filter λy=>y.2 == .local||y.2 == .cell||y.2 == .free).map (·.1)
noncomputable def bn (N:au)(scope:Scope):List aE:=(scope.names.filter λy=>y.2 == .local||y.2 == .cell||y.2 == .free).map λy=>if y.2 == .free then pos? y.1 N else none
noncomputable def cu (sc:Scope)(N:au):Expr->Option Tg
 | .Name x _=>if bK sc x then (pos? x N).map .one else none
 | .Tuple es _ _=>(es.mapM λ(e:Expr)=>match e with
  | .Name x _=>if bK sc x then pos? x N else none
  | _=>none).map .many
 | _=>none
theorem uB (sc:Scope)(N:au)(x:Str)(p:Pos):cu sc N (.Name x p)=if bK sc x then (pos? x N).map .one else none:=rfl
theorem Ga (sc:Scope)(N:au)(es:av)(k:Nat)(p:Pos):cu sc N (.Tuple es k p)=(es.mapM λ(e:Expr)=>match e with
  | .Name x _=>if bK sc x then pos? x N else none
  | _=>none).map .many:=rfl
noncomputable def aU (x:Str):Bool:=!(x == ("__debug__" : Str))&&!(x == ("__classdict__" : Str))
noncomputable def cK:Expr->Bool
 | .Set _ _ _=>false
 | _=>true
noncomputable def i7:CmpOp->Option Op
 | .Eq=>some .eq | .NotEq=>some .ne | .Lt=>some .lt | .LtE=>some .le | .Gt=>some .gt | .GtE=>some .ge
 | _=>none
noncomputable def isNone:Expr->Bool
 | .Constant .none _ _=>true
 | _=>false
noncomputable def aP (es:av):Bool:=es.all λe=>match e with
 | .Starred _ _=>false
 | _=>true
noncomputable def fH:Expr->Bool
 | .Call (.Name _ _) [] [] _=>false
 | _=>true
noncomputable def dP:Wk->Tg->Bool
 | .enum,.one _=>false
 | .zip,.one _=>false
 | _,_=>true
noncomputable def cQ:Tg->am
 | .one i=>[i]
 | .many is=>is
noncomputable def bM:Expr->Option Str
 | .Name x _=>some x
 | _=>none
noncomputable def fZ:Expr->Option (Expr×List Expr×List Keyword×Pos)
 | .Call f a k p=>some (f,a,k,p)
 | _=>none
noncomputable def gB:Expr->Option (Expr×Str×Pos)
 | .Attribute o m p=>some (o,m,p)
 | _=>none
noncomputable def mT:Const->Option Int
 | .int i=>some i
 | _=>none
noncomputable def lx:Expr->Option Int
 | .Constant c _ _=>mT c
 | _=>none
def gI {e:Expr}{x:Str}(h:bM e=some x):∃p,e=.Name x p:=by
 cases e <;> first | exact (bY h).elim | exact⟨_,congrArg (λx=>Expr.Name x _) (cO h)⟩
def sK {e:Expr}{x:Expr×List Expr×List Keyword×Pos}(h:fZ e=some x):e=.Call x.1 x.2.1 x.2.2.1 x.2.2.2:=by
 cases e <;> first | exact (bY h).elim | exact congrArg (λx:Expr×List Expr×List Keyword×Pos=>Expr.Call x.1 x.2.1 x.2.2.1 x.2.2.2) (cO h)
def xt {e:Expr}{x:Expr×Str×Pos}(h:gB e=some x):e=.Attribute x.1 x.2.1 x.2.2:=by
 cases e <;> first | exact (bY h).elim | exact congrArg (λx:Expr×Str×Pos=>Expr.Attribute x.1 x.2.1 x.2.2) (cO h)
def Cd {c:Const}{i:Int}(h:mT c=some i):c=.int i:=by
 cases c <;> first | exact (bY h).elim | exact congrArg Const.int (cO h)
def F4 {e:Expr}{i:Int}(h:lx e=some i):∃k p,e=.Constant (.int i) k p:=by
 cases e <;> first | exact (bY h).elim | exact⟨_,_,congrArg (λc=>Expr.Constant c _ _) (Cd h)⟩
noncomputable def pJ:Expr->Option Expr
 | .UnaryOp o a _=>(match o with | .USub=>some a | _=>none)
 | _=>none
noncomputable def ip (e:Expr):Bool:=(pJ e).bind lx == some 1
def zE {b:Expr}(h:ip b=true):∃k p1 p2,b=.UnaryOp .USub (.Constant (.int 1) k p1) p2:=by
 obtain⟨a,n1,r1⟩:=du (GC.mp h);obtain⟨k,p1,rfl⟩:=F4 r1;cases b <;> first | exact (bY n1).elim | skip
 rename_i o a p;cases o <;> first | exact (bY n1).elim | (cases n1; exact⟨_,_,_,rfl⟩)
noncomputable def nh (sc:Scope)(f:Str)(a:Expr):Option (Op×Expr):=(fZ a).bind λc=>(bM c.1).bind λg=>if c.2.1.length=1/\c.2.2.1.isEmpty=true/\(bw sc g&&aP c.2.1)=true then
  (if (f == ("sorted" : Str)&&g == ("set" : Str))=true then c.2.1.head?.map λb=>(.srtSet,b) else if (f == ("list" : Str)&&g == ("range" : Str))=true then c.2.1.head?.map λb=>(.lrng,b) else none)
 else none
def zj {sc:Scope}{f:Str}{a b:Expr}{o:Op}(h:nh sc f a=some (o,b)):∃g p1 p2,a=.Call (.Name g p1) [b] [] p2/\bw sc g=true/\aP [b]=true/\((f = "sorted" /\ g = "set" /\ o=.srtSet)\/(f = "list" /\ g = "range" /\ o=.lrng)):=by
 unfold nh at h;obtain⟨c,n1,r1⟩:=du h;obtain⟨g,n2,r2⟩:=du r1;have e1:=sK n1;obtain⟨p,e2⟩:=gI n2;by_cases c1:c.2.1.length=1/\c.2.2.1.isEmpty=true/\(bw sc g&&aP c.2.1)=true
 rotate_left
 .rw[if_neg c1] at r2; exact (bY r2).elim
 rw[if_pos c1] at r2;obtain⟨l1,l2,l3⟩:=c1;obtain⟨x,ex⟩:=Jd.mp l1;rw[tw] at l3;have kw:c.2.2.1=[]:=Iy.mp l2;by_cases c2:(f == ("sorted" : Str)&&g == ("set" : Str))=true
 .rw[if_pos c2,ex] at r2;have r3:(Op.srtSet,x)=(o,b):=cO r2;cases r3;simp only[tw,GC] at c2;exact⟨g,p,c.2.2.2,by rw[e1,e2,ex,kw],l3.1,by rw[<-ex]; exact l3.2,.inl ⟨c2.1,c2.2,rfl⟩⟩
 .rw[if_neg c2] at r2;by_cases c3:(f == ("list" : Str)&&g == ("range" : Str))=true
  .rw[if_pos c3,ex] at r2;have r3:(Op.lrng,x)=(o,b):=cO r2;cases r3;simp only[tw,GC] at c3;exact⟨g,p,c.2.2.2,by rw[e1,e2,ex,kw],l3.1,by rw[<-ex]; exact l3.2,.inr ⟨c3.1,c3.2,rfl⟩⟩
  .rw[if_neg c3] at r2; exact (bY r2).elim
section
variable (T:Tb)
noncomputable def pv? (x:Str)(N:au)(f:Nat->Ex):Ex:=match pos? x N with
 | some i=>f i
 | none=>.bad
noncomputable def nz:Expr->Bool
 | .Name _ _=>true
 | _=>false
noncomputable def dU (m:Str)(args:av):Bool:=m == ("index" : Str)&&args.length == 1&&args.all nz
mutual
noncomputable def cE (sc:Scope)(N:au):Nat->Expr->Ex
 | 0,_=>.bad
 | n+1,.Name x _=>if aZ sc x&&aU x then pv? x N .var else if bw sc x then (match T.cst.lookup x with | some d=>.cst d | none=>.bad) else .bad
 | n+1,.Constant c _ _=>match c with
  | .none=>.cst .non
  | .bool b=>.cst (.bl b)
  | .int i=>.cst (.int i)
  | .str s=>.cst (.str s)
  | _=>.bad
 | n+1,.BinOp a o b _=>match rR o with
  | some o=>.op o [cE sc N n a,cE sc N n b]
  | none=>.bad
 | n+1,.UnaryOp o a _=>match o with
  | .Not=>.op .not [cE sc N n a]
  | .USub=>.op .neg [cE sc N n a]
  | _=>.bad
 | n+1,.BoolOp o es p=>match es with
  | []=>.bad
  | [a]=>cE sc N n a
  | a::b::es=>match o with
   | .And=>.and (cE sc N n a) (cE sc N n (.BoolOp o (b::es) p))
   | .Or=>.or (cE sc N n a) (cE sc N n (.BoolOp o (b::es) p))
 | n+1,.Compare a os bs _=>match os,bs with
  | [o],[b]=>match o with
   | .Is=>if isNone b then .op .isN [cE sc N n a] else .bad
   | .IsNot=>if isNone b then .op .notN [cE sc N n a] else .bad
   | o=>match gb o with
    | some o=>if cK b then .op o [cE sc N n a,cE sc N n b] else .bad
    | none=>.bad
  | [o,p],[b,c]=>match i7 o,i7 p with
   | some o,some p=>.chain o p (cE sc N n a) (cE sc N n b) (cE sc N n c)
   | _,_=>.bad
  | _,_=>.bad
 | n+1,.List es _=>if es.length<=1000 then .op .lst (es.map (cE sc N n)) else .bad
 | n+1,.Tuple es _ _=>if es.length<=1000 then .op .tup (es.map (cE sc N n)) else .bad
 | n+1,.Subscript a i _=>match i with
  | .Slice lo hi st _=>match lo,hi,st with
   | some l,none,none=>.op .slL [cE sc N n a,cE sc N n l]
   | none,some l,none=>.op .slH [cE sc N n a,cE sc N n l]
   | some l,some h,none=>.sl2 (cE sc N n a) (cE sc N n l) (cE sc N n h)
   | none,none,some s=>if ip s then .op .rev [cE sc N n a] else .bad
   | _,_,_=>.bad
  | i=>.op .ix [cE sc N n a,cE sc N n i]
 | n+1,.Attribute o f _=>match pos? f T.att with
  | some k=>if T.fl.contains k&&fH o then .op (.fld k) [cE sc N n o] else .bad
  | none=>.bad
 | n+1,.ListComp e gs scope _=>match gs with
  | [⟨tg,iter,ifs,as⟩]=>
   if c6 sc N (be scope) (bn N scope) scope&&as == 0&&decide (ifs.length<=1) then
    match cu scope (be scope) tg with
    | some g=>if dP (cI sc N n iter).1 g&&(cQ g).all (λi=>(bn N scope)[i]? == some none) then
      .comp (bn N scope) g (cI sc N n iter).1 (cI sc N n iter).2 (ifs.map (cT scope (be scope) n)) (cE scope (be scope) n e)
     else .bad
    | none=>.bad
   else .bad
  | _=>.bad
 | n+1,.Call f args kws cp=>match kws with
  | []=>match f with
   | .Name f _=>if bw sc f then
     match T.fns.lookup f with
     | some k=>if aP args then .call k (args.map (cE sc N n)) else .bad
     | none=>match T.cls.lookup f with
      | some c=>if aP args then .make c (args.map (cE sc N n)) else .bad
      | none=>cB sc N n f args
    else .bad
   | .Attribute o m ap=>match pos? m T.att with
     | some k=>if fH o&&aP args&&decide (args.length<30)&&ap.endLine == cp.line then .meth k (cE sc N n o) (args.map (cE sc N n)) else .bad
     | none=>if dU m args&&fH o&&aP args&&ap.endLine == cp.line then .op .index ((o::args).map (cE sc N n)) else .bad
   | _=>.bad
  | _=>.bad
 | _,_=>.bad
noncomputable def cT (sc:Scope)(N:au):Nat->Expr->Ex
 | 0,_=>.bad
 | n+1,.BoolOp o es p=>match es with
  | []=>.bad
  | [a]=>cT sc N n a
  | a::b::es=>match o with
   | .And=>.and (cT sc N n a) (cT sc N n (.BoolOp o (b::es) p))
   | .Or=>.or (cT sc N n a) (cT sc N n (.BoolOp o (b::es) p))
 | n+1,.UnaryOp .Not a _=>.op .not [cT sc N n a]
 | n+1,.IfExp _ _ _ _=>.bad
 | n+1,e=>cE sc N n e
noncomputable def cB (sc:Scope)(N:au):Nat->Str->av->Ex
 | 0,_,_=>.bad
 | n+1,f,args=>match args with
  | [a]=>match nh sc f a with
   | some (o,b)=>.op o [cE sc N n b]
   | none=>match mo.lookup f with
    | some o=>.op o [cE sc N n a]
    | none=>.bad
  | [a,b]=>if f == ("isinstance" : Str) then (match dX T sc b with
    | some ts=>.op (.isi ts) [cE sc N n a]
    | none=>.bad)
   else if f == ("max" : Str)&&aP [a,b] then .op .max2 [cE sc N n a,cE sc N n b]
   else .bad
  | _=>.bad
noncomputable def cI (sc:Scope)(N:au):Nat->Expr->Wk×aG
 | 0,_=>(.seq,[.bad])
 | n+1,e=>match e with
  | .Call (.Name f p) args [] q=>
   if bw sc f&&f == ("range" : Str)&&aP args then match args with
    | [a]=>(.rng1,[cE sc N n a])
    | [a,b]=>(.rng2,[cE sc N n a,cE sc N n b])
    | _=>(.seq,[.bad])
   else if bw sc f&&f == ("enumerate" : Str)&&aP args then match args with
    | [a]=>(.enum,[cE sc N n a])
    | _=>(.seq,[.bad])
   else if bw sc f&&f == ("zip" : Str)&&aP args then match args with
    | [a,b]=>(.zip,[cE sc N n a,cE sc N n b])
    | _=>(.seq,[.bad])
   else (.seq,[cE sc N n (.Call (.Name f p) args [] q)])
  | e=>(.seq,[cE sc N n e])
end
theorem zZ (sc:Scope)(N:au)(e:Expr):cE T sc N 0 e=.bad:=rfl
theorem ua (sc:Scope)(N:au)(n:Nat)(x:Str)(p:Pos):cE T sc N (n+1) (.Name x p)=if aZ sc x&&aU x then pv? x N .var else if bw sc x then (match T.cst.lookup x with | some d=>.cst d | none=>.bad) else .bad:=rfl
theorem pH (sc:Scope)(N:au)(n:Nat)(a:Expr)(os:List CmpOp)(bs:av)(p:Pos):cE T sc N (n+1) (.Compare a os bs p)=match os,bs with
  | [o],[b]=>match o with
   | .Is=>if isNone b then .op .isN [cE T sc N n a] else .bad
   | .IsNot=>if isNone b then .op .notN [cE T sc N n a] else .bad
   | o=>match gb o with
    | some o=>if cK b then .op o [cE T sc N n a,cE T sc N n b] else .bad
    | none=>.bad
  | [o,p],[b,c]=>match i7 o,i7 p with
   | some o,some p=>.chain o p (cE T sc N n a) (cE T sc N n b) (cE T sc N n c)
   | _,_=>.bad
  | _,_=>.bad:=rfl
theorem Bw (sc:Scope)(N:au)(n:Nat)(es:av)(p:Pos):cE T sc N (n+1) (.List es p)=if es.length<=1000 then .op .lst (es.map (cE T sc N n)) else .bad:=rfl
theorem Fe (sc:Scope)(N:au)(n:Nat)(es:av)(k:Nat)(p:Pos):cE T sc N (n+1) (.Tuple es k p)=if es.length<=1000 then .op .tup (es.map (cE T sc N n)) else .bad:=rfl
theorem kZ (sc:Scope)(N:au)(n:Nat)(a i:Expr)(p:Pos):cE T sc N (n+1) (.Subscript a i p)=match i with
  | .Slice lo hi st _=>match lo,hi,st with
   | some l,none,none=>.op .slL [cE T sc N n a,cE T sc N n l]
   | none,some l,none=>.op .slH [cE T sc N n a,cE T sc N n l]
   | some l,some h,none=>.sl2 (cE T sc N n a) (cE T sc N n l) (cE T sc N n h)
   | none,none,some s=>if ip s then .op .rev [cE T sc N n a] else .bad
   | _,_,_=>.bad
  | i=>.op .ix [cE T sc N n a,cE T sc N n i]:=rfl
theorem yc (sc:Scope)(N:au)(n:Nat)(o:Expr)(f:Str)(p:Pos):cE T sc N (n+1) (.Attribute o f p)=match pos? f T.att with
  | some k=>if T.fl.contains k&&fH o then .op (.fld k) [cE T sc N n o] else .bad
  | none=>.bad:=rfl
theorem uv (sc:Scope)(N:au)(n:Nat)(e:Expr)(gs:List Comprehension)(scope:Scope)(p:Pos):cE T sc N (n+1) (.ListComp e gs scope p)=match gs with
  | [⟨tg,iter,ifs,as⟩]=>
   if c6 sc N (be scope) (bn N scope) scope&&as == 0&&decide (ifs.length<=1) then
    match cu scope (be scope) tg with
    | some g=>if dP (cI T sc N n iter).1 g&&(cQ g).all (λi=>(bn N scope)[i]? == some none) then
      .comp (bn N scope) g (cI T sc N n iter).1 (cI T sc N n iter).2 (ifs.map (cT T scope (be scope) n)) (cE T scope (be scope) n e)
     else .bad
    | none=>.bad
   else .bad
  | _=>.bad:=rfl
theorem vN (sc:Scope)(N:au)(n:Nat)(f:Expr)(args:av)(kws:List Keyword)(cp:Pos):cE T sc N (n+1) (.Call f args kws cp)=match kws with
  | []=>match f with
   | .Name f _=>if bw sc f then
     match T.fns.lookup f with
     | some k=>if aP args then .call k (args.map (cE T sc N n)) else .bad
     | none=>match T.cls.lookup f with
      | some c=>if aP args then .make c (args.map (cE T sc N n)) else .bad
      | none=>cB T sc N n f args
    else .bad
   | .Attribute o m ap=>match pos? m T.att with
     | some k=>if fH o&&aP args&&decide (args.length<30)&&ap.endLine == cp.line then .meth k (cE T sc N n o) (args.map (cE T sc N n)) else .bad
     | none=>if dU m args&&fH o&&aP args&&ap.endLine == cp.line then .op .index ((o::args).map (cE T sc N n)) else .bad
   | _=>.bad
  | _=>.bad:=rfl
theorem v9 (sc:Scope)(N:au)(n:Nat)(f:Str)(args:av):cB T sc N (n+1) f args=match args with
  | [a]=>match nh sc f a with
   | some (o,b)=>.op o [cE T sc N n b]
   | none=>match mo.lookup f with
    | some o=>.op o [cE T sc N n a]
    | none=>.bad
  | [a,b]=>if f == ("isinstance" : Str) then (match dX T sc b with
    | some ts=>.op (.isi ts) [cE T sc N n a]
    | none=>.bad)
   else if f == ("max" : Str)&&aP [a,b] then .op .max2 [cE T sc N n a,cE T sc N n b]
   else .bad
  | _=>.bad:=rfl
theorem Ap (sc:Scope)(N:au)(n:Nat)(e:Expr):cI T sc N (n+1) e=match e with
  | .Call (.Name f p) args [] q=>
   if bw sc f&&f == ("range" : Str)&&aP args then match args with
    | [a]=>(.rng1,[cE T sc N n a])
    | [a,b]=>(.rng2,[cE T sc N n a,cE T sc N n b])
    | _=>(.seq,[.bad])
   else if bw sc f&&f == ("enumerate" : Str)&&aP args then match args with
    | [a]=>(.enum,[cE T sc N n a])
    | _=>(.seq,[.bad])
   else if bw sc f&&f == ("zip" : Str)&&aP args then match args with
    | [a,b]=>(.zip,[cE T sc N n a,cE T sc N n b])
    | _=>(.seq,[.bad])
   else (.seq,[cE T sc N n (.Call (.Name f p) args [] q)])
  | e=>(.seq,[cE T sc N n e]):=rfl
noncomputable def ps? (x:Str)(N:au)(f:Nat->S):S:=match pos? x N with
 | some i=>f i
 | none=>.bad
noncomputable def fA:Expr->Bool
 | .Call _ _ _ _=>true
 | .Name _ _=>true
 | .Subscript _ _ _=>true
 | _=>false
noncomputable def mO:Expr->Option (Expr×Expr×Pos)
 | .Subscript a i p=>some (a,i,p)
 | _=>none
def CB {e:Expr}{x:Expr×Expr×Pos}(h:mO e=some x):e=.Subscript x.1 x.2.1 x.2.2:=by
 cases e <;> first | exact (bY h).elim | (cases h; rfl)
noncomputable def jV (e:Expr):Option (Str×Str):=(mO e).bind λt=>(bM t.1).bind λx=>(bM t.2.1).map λj=>(x,j)
def At {e:Expr}{x j:Str}(h:jV e=some (x,j)):∃p1 p2 p3,e=.Subscript (.Name x p1) (.Name j p2) p3:=by
 obtain⟨t,n1,r1⟩:=du h;obtain⟨x',n2,r2⟩:=du r1;obtain⟨j',n3,r3⟩:=cJ r2;cases r3;obtain⟨p1,e1⟩:=gI n2;obtain⟨p2,e2⟩:=gI n3;exact⟨p1,p2,t.2.2,by rw[CB n1,e1,e2]⟩
noncomputable def kf (e:Expr):Option (Str×Str):=(gB e).bind λt=>(bM t.1).map λx=>(x,t.2.1)
def CP {e:Expr}{x f:Str}(h:kf e=some (x,f)):∃p1 p2,e=.Attribute (.Name x p1) f p2:=by
 obtain⟨t,n1,r1⟩:=du h;obtain⟨x',n2,r2⟩:=cJ r1;cases r2;obtain⟨p1,e1⟩:=gI n2;exact⟨p1,t.2.2,by rw[xt n1,e1]⟩
noncomputable def mi:Expr->Bool
 | .ListComp _ _ _ _=>true
 | _=>false
noncomputable def kh (e:Expr):Option (Str×Str×Pos×List Expr×Pos):=(fZ e).bind λc=>(gB c.1).bind λt=>(bM t.1).bind λx=>if c.2.2.1.isEmpty=true then some (x,t.2.1,t.2.2,c.2.1,c.2.2.2) else none
def Ce {e:Expr}{x f:Str}{mp cp:Pos}{a:av}(h:kh e=some (x,f,mp,a,cp)):∃p1,e=.Call (.Attribute (.Name x p1) f mp) a [] cp:=by
 obtain⟨t,n1,r1⟩:=du h;obtain⟨u,n2,r2⟩:=du r1;obtain⟨x',n3,r3⟩:=du r2;by_cases c:t.2.2.1.isEmpty=true
 rotate_left
 .rw[if_neg c] at r3; exact (bY r3).elim
 rw[if_pos c] at r3;cases r3;obtain⟨p1,e1⟩:=gI n3;exact⟨p1,by rw[sK n1,xt n2,e1,Iy.mp c]⟩
noncomputable def iF:Expr->Option av
 | .Tuple es _ _=>some es
 | _=>none
def v8 {e:Expr}{es:av}(h:iF e=some es):∃k p,e=.Tuple es k p:=by
 cases e <;> first | exact (bY h).elim | (cases h; exact⟨_,_,rfl⟩)
noncomputable def jT (sc:Scope)(N:au)(n:Nat)(ts:av)(e:Expr):S:=match ts with
 | []=>.bad
 | t::r=>if r.isEmpty=true then (match bM t with
  | some x=>if bK sc x then ps? x N λi=>.set i (cE T sc N n e) else .bad
  | none=>match jV t with
   | some (x,j)=>if aZ sc x&&aU x&&aZ sc j&&aU j then ps? x N λk=>ps? j N λi=>.put k [] (.var i) (cE T sc N n e) else .bad
   | none=>match kf t with
    | some (x,f)=>if aZ sc x&&aU x then ps? x N λk=>ps? f T.att λj=>if T.fl.contains j then .sfld k j (cE T sc N n e) else .bad else .bad
    | none=>match iF t with
     | some _=>if fA e then (match cu sc N t with
      | some (.many is)=>.setT is (cE T sc N n e)
      | _=>.bad) else .bad
     | none=>.bad) else .bad
noncomputable def ng (sc:Scope)(N:au)(n:Nat)(x:Str)(mp cp:Pos)(args:av):S:=match args with
 | [a]=>if aP [a]&&mp.endLine == cp.line then ps? x N λi=>.mut i [] .append [cE T sc N n a] else .bad
 | _=>.bad
noncomputable def lJ (sc:Scope)(N:au)(n:Nat)(x:Str)(mp cp:Pos)(args:av):S:=match args with
 | [a]=>if aP [a]&&mp.endLine == cp.line then ps? x N λi=>.mut i [] .extend [cE T sc N n a] else .bad
 | _=>.bad
noncomputable def nG (sc:Scope)(N:au)(n:Nat)(x:Str)(mp cp:Pos)(args:av):S:=match args with
 | [a]=>if aP [a]&&mp.endLine == cp.line then ps? x N λi=>.mut i [] .remove [cE T sc N n a] else .bad
 | _=>.bad
noncomputable def l5 (N:au)(x:Str)(mp cp:Pos)(args:av):S:=match args with
 | []=>if mp.endLine == cp.line then ps? x N λi=>.mut i [] .clear [] else .bad
 | _=>.bad
noncomputable def kg (sc:Scope)(N:au)(n:Nat)(e:Expr):S:=match kh e with
 | some (x,m,mp,args,cp)=>
  if aZ sc x&&aU x&&m == ("append" : Str) then ng T sc N n x mp cp args
  else if aZ sc x&&aU x&&m == ("extend" : Str) then lJ T sc N n x mp cp args
  else if aZ sc x&&aU x&&m == ("clear" : Str) then l5 N x mp cp args
  else if aZ sc x&&aU x&&m == ("remove" : Str) then nG T sc N n x mp cp args
  else .ex (cE T sc N n e)
 | none=>if mi e then .bad else .ex (cE T sc N n e)
noncomputable def j6:Expr->Option Str
 | .Constant c _ _=>(match c with | .str s=>some s | _=>none)
 | _=>none
def FY {e:Expr}{s:Str}(h:j6 e=some s):∃k p,e=.Constant (.str s) k p:=by
 cases e <;> first | exact (bY h).elim | skip
 rename_i c k p;cases c <;> first | exact (bY h).elim | (cases h; exact⟨_,_,rfl⟩)
noncomputable def oz (sc:Scope)(e:Expr):Option (Str×Str):=(iF e).bind λes=>if es.length=2 then (es.head?.bind j6).bind λs=>(es.getLast?.bind bM).bind λx=>if (aZ sc x&&aU x)=true then some (s,x) else none else none
def EK {sc:Scope}{e:Expr}{s x:Str}(h:oz sc e=some (s,x)):∃k1 p1 p2 k3 p3,e=.Tuple [.Constant (.str s) k1 p1,.Name x p2] k3 p3/\aZ sc x=true/\aU x=true:=by
 unfold oz at h;obtain⟨es,n1,r1⟩:=du h;obtain⟨k3,p3,e1⟩:=v8 n1;by_cases c1:es.length=2
 rotate_left
 .rw[if_neg c1] at r1; exact (bY r1).elim
 rw[if_pos c1] at r1;obtain⟨a,b,rfl⟩:∃a b,es=[a,b]:=by
  match es,c1 with
  | [a,b],_=>exact⟨a,b,rfl⟩
 obtain⟨s',n2,r2⟩:=du r1;obtain⟨x',n3,r3⟩:=du r2;by_cases c2:(aZ sc x'&&aU x')=true
 rotate_left
 .rw[if_neg c2] at r3; exact (bY r3).elim
 rw[if_pos c2] at r3;cases r3;obtain⟨k1,p1,e2⟩:=FY (show j6 a=some s from n2);obtain⟨p2,e3⟩:=gI (show bM b=some x from n3);rw[tw] at c2;exact⟨k1,p1,p2,k3,p3,by rw[e1,e2,e3],c2.1,c2.2⟩
noncomputable def oi:Ex->Bool
 | .var _=>true
 | _=>false
noncomputable def ke (sc:Scope)(N:au)(n:Nat)(o:Option Expr):S:=match o with
 | none=>.ret (.cst .non)
 | some e=>match bM e with
  | some x=>if aZ sc x&&aU x then ps? x N λi=>.ret (.var i) else .bad
  | none=>match oz sc e with
   | some (s,x)=>ps? x N λi=>.retP s i
   | none=>if oi (cE T sc N n e) then .bad else .ret (cE T sc N n e)
noncomputable def gW (sc:Scope)(e:Expr):Option (Str×Str):=(fZ e).bind λc=>(bM c.1).bind λf=>if c.2.1.length=2/\c.2.2.1.isEmpty=true/\(bw sc f&&f == ("zip" : Str))=true then (c.2.1.head?.bind bM).bind λx=>(c.2.1.getLast?.bind bM).bind λy=>if (aZ sc x&&aU x&&aZ sc y&&aU y)=true then some (x,y) else none else none
def D2 {sc:Scope}{e:Expr}{x y:Str}(h:gW sc e=some (x,y)):∃p1 p2 p3 q,e=.Call (.Name "zip" p1) [.Name x p2,.Name y p3] [] q/\bw sc "zip" = true/\aZ sc x=true/\aU x=true/\aZ sc y=true/\aU y=true:=by
 unfold gW at h;obtain⟨c,n1,r1⟩:=du h;obtain⟨f,n2,r2⟩:=du r1;by_cases c1:c.2.1.length=2/\c.2.2.1.isEmpty=true/\(bw sc f&&f == ("zip" : Str))=true
 rotate_left
 .rw[if_neg c1] at r2; exact (bY r2).elim
 rw[if_pos c1] at r2;obtain⟨l1,l2,l3⟩:=c1;obtain⟨a,b,eab⟩:∃a b,c.2.1=[a,b]:=by
  generalize c.2.1=es at l1;match es,l1 with
  | [a,b],_=>exact⟨a,b,rfl⟩
 rw[eab] at r2;obtain⟨x',n3,r3⟩:=du r2;obtain⟨y',n4,r4⟩:=du r3;by_cases c2:(aZ sc x'&&aU x'&&aZ sc y'&&aU y')=true
 rotate_left
 .rw[if_neg c2] at r4; exact (bY r4).elim
 rw[if_pos c2] at r4;cases r4;simp only[tw,GC] at l3 c2;obtain⟨p1,e2⟩:=gI n2;obtain⟨p2,e3⟩:=gI (show bM a=some x from n3);obtain⟨p3,e4⟩:=gI (show bM b=some y from n4);have e1:=sK n1;have kw:c.2.2.1=[]:=Iy.mp l2;exact⟨p1,p2,p3,c.2.2.2,by rw[e1,e2,eab,e3,e4,kw,l3.2],l3.2 ▸ l3.1,c2.1.1.1,c2.1.1.2,c2.1.2,c2.2⟩
noncomputable def jQ (sc:Scope)(N:au)(n:Nat)(tg it:Expr)(b els:aH)(cb:az):S:=match els with
 | _::_=>.bad
 | []=>match cu sc N tg with
   | some g=>match gW sc it with
    | some z=>(match g with
     | .many is=>ps? z.1 N λi=>ps? z.2 N λj=>.foz (.many is) i j cb
     | .one _=>.bad)
    | none=>if dP (cI T sc N n it).1 g then .fo g (cI T sc N n it).1 (cI T sc N n it).2 cb else .bad
   | none=>.bad
noncomputable def cS (sc:Scope)(N:au):Nat->Stmt->S
 | 0,_=>.bad
 | n+1,.Assign ts e _=>jT T sc N n ts e
 | n+1,.Expr e _=>kg T sc N n e
 | n+1,.Return o _=>ke T sc N n o
 | n+1,.If c a b _=>.iff (cT T sc N n c) (a.map (cS sc N n)) (b.map (cS sc N n))
 | n+1,.For tg it b els _=>jQ T sc N n tg it b els (b.map (cS sc N n))
 | n+1,.While c b els _=>if els.isEmpty=true then .whl (cT T sc N n c) (b.map (cS sc N n)) else .bad
 | _,_=>.bad
theorem AW (sc:Scope)(N:au)(n:Nat)(ts:av)(e:Expr)(p:Pos):cS T sc N (n+1) (.Assign ts e p)=jT T sc N n ts e:=rfl
theorem DT (sc:Scope)(N:au)(n:Nat)(e:Expr)(p:Pos):cS T sc N (n+1) (.Expr e p)=kg T sc N n e:=rfl
theorem xK (sc:Scope)(N:au)(n:Nat)(o:Option Expr)(p:Pos):cS T sc N (n+1) (.Return o p)=ke T sc N n o:=rfl
theorem Fc (sc:Scope)(N:au)(n:Nat)(c:Expr)(b els:aH)(p:Pos):cS T sc N (n+1) (.While c b els p)=if els.isEmpty=true then .whl (cT T sc N n c) (b.map (cS T sc N n)) else .bad:=rfl
theorem Aa (sc:Scope)(N:au)(n:Nat)(tg it:Expr)(b els:aH)(p:Pos):cS T sc N (n+1) (.For tg it b els p)=jQ T sc N n tg it b els (b.map (cS T sc N n)):=rfl
noncomputable def rV:Expr->Option D
 | .Constant .none _ _=>some .non
 | .Constant (.bool b) _ _=>some (.bl b)
 | .Constant (.int i) _ _=>some (.int i)
 | .Constant (.str s) _ _=>some (.str s)
 | _=>none
noncomputable def fN (a:Arguments)(sc:Scope):au:=
 let ps:=a.args.map (·.arg)
 ps++((sc.names.filter λy=>(y.2 == .local||y.2 == .cell)&&!ps.contains y.1).map (·.1))
noncomputable def cF (io:am):Stmt->Option Fn
 | .FunctionDef _ a body [] _ _ sc _ _ _=>(a.defaults.mapM rV).map λds=>⟨a.args.length,io,(fN a sc).length,ds,body.map (cS T sc (fN a sc) 60)⟩
 | _=>none
end
end Ip
end
section
namespace L2
open PySem PySem.Spec PyProof.Rows
open Ip (D KD Ex Op Pg Fn Sl Fr Wk Tg Tb)
structure Wd where
 K:bq
 iA:Nat->aF
 xA:Nat->aF
 att:au
def Sub (S H:Hp):Prop:=∀a o,S a=some o->H a=some o
def Sub.refl (H:Hp):Sub H H:=λ_ _ h=>h
def Sub.trans {A B C:Hp}(h:Sub A B)(k:Sub B C):Sub A C:=λa o e=>k a o (h a o e)
theorem Sub.upd {H:Hp}{a:Addr}{o:HO}(h:H a=none):Sub H (upd H a o):=λb u e=>by
 rw[ca (λz=>by rw[z,h] at e; cases e)]; exact e
theorem Sub.none {A B:Hp}(h:Sub A B){a:Addr}(e:B a=none):A a=none:=by
 cases q:A a with
 | none=>rfl
 | some o=>rw[h a o q] at e; cases e
open Classical in
noncomputable def hid (N:Addr->Prop)(H:Hp):Hp:=λa=>if N a then none else H a
def bg {N:Addr->Prop}{H:Hp}{a:Addr}{o:HO}:hid N H a=some o↔¬N a/\H a=some o:=by
 unfold hid;by_cases h:N a
 .simp[h]
 .simp[h]
def bJ {N:Addr->Prop}{H:Hp}:Sub (hid N H) H:=λ_ _ e=>(bg.mp e).2
def gi {N N':Addr->Prop}{H H':Hp}(h:Sub H H')(n:∀a,N' a->N a\/H a=none):Sub (hid N H) (hid N' H'):=λa o e=>by
 obtain⟨h1,h2⟩:=bg.mp e;refine bg.mpr ⟨λz=>?_,h a o h2⟩;rcases n a z with q | q
 .exact h1 q
 .rw[h2] at q; cases q
theorem Rd.sub {S H:Hp}{a:Addr}{u:HO}(h:Sub S H):Rd S a u->Rd H a u
 | .inl e=>.inl (h _ _ e)
 | .inr ⟨o,e⟩=>.inr ⟨o,h _ _ e⟩
theorem SqL.sub {K:bq}{S H:Hp}{a:Addr}{xs:aw}(h:Sub S H):SqL K S a xs->SqL K H a xs
 | .inl e=>.inl (Rd.sub h e)
 | .inr e=>.inr e
theorem SqT.sub {K:bq}{S H:Hp}{a:Addr}{xs:aw}(h:Sub S H):SqT K S a xs->SqT K H a xs
 | .inl e=>.inl (Rd.sub h e)
 | .inr e=>.inr e
mutual
inductive Den (W:Wd) (S:Hp):V->D->Prop
 | non:Den W S .non .non
 | bl {b:Bool}:Den W S (.bl b) (.bl b)
 | int {i:Int}:Den W S (.int i) (.int i)
 | str {s:Str}:Den W S (.str s) (.str s)
 | lst {a:Addr} {vs:aw} {ds:ay} (h:Rd S a (.lst vs)) (q:Dens W S vs ds):Den W S (.ref a) (.lst ds)
 | tup {a:Addr} {vs:aw} {ds:ay} (h:SqT W.K S a vs) (q:Dens W S vs ds):Den W S (.ref a) (.tup ds)
 | ins {a C dx:Addr} {c:Nat} {fs:List (Str×V)} {ds:List aJ} (h:S a=some (.ins C dx fs)) (hc:W.iA c=some C) (q:DenF W S fs ds):Den W S (.ref a) (.ins c ds)
 | exc {a C:Addr} {nw:Bool} {c:Nat} {fs:List (Str×V)} {ds:List aJ} (h:S a=some (.exc C nw fs)) (hc:W.xA c=some C) (q:DenF W S fs ds):Den W S (.ref a) (.exc c ds)
inductive Dens (W:Wd) (S:Hp):aw->ay->Prop
 | nil:Dens W S [] []
 | cons {v:V} {d:D} {vs:aw} {ds:ay} (h:Den W S v d) (q:Dens W S vs ds):Dens W S (v::vs) (d::ds)
inductive DenF (W:Wd) (S:Hp):List (Str×V)->List aJ->Prop
 | nil:DenF W S [] []
 | cons {n:Str} {f:Nat} {v:V} {d:D} {vs:List (Str×V)} {ds:List aJ} (hf:W.att[f]? = some n) (h:Den W S v d) (q:DenF W S vs ds):DenF W S ((n,v)::vs) ((f,d)::ds)
end
mutual
theorem Den.mono {W:Wd}{S H:Hp}(h:Sub S H):∀{v d},Den W S v d->Den W H v d
 | _,_,.non=>.non
 | _,_,.bl=>.bl
 | _,_,.int=>.int
 | _,_,.str=>.str
 | _,_,.lst e q=>.lst (Rd.sub h e) (q.mono h)
 | _,_,.tup e q=>.tup (SqT.sub h e) (q.mono h)
 | _,_,.ins e hc q=>.ins (h _ _ e) hc (q.mono h)
 | _,_,.exc e hc q=>.exc (h _ _ e) hc (q.mono h)
theorem Dens.mono {W:Wd}{S H:Hp}(h:Sub S H):∀{v d},Dens W S v d->Dens W H v d
 | _,_,.nil=>.nil
 | _,_,.cons e q=>.cons (e.mono h) (q.mono h)
theorem DenF.mono {W:Wd}{S H:Hp}(h:Sub S H):∀{v d},DenF W S v d->DenF W H v d
 | _,_,.nil=>.nil
 | _,_,.cons f e q=>.cons f (e.mono h) (q.mono h)
end
theorem Dens.length {W:Wd}{S:Hp}:∀{vs ds},Dens W S vs ds->vs.length=ds.length
 | _,_,.nil=>rfl
 | _,_,.cons _ q=>by rw[List.length_cons,List.length_cons,q.length]
theorem Dens.get {W:Wd}{S:Hp}:∀{vs ds} {i:Nat} {d:D},Dens W S vs ds->ds[i]? = some d->∃v,vs[i]? = some v/\Den W S v d
 | _,_,_,_,.nil,e=>by simp at e
 | _,_,0,_,.cons h _,e=>by simp at e; subst e; exact⟨_,rfl,h⟩
 | _,_,i+1,_,.cons _ q,e=>by simpa using q.get (i:=i) (by simpa using e)
theorem Dens.append {W:Wd}{S:Hp}:∀{vs ws ds es},Dens W S vs ds->Dens W S ws es->Dens W S (vs++ws) (ds++es)
 | _,_,_,_,.nil,q=>q
 | _,_,_,_,.cons h t,q=>.cons h (t.append q)
theorem Dens.take {W:Wd}{S:Hp}:∀{vs ds} (n:Nat),Dens W S vs ds->Dens W S (vs.take n) (ds.take n)
 | _,_,0,_=>.nil
 | _,_,_+1,.nil=>.nil
 | _,_,n+1,.cons h t=>.cons h (t.take n)
theorem Dens.drop {W:Wd}{S:Hp}:∀{vs ds} (n:Nat),Dens W S vs ds->Dens W S (vs.drop n) (ds.drop n)
 | _,_,0,h=>h
 | _,_,_+1,.nil=>.nil
 | _,_,n+1,.cons _ t=>t.drop n
theorem Dens.set {W:Wd}{S:Hp}{v:V}{d:D}(r:Den W S v d):∀{vs ds} (i:Nat),Dens W S vs ds->Dens W S (vs.set i v) (ds.set i d)
 | _,_,_,.nil=>.nil
 | _,_,0,.cons _ t=>.cons r t
 | _,_,i+1,.cons q t=>.cons q (t.set r i)
theorem DenF.length {W:Wd}{S:Hp}:∀{vs ds},DenF W S vs ds->vs.length=ds.length
 | _,_,.nil=>rfl
 | _,_,.cons _ _ q=>by rw[List.length_cons,List.length_cons,q.length]
def qR {l:au}(nd:l.Nodup){i j:Nat}{x:Str}(h:l[i]? = some x)(k:l[j]? = some x):i=j:=pG nd h k
theorem DenF.lookup {W:Wd}{S:Hp}(nd:W.att.Nodup){f:Nat}{n:Str}(hn:W.att[f]? = some n):∀{vs ds},DenF W S vs ds->(∀d,ds.lookup f=some d->∃v,vs.lookup n=some v/\Den W S v d)/\(ds.lookup f=none->vs.lookup n=none)
 | _,_,.nil=>⟨(λ_ e=>nomatch e),λ_=>rfl⟩
 | _,_,.cons (n:=m) (f:=g) hg h q=>by
  obtain⟨i1,i2⟩:=q.lookup nd hn;by_cases e:g=f
  .subst e;have:m=n:=by rw[hn] at hg; exact (cO hg).symm
   subst this;simp only[List.lookup_cons,beq_self_eq_true];exact⟨λd z=>⟨_,rfl,by cases cO z; exact h⟩,λz=>nomatch z⟩
  .have nm:n≠m:=λz=>e (qR nd hg (by rw[<-z]; exact hn));have b1:(f == g)=false:=by simpa using λz=>e (Eq.symm z)
   have b2:(n == m)=false:=by simpa using nm
   simp only[List.lookup_cons,b1,b2];exact⟨i1,i2⟩
theorem DenF.put {W:Wd}{S:Hp}(nd:W.att.Nodup){f:Nat}{n:Str}{v:V}{d:D}(hn:W.att[f]? = some n)(r:Den W S v d):∀{vs ds},DenF W S vs ds->DenF W S (putF n v vs) (Ip.putF f d ds)
 | _,_,.nil=>.cons hn r .nil
 | _,_,.cons (n:=m) (f:=g) hg h q=>by
  unfold putF Ip.putF;by_cases e:g=f
  .subst e;have:m=n:=by rw[hn] at hg; exact (cO hg).symm
   subst this;rw[if_pos rfl,if_pos rfl];exact .cons hg r q
  .have nm:m≠n:=λz=>e (qR nd hg (by rw[z]; exact hn));rw[if_neg e,if_neg nm];exact .cons hg h (q.put nd hn r)
inductive OwnL (P:V->D->aq->Prop):aw->ay->aq->Prop
 | nil:OwnL P [] [] []
 | cons {v:V} {d:D} {f:aq} {vs:aw} {ds:ay} {g:aq} (h:P v d f) (q:OwnL P vs ds g):OwnL P (v::vs) (d::ds) (f++g)
inductive OwnF (att:au) (P:V->D->aq->Prop):List (Str×V)->List aJ->aq->Prop
 | nil:OwnF att P [] [] []
 | cons {n:Str} {i:Nat} {v:V} {d:D} {f:aq} {vs:List (Str×V)} {ds:List aJ} {g:aq} (hf:att[i]? = some n) (h:P v d f) (q:OwnF att P vs ds g):OwnF att P ((n,v)::vs) ((i,d)::ds) (f++g)
theorem OwnL.imp {P Q:V->D->aq->Prop}:∀{vs ds fp},OwnL P vs ds fp->(∀v d f,(∀a∈f,a∈fp)->P v d f->Q v d f)->OwnL Q vs ds fp
 | _,_,_,.nil,_=>.nil
 | _,_,_,.cons h q,k=>.cons (k _ _ _ (λ_ z=>eI _ z) h) (q.imp λv d f z=>k v d f λa y=>cG _ (z a y))
theorem OwnF.imp {att:au}{P Q:V->D->aq->Prop}:∀{vs ds fp},OwnF att P vs ds fp->(∀v d f,(∀a∈f,a∈fp)->P v d f->Q v d f)->OwnF att Q vs ds fp
 | _,_,_,.nil,_=>.nil
 | _,_,_,.cons hf h q,k=>.cons hf (k _ _ _ (λ_ z=>eI _ z) h) (q.imp λv d f z=>k v d f λa y=>cG _ (z a y))
theorem OwnL.dens {W:Wd}{T:Hp}{P:V->D->aq->Prop}:∀{vs ds fp},OwnL P vs ds fp->(∀v d f,(∀a∈f,a∈fp)->P v d f->Den W T v d)->Dens W T vs ds
 | _,_,_,.nil,_=>.nil
 | _,_,_,.cons h q,k=>.cons (k _ _ _ (λ_ z=>eI _ z) h) (q.dens λv d f z=>k v d f λa y=>cG _ (z a y))
theorem OwnF.dens {W:Wd}{T:Hp}{P:V->D->aq->Prop}:∀{vs ds fp},OwnF W.att P vs ds fp->(∀v d f,(∀a∈f,a∈fp)->P v d f->Den W T v d)->DenF W T vs ds
 | _,_,_,.nil,_=>.nil
 | _,_,_,.cons hf h q,k=>.cons hf (k _ _ _ (λ_ z=>eI _ z) h) (q.dens λv d f z=>k v d f λa y=>cG _ (z a y))
theorem OwnL.length {P:V->D->aq->Prop}:∀{vs ds fp},OwnL P vs ds fp->vs.length=ds.length
 | _,_,_,.nil=>rfl
 | _,_,_,.cons _ q=>by rw[List.length_cons,List.length_cons,q.length]
noncomputable def Own (W:Wd)(S H:Hp):Nat->V->D->aq->Prop
 | 0,v,d,fp=>fp=[]/\Den W S v d
 | k+1,v,.lst ds,fp=>∃a vs fq,v=.ref a/\H a=some (.lst vs)/\OwnL (Own W S H k) vs ds fq/\fp=a::fq
 | k+1,v,.tup ds,fp=>∃a vs,v=.ref a/\SqT W.K S a vs/\OwnL (Own W S H k) vs ds fp
 | k+1,v,.ins c ds,fp=>∃a C dx fs fq,v=.ref a/\H a=some (.ins C dx fs)/\W.iA c=some C/\OwnF W.att (Own W S H k) fs ds fq/\fp=a::fq
 | k+1,v,.exc c ds,fp=>∃a C nw fs fq,v=.ref a/\H a=some (.exc C nw fs)/\(W.xA c=some C/\nw=true)/\OwnF W.att (Own W S H k) fs ds fq/\fp=a::fq
 | _+1,v,d,fp=>fp=[]/\Den W S v d
theorem Own.mono {W:Wd}{S S' H H':Hp}(hs:Sub S S'):∀{k v d fp},(∀a∈fp,∀o,H a=some o->H' a=some o)->Own W S H k v d fp->Own W S' H' k v d fp
 | 0,_,_,_,_,h=>⟨h.1,h.2.mono hs⟩
 | k+1,_,.lst ds,_,hf,⟨a,vs,fq,e1,e2,e3,e4⟩=>⟨a,vs,fq,e1,hf a (by rw[e4]; exact bQ) _ e2,e3.imp λ_ _ _ z y=>Own.mono hs (λb hb=>hf b (by rw[e4]; exact bN _ (z b hb))) y,e4⟩
 | k+1,_,.tup ds,_,hf,⟨a,vs,e1,e2,e3⟩=>⟨a,vs,e1,SqT.sub hs e2,e3.imp λ_ _ _ z y=>Own.mono hs (λb hb=>hf b (z b hb)) y⟩
 | k+1,_,.ins c ds,_,hf,⟨a,C,dx,fs,fq,e1,e2,e5,e3,e4⟩=>⟨a,C,dx,fs,fq,e1,hf a (by rw[e4]; exact bQ) _ e2,e5,e3.imp λ_ _ _ z y=>Own.mono hs (λb hb=>hf b (by rw[e4]; exact bN _ (z b hb))) y,e4⟩
 | k+1,_,.exc c ds,_,hf,⟨a,C,dx,fs,fq,e1,e2,e5,e3,e4⟩=>⟨a,C,dx,fs,fq,e1,hf a (by rw[e4]; exact bQ) _ e2,e5,e3.imp λ_ _ _ z y=>Own.mono hs (λb hb=>hf b (by rw[e4]; exact bN _ (z b hb))) y,e4⟩
 | _+1,_,.non,_,_,h=>⟨h.1,h.2.mono hs⟩
 | _+1,_,.bl _,_,_,h=>⟨h.1,h.2.mono hs⟩
 | _+1,_,.int _,_,_,h=>⟨h.1,h.2.mono hs⟩
 | _+1,_,.str _,_,_,h=>⟨h.1,h.2.mono hs⟩
theorem Own.den {W:Wd}{S H T:Hp}(hs:Sub S T):∀{k v d fp},(∀a∈fp,∀o,H a=some o->T a=some o)->Own W S H k v d fp->Den W T v d
 | 0,_,_,_,_,h=>h.2.mono hs
 | k+1,_,.lst ds,_,hf,⟨a,vs,fq,e1,e2,e3,e4⟩=>by
  subst e1;exact .lst (.inl (hf a (by rw[e4]; exact bQ) _ e2)) (e3.dens λ_ _ _ z y=>Own.den hs (λb hb=>hf b (by rw[e4]; exact bN _ (z b hb))) y)
 | k+1,_,.tup ds,_,hf,⟨a,vs,e1,e2,e3⟩=>by
  subst e1;exact .tup (SqT.sub hs e2) (e3.dens λ_ _ _ z y=>Own.den hs (λb hb=>hf b (z b hb)) y)
 | k+1,_,.ins c ds,_,hf,⟨a,C,dx,fs,fq,e1,e2,e5,e3,e4⟩=>by
  subst e1;exact .ins (hf a (by rw[e4]; exact bQ) _ e2) e5 (e3.dens λ_ _ _ z y=>Own.den hs (λb hb=>hf b (by rw[e4]; exact bN _ (z b hb))) y)
 | k+1,_,.exc c ds,_,hf,⟨a,C,dx,fs,fq,e1,e2,e5,e3,e4⟩=>by
  subst e1;exact .exc (hf a (by rw[e4]; exact bQ) _ e2) e5.1 (e3.dens λ_ _ _ z y=>Own.den hs (λb hb=>hf b (by rw[e4]; exact bN _ (z b hb))) y)
 | _+1,_,.non,_,_,h=>h.2.mono hs
 | _+1,_,.bl _,_,_,h=>h.2.mono hs
 | _+1,_,.int _,_,_,h=>h.2.mono hs
 | _+1,_,.str _,_,_,h=>h.2.mono hs
theorem OwnL.mem {P:V->D->aq->Prop}{R:Addr->Prop}(hP:∀v d f,P v d f->∀a∈f,R a):∀{vs ds fp},OwnL P vs ds fp->∀a∈fp,R a
 | _,_,_,.nil,_,z=>by simp at z
 | _,_,_,.cons h q,a,z=>(dm z).elim (hP _ _ _ h a) (q.mem hP a)
theorem OwnF.mem {att:au}{P:V->D->aq->Prop}{R:Addr->Prop}(hP:∀v d f,P v d f->∀a∈f,R a):∀{vs ds fp},OwnF att P vs ds fp->∀a∈fp,R a
 | _,_,_,.nil,_,z=>by simp at z
 | _,_,_,.cons _ h q,a,z=>(dm z).elim (hP _ _ _ h a) (q.mem hP a)
theorem Own.dom {W:Wd}{S H:Hp}:∀{k v d fp},Own W S H k v d fp->∀a∈fp,H a≠none
 | 0,_,_,_,h,a,z=>by rw[h.1] at z; simp at z
 | k+1,_,.lst ds,_,⟨a,vs,fq,e1,e2,e3,e4⟩,b,z=>by
  rw[e4] at z;rcases cg z with q | q
  .rw[q,e2]; simp
  .exact e3.mem (λ_ _ _ y=>Own.dom y) b q
 | k+1,_,.tup ds,_,⟨a,vs,e1,e2,e3⟩,b,z=>e3.mem (λ_ _ _ y=>Own.dom y) b z
 | k+1,_,.ins c ds,_,⟨a,C,dx,fs,fq,e1,e2,e5,e3,e4⟩,b,z=>by
  rw[e4] at z;rcases cg z with q | q
  .rw[q,e2]; simp
  .exact e3.mem (λ_ _ _ y=>Own.dom y) b q
 | k+1,_,.exc c ds,_,⟨a,C,dx,fs,fq,e1,e2,e5,e3,e4⟩,b,z=>by
  rw[e4] at z;rcases cg z with q | q
  .rw[q,e2]; simp
  .exact e3.mem (λ_ _ _ y=>Own.dom y) b q
 | _+1,_,.non,_,h,a,z=>by rw[h.1] at z; simp at z
 | _+1,_,.bl _,_,h,a,z=>by rw[h.1] at z; simp at z
 | _+1,_,.int _,_,h,a,z=>by rw[h.1] at z; simp at z
 | _+1,_,.str _,_,h,a,z=>by rw[h.1] at z; simp at z
theorem OwnL.flat {W:Wd}{S:Hp}{P:V->D->aq->Prop}(hP:∀v d,d.flat=true->Den W S v d->P v d []):∀{vs ds},D.flats ds=true->Dens W S vs ds->OwnL P vs ds []
 | _,_,_,.nil=>.nil
 | _,_,hf,.cons h q=>by
  rw[D.flats,tw] at hf;exact OwnL.cons (f:=[]) (g:=[]) (hP _ _ hf.1 h) (OwnL.flat hP hf.2 q)
theorem OwnL.flat_inv {W:Wd}{S:Hp}{P:V->D->aq->Prop}(hP:∀v d f,d.flat=true->P v d f->f=[]/\Den W S v d):∀{vs ds fp},D.flats ds=true->OwnL P vs ds fp->fp=[]/\Dens W S vs ds
 | _,_,_,_,.nil=>⟨rfl,.nil⟩
 | _,_,_,hf,.cons h q=>by
  rw[D.flats,tw] at hf;obtain⟨e1,d1⟩:=hP _ _ _ hf.1 h;obtain⟨e2,d2⟩:=q.flat_inv hP hf.2;exact⟨by rw[e1,e2]; rfl,.cons d1 d2⟩
theorem Own.flat {W:Wd}{S H:Hp}:∀{k v d},d.flat=true->Den W S v d->Own W S H k v d []
 | 0,_,_,_,h=>⟨rfl,h⟩
 | k+1,_,.lst _,hf,_=>by simp[D.flat] at hf
 | k+1,_,.tup ds,hf,.tup e q=>⟨_,_,rfl,e,OwnL.flat (λ_ _=>Own.flat) (by rw[D.flat] at hf; exact hf) q⟩
 | k+1,_,.ins _ _,hf,_=>by simp[D.flat] at hf
 | k+1,_,.exc _ _,hf,_=>by simp[D.flat] at hf
 | _+1,_,.non,_,h=>⟨rfl,h⟩
 | _+1,_,.bl _,_,h=>⟨rfl,h⟩
 | _+1,_,.int _,_,h=>⟨rfl,h⟩
 | _+1,_,.str _,_,h=>⟨rfl,h⟩
theorem Own.flat_inv {W:Wd}{S H:Hp}:∀{k v d fp},d.flat=true->Own W S H k v d fp->fp=[]/\Den W S v d
 | 0,_,_,_,_,h=>h
 | k+1,_,.lst _,_,hf,_=>by simp[D.flat] at hf
 | k+1,_,.tup ds,_,hf,⟨a,vs,e1,e2,e3⟩=>by
  obtain⟨h1,h2⟩:=e3.flat_inv (λ_ _ _=>Own.flat_inv) (by rw[D.flat] at hf; exact hf);subst e1;exact⟨h1,.tup e2 h2⟩
 | k+1,_,.ins _ _,_,hf,_=>by simp[D.flat] at hf
 | k+1,_,.exc _ _,_,hf,_=>by simp[D.flat] at hf
 | _+1,_,.non,_,_,h=>h
 | _+1,_,.bl _,_,_,h=>h
 | _+1,_,.int _,_,_,h=>h
 | _+1,_,.str _,_,_,h=>h
theorem OwnL.re {P Q:V->D->aq->Prop}{b:D->Bool}(hP:∀v d f,b d=true->P v d f->Q v d f):∀{vs ds fp},ds.all b=true->OwnL P vs ds fp->OwnL Q vs ds fp
 | _,_,_,_,.nil=>.nil
 | _,_,_,hf,.cons h q=>by
  rw[List.all_cons,tw] at hf;exact .cons (hP _ _ _ hf.1 h) (q.re hP hf.2)
def NOk (N:Addr->Prop)(H:Hp):Prop:=∀a,N a->H a≠none
def RelS (W:Wd)(S:Hp)(a:Sl)(σ:St):Prop:=∀(i:Nat) (d:D),a[i]? = some (some d)->∃v,σ[i]? = some (some v)/\Den W S v d
theorem RelS.mono {W:Wd}{S S':Hp}{a:Sl}{σ:St}(h:Sub S S')(r:RelS W S a σ):RelS W S' a σ:=λi d e=>by
 obtain⟨v,h1,h2⟩:=r i d e;exact⟨v,h1,h2.mono h⟩
def Res (W:Wd)(H:Hp)(N:Addr->Prop)(H':Hp)(x:KD)(v:V):Prop:=
 Sub H H'/\∃fp:aq,fp.Nodup/\(∀a∈fp,H a=none)/\Own W (hid (λa=>N a\/a∈fp) H') H' x.1 v x.2 fp
inductive OwnV (W:Wd) (S H:Hp):aw->ax->aq->Prop
 | nil:OwnV W S H [] [] []
 | cons {v:V} {x:KD} {f:aq} {vs:aw} {xs:ax} {g:aq} (h:Own W S H x.1 v x.2 f) (q:OwnV W S H vs xs g):OwnV W S H (v::vs) (x::xs) (f++g)
theorem OwnV.mono {W:Wd}{S S' H H':Hp}(hs:Sub S S'):∀{vs xs fp},(∀a∈fp,∀o,H a=some o->H' a=some o)->OwnV W S H vs xs fp->OwnV W S' H' vs xs fp
 | _,_,_,_,.nil=>.nil
 | _,_,_,hf,.cons h q=>.cons (h.mono hs λa z=>hf a (eI _ z)) (q.mono hs λa z=>hf a (cG _ z))
theorem OwnV.dens {W:Wd}{S H T:Hp}(hs:Sub S T):∀{vs xs fp},(∀a∈fp,∀o,H a=some o->T a=some o)->OwnV W S H vs xs fp->Dens W T vs (xs.map (·.2))
 | _,_,_,_,.nil=>.nil
 | _,_,_,hf,.cons h q=>.cons (h.den hs λa z=>hf a (eI _ z)) (q.dens hs λa z=>hf a (cG _ z))
theorem OwnV.dom {W:Wd}{S H:Hp}:∀{vs xs fp},OwnV W S H vs xs fp->∀a∈fp,H a≠none
 | _,_,_,.nil,a,z=>by simp at z
 | _,_,_,.cons h q,a,z=>(dm z).elim (h.dom a) (q.dom a)
theorem OwnV.length {W:Wd}{S H:Hp}:∀{vs xs fp},OwnV W S H vs xs fp->vs.length=xs.length
 | _,_,_,.nil=>rfl
 | _,_,_,.cons _ q=>by rw[List.length_cons,List.length_cons,q.length]
def ResL (W:Wd)(H:Hp)(N:Addr->Prop)(H':Hp)(xs:ax)(vs:aw):Prop:=
 Sub H H'/\∃fp:aq,fp.Nodup/\(∀a∈fp,H a=none)/\OwnV W (hid (λa=>N a\/a∈fp) H') H' vs xs fp
def ExcR (W:Wd)(H:Hp)(N:Addr->Prop)(H':Hp)(c:Nat)(fs:List aJ)(e:Addr):Prop:=
 Sub H H'/\H e=none/\∃C vs,H' e=some (.exc C false vs)/\W.xA c=some C/\DenF W (hid N H') vs fs
theorem Res.den {W:Wd}{H H':Hp}{N:Addr->Prop}{x:KD}{v:V}(hN:NOk N H)(r:Res W H N H' x v):Den W (hid N H') v x.2:=by
 obtain⟨hs,fp,_,hf,o⟩:=r;refine o.den (λa u e=>?_) λa ha u e=>bg.mpr ⟨λz=>hN a z (hf a ha),e⟩;obtain⟨h1,h2⟩:=bg.mp e;exact bg.mpr ⟨λz=>h1 (.inl z),h2⟩
theorem ResL.dens {W:Wd}{H H':Hp}{N:Addr->Prop}{xs:ax}{vs:aw}(hN:NOk N H)(r:ResL W H N H' xs vs):Dens W (hid N H') vs (xs.map (·.2)):=by
 obtain⟨hs,fp,_,hf,o⟩:=r;refine o.dens (λa u e=>?_) λa ha u e=>bg.mpr ⟨λz=>hN a z (hf a ha),e⟩;obtain⟨h1,h2⟩:=bg.mp e;exact bg.mpr ⟨λz=>h1 (.inl z),h2⟩
def Res.of_den {W:Wd}{H H':Hp}{N:Addr->Prop}{v:V}{d:D}(hs:Sub H H')(h:Den W (hid N H') v d):Res W H N H' (0,d) v:=
 ⟨hs,[],.nil,λa z=>by simp at z,rfl,h.mono λa o e=>bg.mpr ⟨λz=>(bg.mp e).1 (by simpa using z),(bg.mp e).2⟩⟩
def Res.of_flat {W:Wd}{H H':Hp}{N:Addr->Prop}{v:V}{k:Nat}{d:D}(hs:Sub H H')(hf:d.flat=true)(h:Den W (hid N H') v d):Res W H N H' (k,d) v:=
 ⟨hs,[],.nil,λa z=>by simp at z,Own.flat hf (h.mono λa o e=>bg.mpr ⟨λz=>(bg.mp e).1 (by simpa using z),(bg.mp e).2⟩)⟩
def NOk.mono {N:Addr->Prop}{H H':Hp}(h:NOk N H)(hs:Sub H H'):NOk N H':=λa z q=>h a z (hs.none q)
section
variable (W:Wd)(G:Pg)(cl:Nat->ax->Ip.Run)
def bm (ir:Ex)(E:St->XK):TE:=λσ H Q=>∃(N:Addr->Prop) (a:Sl),NOk N H/\RelS W (hid N H) a σ/\match Ip.eval G cl a ir with
 | .ok x=>∀v H',Res W H N H' x v->Q v H'
 | .exc c fs=>∀e H',ExcR W H N H' c fs e->E σ (.ref e) none H'
 | .bad=>False
def ce (irs:aG)(E:St->XK):TA:=λσ H Q=>∃(N:Addr->Prop) (a:Sl),NOk N H/\RelS W (hid N H) a σ/\match Ip.evals G cl a irs with
 | .ok xs=>∀vs H',ResL W H N H' xs vs->Q vs H'
 | .exc c fs=>∀e H',ExcR W H N H' c fs e->E σ (.ref e) none H'
 | .bad=>False
end
def PE.mono {X:Cx}{e:Expr}{t t':TE}(h:PE X e t)(k:∀σ H Q,t' σ H Q->t σ H Q):PE X e t':=λpins s σ H Q I q=>h pins s σ H Q I (k σ H Q q)
def PA.mono {X:Cx}{e:av}{t t':TA}(h:PA X e t)(k:∀σ H Q,t' σ H Q->t σ H Q):PA X e t':=λpos pins s σ H Q I q=>h pos pins s σ H Q I (k σ H Q q)
def PT.mono {X:Cx}{e:Expr}{t t':TT}(h:PT X e t)(k:∀σ H Q,t' σ H Q->t σ H Q):PT X e t':=λpins s σ H Q I q=>h pins s σ H Q I (k σ H Q q)
def PS.mono {X:Cx}{e:Stmt}{t t':TS}(h:PS X e t)(k:∀D σ H,t' D σ H->t D σ H):PS X e t':=λpins s σ H D I q=>h pins s σ H D I (k D σ H q)
def PSs.mono {X:Cx}{e:aH}{t t':TS}(h:PSs X e t)(k:∀D σ H,t' D σ H->t D σ H):PSs X e t':=λpins s σ H D I q=>h pins s σ H D I (k D σ H q)
def bT {X:Cx}{e:Expr}{W:Wd}{G:Pg}{cl:Nat->ax->Ip.Run}{E:St->XK}:PE X e (bm W G cl .bad E):=λ_ _ _ _ _ _ ⟨_,_,_,_,h⟩=>by
 rw[Ip.eval] at h; exact h.elim
section
variable {W:Wd}{G:Pg}{cl:Nat->ax->Ip.Run}{E:St->XK}{σ:St}{H:Hp}
theorem ExcR.trans {H1 H':Hp}{N N':Addr->Prop}{c:Nat}{fs:List aJ}{e:Addr}(hs:Sub H H1)(hn:∀a,N a->N' a)(r:ExcR W H1 N' H' c fs e):ExcR W H N H' c fs e:=by
 obtain⟨s1,e1,C,vs,h1,h2,h3⟩:=r;exact⟨hs.trans s1,hs.none e1,C,vs,h1,h2,h3.mono λa o z=>bg.mpr ⟨λq=>(bg.mp z).1 (hn a q),(bg.mp z).2⟩⟩
def f9 {ir:Ex}{Q:VK}{N:Addr->Prop}{a:Sl}(hN:NOk N H)(hS:RelS W (hid N H) a σ)
  (ok:∀x,Ip.eval G cl a ir=.ok x->∀v H1 fp,Sub H H1->fp.Nodup->(∀b∈fp,H b=none)->Own W (hid (λb=>N b\/b∈fp) H1) H1 x.1 v x.2 fp ->
   NOk (λb=>N b\/b∈fp) H1->RelS W (hid (λb=>N b\/b∈fp) H1) a σ->Q v H1)
  (ex:∀c fs,Ip.eval G cl a ir=.exc c fs->∀e H',ExcR W H N H' c fs e->E σ (.ref e) none H')(nb:Ip.eval G cl a ir≠.bad):bm W G cl ir E σ H Q:=by
 refine⟨N,a,hN,hS,?_⟩;cases q:Ip.eval G cl a ir with
 | bad=>exact absurd q nb
 | exc c fs=>exact ex c fs q
 | ok x=>
  rintro v H1 ⟨hs,fp,nd,hf,o⟩;refine ok x q v H1 fp hs nd hf o (λb z=>?_) (hS.mono (gi hs λb z=>z.imp id λy=>hf b y));exact z.elim (λy=>(hN.mono hs) b y) (o.dom b)
end
end L2
end
section
namespace L2
open PySem PySem.Spec PyProof.Rows
open Ip (D KD Ex Op Pg Fn Sl Fr Wk Tg Tb R jA cR bP cN dY bY bL bE bB)
def rD (W:Wd)(G:Pg)(o:Op)(vs:aw)(H:Hp)(Q:VK):Prop:=∃(N:Addr->Prop) (xs:ax) (x:KD),NOk N H/\Dens W (hid N H) vs (xs.map (·.2))/\bB G o xs=some x/\∀v H',Res W H N H' x v->Q v H'
theorem Res.trans {W:Wd}{H H2 H':Hp}{N:Addr->Prop}{x:KD}{v:V}(hs:Sub H H2)(r:Res W H2 N H' x v):Res W H N H' x v:=by
 obtain⟨h1,fp,nd,hf,o⟩:=r;exact⟨hs.trans h1,fp,nd,λa z=>hs.none (hf a z),o⟩
def Own.later {W:Wd}{H H1 H2:Hp}{N M:Addr->Prop}{k:Nat}{v:V}{d:D}{fp:aq}(hN:NOk N H)(hs:Sub H1 H2)(hf:∀b∈fp,H b=none)(hM:∀b,N b->M b)(o:Own W (hid (λb=>M b\/b∈fp) H1) H1 k v d fp):Den W (hid N H2) v d:=by
 refine o.den (λa u e=>?_) λa ha u e=>bg.mpr ⟨λz=>hN a z (hf a ha),hs a u e⟩;obtain⟨h1,h2⟩:=bg.mp e;exact bg.mpr ⟨λz=>h1 (.inl (hM a z)),hs a u h2⟩
section
variable {W:Wd}{G:Pg}{cl:Nat->ax->Ip.Run}{E:St->XK}{σ:St}{H:Hp}{Q:VK}{o:Op}
def gZ {ia:Ex}{r:V->Hp->VK->Prop}(hr:∀x H Q,rD W G o [x] H Q->r x H Q)(h:bm W G cl (.op o [ia]) E σ H Q):pF r (bm W G cl ia E) σ H Q:=by
 obtain⟨N,a,hN,hS,h⟩:=h;unfold pF;refine f9 hN hS (λx ex v H1 fp hs nd hf ow hN1 hS1=>?_) (λc fs ee=>?_) λee=>?_
 .simp only[cR,Ip.de,bP,ex,R.bind] at h;cases q:bB G o [x] with
  | none=>simp only[q,R.of] at h
  | some z=>
   simp only[q,R.of] at h;exact hr _ _ _ ⟨N,[x],z,hN.mono hs,.cons (ow.later hN (Sub.refl _) hf λ_ y=>y) .nil,q,λw H' r=>h w H' (r.trans hs)⟩
 .simp only[cR,bP,ee,R.bind] at h;exact h
 .simp only[cR,bP,ee,R.bind] at h
def hV {ia ib:Ex}{r:R2}(hr:∀x y H Q,rD W G o [x,y] H Q->r x y H Q)(h:bm W G cl (.op o [ia,ib]) E σ H Q):kC r (bm W G cl ia E) (bm W G cl ib E) σ H Q:=by
 obtain⟨N,a,hN,hS,h⟩:=h;unfold kC;refine f9 hN hS (λx ex v H1 fp hs nd hf ow hN1 hS1=>?_) (λc fs ee=>?_) λee=>?_
 .refine f9 hN1 hS1 (λy ey w H2 fq hs2 nd2 hf2 ow2 hN2 hS2=>?_) (λc fs ee e H' r=>?_) λee=>?_
  .simp only[cR,Ip.de,bP,ex,ey,R.bind] at h;cases q:bB G o [x,y] with
   | none=>simp only[q,R.of] at h
   | some z=>
    simp only[q,R.of] at h;exact hr _ _ _ _ ⟨N,[x,y],z,hN.mono (hs.trans hs2),.cons (ow.later hN hs2 hf λ_ y=>y) (.cons (ow2.later (hN.mono hs) (Sub.refl _) hf2 λ_ y=>.inl y) .nil),q,λw H' r=>h w H' (r.trans (hs.trans hs2))⟩
  .simp only[cR,bP,ex,ee,R.bind] at h;exact h e H' (r.trans hs λ_ y=>.inl y)
  .simp only[cR,bP,ex,ee,R.bind] at h
 .simp only[cR,bP,ee,R.bind] at h;exact h
 .simp only[cR,bP,ee,R.bind] at h
end
def Dens.one {W:Wd}{S:Hp}{vs:aw}{d:D}(h:Dens W S vs [d]):∃v,vs=[v]/\Den W S v d:=by
 cases h with
 | cons h r=>cases r; exact⟨_,rfl,h⟩
def Dens.two {W:Wd}{S:Hp}{vs:aw}{d e:D}(h:Dens W S vs [d,e]):∃v w,vs=[v,w]/\Den W S v d/\Den W S w e:=by
 cases h with
 | cons h r=>
  obtain⟨w,e,h2⟩:=r.one;subst e;exact⟨_,_,rfl,h,h2⟩
def fg {W:Wd}{S:Hp}{x:V}{xs:ax}(h:Dens W S [x] (xs.map (·.2))):∃p,xs=[p]/\Den W S x p.2:=by
 cases xs with
 | nil=>cases h
 | cons p r=>
  cases h with
  | cons h1 h2=>
   cases r with
   | nil=>exact⟨p,rfl,h1⟩
   | cons _ _=>cases h2
def dM {W:Wd}{S:Hp}{x y:V}{xs:ax}(h:Dens W S [x,y] (xs.map (·.2))):∃p q,xs=[p,q]/\Den W S x p.2/\Den W S y q.2:=by
 cases xs with
 | nil=>cases h
 | cons p r=>
  cases h with
  | cons h1 h2=>
   obtain⟨q,rfl,h3⟩:=fg h2;exact⟨p,q,rfl,h1,h3⟩
def Den.int_inv {W:Wd}{S:Hp}{v:V}{i:Int}(h:Den W S v (.int i)):v=.int i:=by cases h; rfl
def Den.bl_inv {W:Wd}{S:Hp}{v:V}{i:Bool}(h:Den W S v (.bl i)):v=.bl i:=by cases h; rfl
theorem Res.int {W:Wd}{H:Hp}{N:Addr->Prop}{k:Nat}{i:Int}:Res W H N H (k,.int i) (.int i):=Res.of_flat (Sub.refl _) rfl .int
theorem Res.bl {W:Wd}{H:Hp}{N:Addr->Prop}{k:Nat}{i:Bool}:Res W H N H (k,.bl i) (.bl i):=Res.of_flat (Sub.refl _) rfl .bl
section
variable {X:Cx}{W:Wd}{G:Pg}
def OpR.imp {f:Value->Value->Sem Value}{r r':R2}(h:OpR X f r)(k:∀x y H Q,r' x y H Q->r x y H Q):OpR X f r':=λpins s σ H x y v u Q I rx ry q=>h pins s σ H x y v u Q I rx ry (k x y H Q q)
def iH {o:Op}{f:Int->Int->aA}{C:Int->Int->Prop}{g:Int->Int->V}(ho:∀xs,bB G o xs=bE (bL f) xs)(hf:∀i j x,f i j=some x->C i j/\∀(N:Addr->Prop) (H:Hp),Res W H N H x (g i j)) :
  ∀x y H Q,rD W G o [x,y] H Q->rI C g x y H Q:=by
 rintro x y H Q ⟨N,xs,z,hN,hd,hz,hq⟩;obtain⟨p,q,rfl,d1,d2⟩:=dM hd;rw[ho] at hz;obtain⟨k1,p⟩:=p;obtain⟨k2,q⟩:=q;simp only[bE] at hz;cases p <;> cases q <;> first | exact (bY hz).elim | simp only[bL] at hz
 cases d1;cases d2;obtain⟨hc,hr⟩:=hf _ _ _ hz;exact⟨_,_,rfl,rfl,hc,hq _ _ (hr N H)⟩
def Fg:OpR X (binaryOp .Sub) (λx y=>rD W G .sub [x,y]):=DS.imp λx y H Q h=>by
 obtain⟨i,j,e1,e2,_,q⟩:=iH (C:=λ_ _=>True) (g:=λi j=>.int (i - j)) (λ_=>rfl) (λi j x e=>by cases e; exact⟨trivial,λ_ _=>Res.int⟩) x y H Q h;exact⟨i,j,e1,e2,q⟩
def En:OpR X (binaryOp .FloorDiv) (rI (λ_ j=>0<j/\j<1000000000000000000000000000000000000000000000000) λi j=>.int (i / j)):=nQ λi j _ _ _ _ _ hc q=>by
 have h1:(0:Int)<j:=hc.1;have h2:j<1000000000000000000000000000000000000000000000000:=hc.2;exact floordiv_int (by omega) (by rw[Int.fdiv_eq_ediv_of_nonneg i (by omega)]; exact q) (.inl (PyProof.noPylong_of_log2 (eG ((Nat.log2_lt (by omega)).mpr (by omega:j.natAbs<2 ^ 160)) (by decide))))
def AU:OpR X (binaryOp .FloorDiv) (λx y=>rD W G .fdiv [x,y]):=En.imp (iH (λ_=>rfl) λi j x e=>by
 by_cases h:0<j/\j<1000000000000000000000000000000000000000000000000
 .rw[if_pos h] at e; cases e; exact⟨h,λ_ _=>Res.int⟩
 .rw[if_neg h] at e; cases e)
def AO:OpR X (binaryOp .Mod) (λx y=>rD W G .mod [x,y]):=zq.imp (iH (λ_=>rfl) λi j x e=>by
 by_cases h:0<j
 .rw[if_pos h] at e; cases e; exact⟨h,λ_ _=>Res.int⟩
 .rw[if_neg h] at e; cases e)
def Ez {i:Int}(h:cN i=true):i.natAbs<2 ^ 64:=by
 rw[dY] at h;omega
def xD:OpR X (binaryOp .Pow) (λx y=>rD W G .pow [x,y]):=CT.imp (iH (λ_=>rfl) λi j x e=>by
 by_cases h:0<=j/\j<=1000000/\cN i=true
 .rw[if_pos h] at e; cases e; exact⟨⟨h.1,h.2.1,Ez h.2.2⟩,λ_ _=>Res.int⟩
 .rw[if_neg h] at e; cases e)
def rE:OpR X (compareOp .LtE) (λx y=>rD W G .le [x,y]):=BH.imp λx y H Q h=>by
 obtain⟨i,j,e1,e2,_,q⟩:=iH (C:=λ_ _=>True) (g:=λi j=>.bl (decide (i<=j))) (λ_=>rfl) (λi j x e=>by cases e; exact⟨trivial,λ_ _=>Res.bl⟩) x y H Q h;exact⟨i,j,e1,e2,q⟩
def p0:OpR X (compareOp .Gt) (λx y=>rD W G .gt [x,y]):=FW.imp λx y H Q h=>by
 obtain⟨i,j,e1,e2,_,q⟩:=iH (C:=λ_ _=>True) (g:=λi j=>.bl (decide (j<i))) (λ_=>rfl) (λi j x e=>by cases e; exact⟨trivial,λ_ _=>Res.bl⟩) x y H Q h;exact⟨i,j,e1,e2,q⟩
def rq:OpR X (compareOp .GtE) (λx y=>rD W G .ge [x,y]):=F5.imp λx y H Q h=>by
 obtain⟨i,j,e1,e2,_,q⟩:=iH (C:=λ_ _=>True) (g:=λi j=>.bl (decide (j<=i))) (λ_=>rfl) (λi j x e=>by cases e; exact⟨trivial,λ_ _=>Res.bl⟩) x y H Q h;exact⟨i,j,e1,e2,q⟩
def qp:OpR X (compareOp .Lt) (λx y=>rD W G .lt [x,y]):=D6.imp λx y H Q h=>by
 obtain⟨i,j,e1,e2,_,q⟩:=iH (C:=λ_ _=>True) (g:=λi j=>.bl (decide (i<j))) (λ_=>rfl) (λi j x e=>by cases e; exact⟨trivial,λ_ _=>Res.bl⟩) x y H Q h;exact⟨i,j,e1,e2,q⟩
theorem OwnL.zero {S T:Hp}:∀{vs ds},Dens W S vs ds->OwnL (Own W S T 0) vs ds []
 | _,_,.nil=>.nil
 | _,_,.cons h q=>OwnL.cons (f:=[]) (g:=[]) ⟨rfl,h⟩ (OwnL.zero q)
def Dx {H:Hp}{N:Addr->Prop}{p:Addr}{o:HO}(hp:H p=none):Sub (hid N H) (hid (λa=>N a\/a∈[p]) (upd H p o)):=
 gi (Sub.upd hp) λa z=>z.imp id λy=>by rw[Gz.mp y]; exact hp
def Res.newL {H:Hp}{N:Addr->Prop}{p:Addr}{vs:aw}{ds:ay}(hp:H p=none)(h:Dens W (hid N H) vs ds):Res W H N (upd H p (.lst vs)) (1,.lst ds) (.ref p):=
 ⟨Sub.upd hp,[p],by simp,λa z=>by rw[Gz.mp z]; exact hp,p,vs,[],rfl,cM,OwnL.zero (h.mono (Dx hp)),rfl⟩
def Res.newT {H:Hp}{N:Addr->Prop}{p:Addr}{vs:aw}{ds:ay}(hN:NOk N H)(hp:H p=none)(h:Dens W (hid N H) vs ds):Res W H N (upd H p (.tup vs)) (0,.tup ds) (.ref p):=
 Res.of_den (Sub.upd hp) (.tup (SqT.of (bg.mpr ⟨λz=>hN p z hp,cM⟩)) (h.mono (gi (Sub.upd hp) λa z=>.inl z)))
def Inv.rdL {pins:ah}{σ:St}{H:Hp}{s:Shared}{l:Addr}{xs:aw}(I:Inv X pins σ H s)(h:Rd H l (.lst xs)):xs.length<=sizeLine/\∃(its:ar) (n:Nat),Vals xs its/\xs.length=its.length/\s.heap.get? l=some { cls:=.type "list",data:=.seq its.toArray n }:=by
 obtain⟨z,its,n,r,e⟩:=h.ok I.hok;exact⟨z,its,n,r,r.length,e⟩
def mX:R2:=λx y H Q=>∃l b xs zs,x=.ref l/\y=.ref b/\Rd H l (.lst xs)/\Rd H b (.lst zs)/\xs.length+zs.length<=sizeLine/\∀p,H p=none->Q (.ref p) (upd H p (.lst (xs++zs)))
def zc:OpR X (binaryOp .Add) mX:=by
 intro pins s σ H x y v u Q I rx ry h;obtain⟨l,b,xs,zs,rfl,rfl,hH,hB,hz,q⟩:=h;cases rx;cases ry;obtain⟨z,its,n,r,hl,e⟩:=I.rdL hH;obtain⟨z2,its2,n2,r2,hl2,e2⟩:=I.rdL hB;refine PySem.P.add_list e e2 ?_ (by rw[Gv,Gv]; omega);have ea:its.toArray++its2.toArray=(its++its2).toArray:=by simp
 rw[ea];exact⟨.ref _,_,I.lnew (t':=s.toks) (r.append r2) (by rw[GG]; omega),rfl,q _ I.fresh⟩
def jI {n:Nat}(h:n<=Ip.SL):n<=sizeLine:=bH h (by decide)
theorem Dens.rep {S:Hp}{vs:aw}{ds:ay}(h:Dens W S vs ds):∀k,Dens W S (List.replicate k vs).flatten (List.replicate k ds).flatten
 | 0=>.nil
 | k+1=>by
  rw[List.replicate_succ,List.replicate_succ,List.flatten_cons,List.flatten_cons];exact h.append (h.rep k)
def B8 (hK:W.K=X.K):OpR X (binaryOp .Mult) (λx y=>rD W G .mul [x,y]):=by
 refine (Ag.or (BW.or Av)).imp λx y H Q hZz=>?_;obtain⟨N,xs,z,hN,hd,hz,hq⟩:=hZz;obtain⟨⟨k1,p⟩,⟨k2,q⟩,rfl,d1,d2⟩:=dM hd;simp only[Ip.yw,bE] at hz;cases p <;> cases q <;> first | exact (bY hz).elim | simp only[Ip.dF] at hz
 .rename_i i j;cases d1;cases d2;by_cases h:(cN i||cN j)=true
  .rw[if_pos h] at hz;cases hz;refine .inl ⟨i,j,rfl,rfl,?_,hq _ _ Res.int⟩;simp only[Hj,dY] at h;unfold CMul;omega
  .rw[if_neg h] at hz; cases hz
 .rename_i xs j;cases d2;split at hz
  .rename_i hl;cases hz;cases d1 with | @lst a vs _ e1 q1=>?_
   have hb:=dY.mp hl.2.1;refine .inr (.inl ⟨a,j,vs,rfl,rfl,Rd.sub bJ e1,by omega,by omega,?_,λp hp=>hq _ _ (Res.newL hp (q1.rep _))⟩);rw[q1.length];exact bH hl.2.2 (by decide)
  .cases hz
 .rename_i xs j;cases d2;split at hz
  .rename_i hl;cases hz;cases d1 with | @tup a vs _ e1 q1=>?_
   have ln:=q1.length;refine .inr (.inr ⟨a,j,vs,rfl,rfl,by rw[<-hK]; exact SqT.sub bJ e1,?_,hl.2.1,hl.2.2.1,?_,λe=>hq _ _ (Res.of_den (Sub.refl _) ?_),λ_ p hp=>hq _ _ (Res.newT hN hp (q1.rep _))⟩)
   .intro e;subst e;have:xs=[]:=Hy.mp ln.symm;subst this;exact absurd hl.1 (by decide)
   .rw[ln]; exact bH hl.2.2.2 (by decide)
   .subst e;have e2:(List.replicate (1:Int).toNat xs).flatten=xs:=by simp
    rw[e2];exact .tup e1 q1
  .cases hz
def E9 (hK:W.K=X.K):OpR X (binaryOp .Add) (λx y=>rD W G .add [x,y]):=by
 refine ((Df.or zc).or (EJ.or DE)).imp λx y H Q hZz=>?_;obtain⟨N,xs,z,hN,hd,hz,hq⟩:=hZz;obtain⟨⟨k1,p⟩,⟨k2,q⟩,rfl,d1,d2⟩:=dM hd;simp only[Ip.Bx,bE] at hz;cases p <;> cases q <;> first | exact (bY hz).elim | simp only[Ip.bI] at hz
 .cases d1;cases d2;cases hz;exact .inl (.inl ⟨_,_,rfl,rfl,hq _ _ Res.int⟩)
 .rename_i xs ys;split at hz
  .rename_i hl;cases hz;cases d1 with | lst e1 q1=>?_
   cases d2 with | lst e2 q2=>?_
   refine .inl (.inr ⟨_,_,_,_,rfl,rfl,Rd.sub bJ e1,Rd.sub bJ e2,?_,λp hp=>hq _ _ (Res.newL hp (q1.append q2))⟩);rw[q1.length,q2.length];exact jI hl
  .cases hz
 .rename_i xs ys;split at hz
  .rename_i hl;cases hz;cases d1 with | @tup a vs _ e1 q1=>?_
   cases d2 with | @tup b ws _ e2 q2=>?_
   have s1:SqT X.K H a vs:=by rw[<-hK]; exact SqT.sub bJ e1
   have s2:SqT X.K H b ws:=by rw[<-hK]; exact SqT.sub bJ e2
   by_cases c1:vs=[]
   .subst c1;cases q1;exact .inr (.inl ⟨a,b,ws,rfl,rfl,s1,s2,hq _ _ (Res.of_den (Sub.refl _) (.tup e2 q2))⟩)
   .refine .inr (.inr ⟨a,b,vs,ws,rfl,rfl,s1,s2,c1,?_,λc2=>?_,λ_ p hp=>hq _ _ (Res.newT hN hp (q1.append q2))⟩)
    .rw[q1.length,q2.length];exact jI hl
    .subst c2;cases q2;rw[Hn] at hq;exact hq _ _ (Res.of_den (Sub.refl _) (.tup e1 q1))
  .cases hz
end
mutual
noncomputable def bW:D->PyData
 | .non=>.none
 | .bl b=>.bool b
 | .int i=>.int i
 | .str s=>.str s
 | .lst xs=>.list (pyDs xs)
 | .tup xs=>.tuple (pyDs xs)
 | .ins _ _=>.none
 | .exc _ _=>.none
noncomputable def pyDs:ay->List PyData
 | []=>[]
 | d::ds=>bW d::pyDs ds
end
mutual
theorem nI:∀x y:D,∀n m,x.pur n=true->y.pur m=true->PyData.eqv (bW x) (bW y)=x.eq y
 | .lst xs,y,n,m,hx,hy=>by
  cases n with
  | zero=>cases hx
  | succ n=>
   cases y with
   | lst ys=>
    cases m with
    | zero=>cases hy
    | succ m=>rw[bW,bW,D.eq,PyData.eqv]; exact zHv xs ys n m hx hy
   | ins _ _=>cases m <;> cases hy
   | exc _ _=>cases m <;> cases hy
   | _=>simp[bW,D.eq,PyData.eqv]
 | .tup xs,y,n,m,hx,hy=>by
  cases n with
  | zero=>cases hx
  | succ n=>
   cases y with
   | tup ys=>
    cases m with
    | zero=>cases hy
    | succ m=>rw[bW,bW,D.eq,PyData.eqv]; exact zHv xs ys n m hx hy
   | ins _ _=>cases m <;> cases hy
   | exc _ _=>cases m <;> cases hy
   | _=>simp[bW,D.eq,PyData.eqv]
 | .ins _ _,_,n,_,hx,_=>by cases n <;> cases hx
 | .exc _ _,_,n,_,hx,_=>by cases n <;> cases hx
 | .non,y,_,m,_,hy=>by
  cases y with
  | ins _ _=>cases m <;> cases hy
  | exc _ _=>cases m <;> cases hy
  | _=>simp[bW,D.eq,PyData.eqv]
 | .bl b,y,_,m,_,hy=>by
  cases y with
  | bl c=>cases b <;> cases c <;> rfl
  | int i=>rw[bW,bW,D.eq,PyData.eqv]; rfl
  | ins _ _=>cases m <;> cases hy
  | exc _ _=>cases m <;> cases hy
  | _=>simp[bW,D.eq,PyData.eqv]
 | .int i,y,_,m,_,hy=>by
  cases y with
  | bl c=>rw[bW,bW,D.eq,PyData.eqv]; rfl
  | int i=>rw[bW,bW,D.eq,PyData.eqv]; rfl
  | ins _ _=>cases m <;> cases hy
  | exc _ _=>cases m <;> cases hy
  | _=>simp[bW,D.eq,PyData.eqv]
 | .str i,y,_,m,_,hy=>by
  cases y with
  | str j=>rw[bW,bW,D.eq,PyData.eqv]; by_cases h:i=j <;> simp[h]
  | ins _ _=>cases m <;> cases hy
  | exc _ _=>cases m <;> cases hy
  | _=>simp[bW,D.eq,PyData.eqv]
theorem zHv:∀xs ys:ay,∀n m,xs.all (D.pur n)=true->ys.all (D.pur m)=true->PyData.eqvAll (pyDs xs) (pyDs ys)=D.eqs xs ys
 | [],[],_,_,_,_=>by simp[pyDs,D.eqs,PyData.eqvAll]
 | [],_::_,_,_,_,_=>by simp[pyDs,D.eqs,PyData.eqvAll]
 | _::_,[],_,_,_,_=>by simp[pyDs,D.eqs,PyData.eqvAll]
 | x::xs,y::ys,n,m,hx,hy=>by
  rw[List.all_cons,tw] at hx hy;rw[pyDs,pyDs,D.eqs,PyData.eqvAll,nI x y n m hx.1 hy.1,zHv xs ys n m hx.2 hy.2]
end
mutual
theorem jW:∀x:D,∀n,x.pur n=true->(bW x).canLay0=true/\(bW x).depth<=n
 | .lst xs,n,hx=>by
  cases n with
  | zero=>cases hx
  | succ n=>
   obtain⟨h1,h2⟩:=zCF xs n hx;rw[bW,PyData.canLay0,PyData.depth];exact⟨h1,by omega⟩
 | .tup xs,n,hx=>by
  cases n with
  | zero=>cases hx
  | succ n=>
   obtain⟨h1,h2⟩:=zCF xs n hx;rw[bW,PyData.canLay0,PyData.depth];exact⟨h1,by omega⟩
 | .ins _ _,n,hx=>by cases n <;> cases hx
 | .exc _ _,n,hx=>by cases n <;> cases hx
 | .non,_,_=>by simp[bW,PyData.canLay0,PyData.depth]
 | .bl _,_,_=>by simp[bW,PyData.canLay0,PyData.depth]
 | .int _,_,_=>by simp[bW,PyData.canLay0,PyData.depth]
 | .str s,n,hx=>by
  rw[Ip.Ch] at hx;rw[bW,PyData.canLay0,PyData.depth];exact⟨hx,GX _⟩
theorem zCF:∀xs:ay,∀n,xs.all (D.pur n)=true->PyData.canLayAll0 (pyDs xs)=true/\PyData.depthAll (pyDs xs)<=n
 | [],_,_=>by simp[pyDs,PyData.canLayAll0,PyData.depthAll]
 | x::xs,n,hx=>by
  rw[List.all_cons,tw] at hx;obtain⟨h1,h2⟩:=jW x n hx.1;obtain⟨h3,h4⟩:=zCF xs n hx.2;rw[pyDs,PyData.canLayAll0,PyData.depthAll,h1,h3];exact⟨rfl,Nat.max_le.mpr ⟨h2,h4⟩⟩
end
def pd {x:D}(h:x.pur 60=true):SeqAt.shaped (bW x)=true:=by
 obtain⟨h1,h2⟩:=jW x 60 h;unfold SeqAt.shaped;rw[h1,Bool.true_and];exact GE (by omega)
section
variable {X:Cx}{W:Wd}{G:Pg}{pins:ah}{σ:St}{H:Hp}{s:Shared}
mutual
theorem Den.reads (hK:W.K=X.K)(I:Inv X pins σ H s):∀{v:V} {d:D} {u:Value} (n:Nat),Den W H v d->d.pur n=true->RelV v u->∃as,Reads s.heap u (bW d) as
 | _,_,_,_,.non,_,r=>by cases r; exact⟨_,by rw[bW]; exact .none⟩
 | _,_,_,_,.bl,_,r=>by cases r; exact⟨_,by rw[bW]; exact .bool _⟩
 | _,_,_,_,.int,_,r=>by obtain⟨t,rfl⟩:=r; exact⟨_,by rw[bW]; exact .int _ t⟩
 | _,_,_,_,.str,_,r=>by obtain⟨t,rfl⟩:=r; exact⟨_,by rw[bW]; exact .str _ t⟩
 | _,_,_,n,.lst e q,hp,r=>by
  cases r;cases n with
  | zero=>cases hp
  | succ n=>
   obtain⟨_,its,k,rv,_,eo⟩:=I.rdL e;obtain⟨as,ra⟩:=q.reads hK I n hp rv;exact⟨_,by rw[bW]; exact reads_list_at eo rfl rfl (by simpa using ra)⟩
 | _,_,_,n,.tup e q,hp,r=>by
  cases r;cases n with
  | zero=>cases hp
  | succ n=>
   obtain⟨its,rv,⟨o,eo,hc,k,hd⟩,_⟩:=I.tuple (hK ▸ e);obtain⟨as,ra⟩:=q.reads hK I n hp rv;exact⟨_,by rw[bW]; exact reads_tuple_at eo hc hd (by simpa using ra)⟩
 | _,_,_,n,.ins _ _ _,hp,_=>by cases n <;> cases hp
 | _,_,_,n,.exc _ _ _,hp,_=>by cases n <;> cases hp
theorem Dens.reads (hK:W.K=X.K)(I:Inv X pins σ H s):∀{vs:aw} {ds:ay} {us:ar} (n:Nat),Dens W H vs ds->ds.all (D.pur n)=true->Vals vs us->∃as,ReadsAll s.heap us (pyDs ds) as
 | _,_,_,_,.nil,_,.nil=>⟨_,by rw[pyDs]; exact .nil⟩
 | _,_,_,n,.cons h q,hp,.cons r t=>by
  rw[List.all_cons,tw] at hp;obtain⟨as,h1⟩:=h.reads hK I n hp.1 r;obtain⟨bs,h2⟩:=q.reads hK I n hp.2 t;exact⟨_,by rw[pyDs]; exact .cons h1 h2⟩
end
def qQ (hK:W.K=X.K)(hu:X.A.units+64<cLine):OpR X (compareOp .Eq) (λx y=>rD W G .eq [x,y]):=by
 rintro pins s σ H x y v u Q I rx ry ⟨N,xs,z,hN,hd,hz,hq⟩;obtain⟨⟨k1,p⟩,⟨k2,q⟩,rfl,d1,d2⟩:=dM hd;simp only[Ip.Aj,bE,jA] at hz;split at hz
 .rename_i hp;rw[tw] at hp;cases hz;obtain⟨_,r1⟩:=(d1.mono bJ).reads hK I 60 hp.1 rx;obtain⟨_,r2⟩:=(d2.mono bJ).reads hK I 60 hp.2 ry;refine eq_dataH r1 r2 (pd hp.1) (pd hp.2) hu ⟨.bl _,H,I,rfl,?_⟩;rw[nI p q 60 60 hp.1 hp.2];exact hq _ _ Res.bl
 .cases hz
def pQ (hK:W.K=X.K)(hu:X.A.units+64<cLine):OpR X (compareOp .NotEq) (λx y=>rD W G .ne [x,y]):=by
 rintro pins s σ H x y v u Q I rx ry ⟨N,xs,z,hN,hd,hz,hq⟩;obtain⟨⟨k1,p⟩,⟨k2,q⟩,rfl,d1,d2⟩:=dM hd;simp only[Ip.Cz,bE,jA] at hz;split at hz
 .rename_i hp;rw[tw] at hp;cases hz;obtain⟨_,r1⟩:=(d1.mono bJ).reads hK I 60 hp.1 rx;obtain⟨_,r2⟩:=(d2.mono bJ).reads hK I 60 hp.2 ry;refine ne_dataH r1 r2 (pd hp.1) (pd hp.2) hu ⟨.bl _,H,I,rfl,?_⟩;rw[nI p q 60 60 hp.1 hp.2];exact hq _ _ Res.bl
 .cases hz
end
end L2
end
section
namespace L2
open PySem PySem.Spec PyProof.Rows
open Ip (D KD Ex Op Pg Fn Sl Fr Wk Tg Tb SL kY mo dC bn be cB cE kZ cI cT dq cD i7 gb c6 bc compF aY lX eU my kF lh ny jL cR mH ko evals bP de fD fB frz frz1 ii jM cN dY fm di bw dU bK dc isNone bj aZ bf cz ck aL cA aP bY cK fH bt cj bE gc gh bB pos? pos?_get fJ pv? aV cQ cu gL dX c7 dP)
section
variable {X:Cx}{W:Wd}{G:Pg}
def xZ:∀x H Q,rD W G .neg [x] H Q->rU (λi=>.int (-i)) x H Q:=by
 rintro x H Q ⟨N,xs,z,hN,hd,hz,hq⟩;obtain⟨⟨k1,p⟩,rfl,d1⟩:=fg hd;simp only[Ip.D4,cj] at hz;cases p <;> first | exact (bY hz).elim | simp only[Ip.jS] at hz
 cases d1;cases hz;exact⟨_,rfl,hq _ _ Res.int⟩
def Al:∀x H Q,rD W G .not [x] H Q->∃c,x=.bl c/\Q (.bl (!c)) H:=by
 rintro x H Q ⟨N,xs,z,hN,hd,hz,hq⟩;obtain⟨⟨k1,p⟩,rfl,d1⟩:=fg hd;simp only[Ip.E6,cj] at hz;cases p <;> first | exact (bY hz).elim | simp only[Ip.jO] at hz
 cases d1;cases hz;exact⟨_,rfl,hq _ _ Res.bl⟩
def Den.non_iff {S:Hp}{v:V}{d:D}(h:Den W S v d):decide (v=.non)=(match d with | .non=>true | _=>false):=by
 cases h <;> simp
def wS:∀x H Q,rD W G .isN [x] H Q->Q (.bl (decide (x=.non))) H:=by
 rintro x H Q ⟨N,xs,z,hN,hd,hz,hq⟩;obtain⟨⟨k1,p⟩,rfl,d1⟩:=fg hd;rw[d1.non_iff];simp only[Ip.xF,cj] at hz;cases p <;> simp only[dc,fB] at hz <;> cases hz <;> exact hq _ _ Res.bl
def wV:∀x H Q,rD W G .notN [x] H Q->Q (.bl (!decide (x=.non))) H:=by
 rintro x H Q ⟨N,xs,z,hN,hd,hz,hq⟩;obtain⟨⟨k1,p⟩,rfl,d1⟩:=fg hd;rw[d1.non_iff];simp only[Ip.Ft,cj] at hz;cases p <;> simp only[dc,fB] at hz <;> cases hz <;> exact hq _ _ Res.bl
theorem Den.flatV {S:Hp}{v:V}{d:D}(h:Den W S v d)(hs:d.scal=true):flatV v=true:=by
 cases h <;> first | rfl | cases hs
theorem Den.eqV {S:Hp}{v w:V}{d e:D}(h:Den W S v d)(k:Den W S w e)(hs:d.scal=true)(ks:e.scal=true):eqV v w=d.eq e:=by
 cases h <;> first | (cases hs; done) | (cases k <;> first | (cases ks; done) | rfl | simp[L2.eqV,D.eq])
theorem Dens.flatV {S:Hp}:∀{vs:aw} {ds:ay},Dens W S vs ds->ds.all D.scal=true->vs.all L2.flatV=true
 | _,_,.nil,_=>rfl
 | _,_,.cons h q,hs=>by
  rw[List.all_cons,tw] at hs;rw[List.all_cons,h.flatV hs.1,q.flatV hs.2]; rfl
theorem wI:∀ys:ay,pyDs ys=ys.map bW
 | []=>by rw[pyDs]; rfl
 | y::ys=>by rw[pyDs,wI ys]; rfl
def Ae {p:D}(hp:p.pur 60=true){ys:ay}(h:ys.all (D.pur 60)=true):(pyDs ys).map (λy=>PyData.eqv y (bW p))=ys.map λy=>y.eq p:=by
 rw[wI,Je];exact ID λy hy=>nI y p 60 60 (dR h y hy) hp
def ot {p:D}{ys:ay}{u:Nat}(hp:p.pur 60=true)(hu:u+64<cLine):u+1+min (PyData.depthAll (pyDs ys)) (bW p).depth<cLine:=by
 have:=(jW p 60 hp).2;omega
theorem Den.seq {S:Hp}{v:V}{d:D}{xs:ay}(h:Den W S v d)(e:d.seq=some xs):∃a vs,v=.ref a/\((SqL W.K S a vs/\Rd S a (.lst vs))\/SqT W.K S a vs)/\Dens W S vs xs:=by
 cases h <;> first | exact (bY e).elim | simp only[D.seq] at e
 .rename_i h1 h2;cases e;exact⟨_,_,rfl,.inl ⟨.inl h1,h1⟩,h2⟩
 .rename_i h1 h2;cases e;exact⟨_,_,rfl,.inr h1,h2⟩
def tm {neg:Bool}{o:Op}{pins:ah}{σ:St}{H:Hp}{s:Shared}{x y:V}{v u:Value}{Q:VK}(ho:∀xs,bB G o xs=bE (jM neg) xs)(hK:W.K=X.K)(I:Inv X pins σ H s)(rx:RelV x v)(ry:RelV y u)(h:rD W G o [x,y] H Q) :
  ∃p ys as bs,p.pur 60=true/\ys.all (D.pur 60)=true/\Reads s.heap v (bW p) as/\(Reads s.heap u (.list (pyDs ys)) bs\/Reads s.heap u (.tuple (pyDs ys)) bs)/\Q (.bl (if neg then !(pyDs ys).any λy=>PyData.eqv y (bW p) else (pyDs ys).any λy=>PyData.eqv y (bW p))) H:=by
 obtain⟨N,xs,z,hN,hd,hz,hq⟩:=h;obtain⟨⟨k1,p⟩,⟨k2,q⟩,rfl,d1,d2⟩:=dM hd;rw[ho] at hz;simp only[bE,jM] at hz;cases e:q.seq with
 | none=>rw[e] at hz; cases hz
 | some ys=>
  rw[e] at hz;simp only at hz;split at hz
  .rename_i hp;rw[tw] at hp;cases hz;obtain⟨as,r1⟩:=(d1.mono bJ).reads hK I 60 hp.1 rx;have em:p.memb ys=(pyDs ys).any λy=>PyData.eqv y (bW p):=by
    have e1:=congrArg (λl:List Bool=>l.any id) (Ae hp.1 hp.2);simp only[List.any_map] at e1;exact e1.symm
   have hq':=hq (.bl (if neg then !p.memb ys else p.memb ys)) H Res.bl;rw[em] at hq';have d2':=d2.mono bJ;cases q <;> first | exact (bY e).elim | simp only[D.seq] at e
   .cases e;obtain⟨bs,r2⟩:=d2'.reads hK I 61 hp.2 ry;rw[bW] at r2;exact⟨p,ys,as,bs,hp.1,hp.2,r1,.inl r2,hq'⟩
   .cases e;obtain⟨bs,r2⟩:=d2'.reads hK I 61 hp.2 ry;rw[bW] at r2;exact⟨p,ys,as,bs,hp.1,hp.2,r1,.inr r2,hq'⟩
  .cases hz
def sm (hK:W.K=X.K)(hu:X.A.units+64<cLine):OpR X (compareOp .In) (λx y=>rD W G .isin [x,y]):=by
 intro pins s σ H x y v u Q I rx ry h;obtain⟨p,ys,as,bs,hp,hs,r1,r2,q⟩:=tm (neg:=false) (λ_=>rfl) hK I rx ry h;rcases r2 with r2 | r2
 .exact SeqAt.in_list_reads r2 r1 (zCF ys 60 hs).1 (jW p 60 hp).1 (ot hp hu) ⟨.bl _,H,I,rfl,q⟩
 .exact SeqAt.in_tuple_reads r2 r1 (zCF ys 60 hs).1 (jW p 60 hp).1 (ot hp hu) ⟨.bl _,H,I,rfl,q⟩
def Ad (hK:W.K=X.K)(hu:X.A.units+64<cLine):OpR X (compareOp .NotIn) (λx y=>rD W G .nin [x,y]):=by
 intro pins s σ H x y v u Q I rx ry h;obtain⟨p,ys,as,bs,hp,hs,r1,r2,q⟩:=tm (neg:=true) (λ_=>rfl) hK I rx ry h;rcases r2 with r2 | r2
 .exact SeqAt.notIn_list_reads r2 r1 (zCF ys 60 hs).1 (jW p 60 hp).1 (ot hp hu) ⟨.bl _,H,I,rfl,q⟩
 .exact SeqAt.notIn_tuple_reads r2 r1 (zCF ys 60 hs).1 (jW p 60 hp).1 (ot hp hu) ⟨.bl _,H,I,rfl,q⟩
def qB (hK:W.K=X.K):nZ X (λx y=>rD W G .ix [x,y]):=by
 rintro value slice pins s σ H x y v u Q I rx ry ⟨N,xs,z,hN,hd,hz,hq⟩ hs;obtain⟨⟨k1,p⟩,⟨k2,q⟩,rfl,d1,d2⟩:=dM hd;simp only[Ip.zr,bE] at hz;cases q <;> first | exact (bY hz).elim | simp only[Ip.aW] at hz
 cases d2;rename_i i;cases e:p.seq with
 | none=>rw[e] at hz; cases hz
 | some ds=>
  rw[e] at hz;simp only at hz;obtain⟨a,vs,rfl,hsq,hv⟩:=d1.seq e;cases e2:(Ip.d6 ds.length i).bind λj=>ds[j]? with
  | none=>rw[e2] at hz; cases hz
  | some d=>
   rw[e2] at hz;cases hz;obtain⟨j,ej,ed⟩:=du e2;obtain⟨w,ew,dw⟩:=hv.get ed;have ha:kL vs i=some w:=by
    unfold kL;have:kH vs.length i=some j:=by rw[hv.length]; exact ej
    rw[this]; exact ew
   have hr:Q w H:=hq _ _ (Res.of_den (Sub.refl _) dw);rcases hsq with hl | ht
   .exact BA value slice pins s σ H _ _ v u Q I rx ry ⟨a,vs,i,w,rfl,rfl,by rw[<-hK]; exact SqL.sub bJ hl.1,ha,hr⟩ hs
   .exact yX value slice pins s σ H _ _ v u Q I rx ry ⟨a,vs,i,w,rfl,rfl,by rw[<-hK]; exact SqT.sub bJ ht,ha,hr⟩ hs
def wz (n d:Nat)(o:Option Int):HT.sIx n d o=Ip.dH n d o:=by
 cases o with
 | none=>rfl
 | some i=>
  show (if i<0 then (i+(n:Int)).toNat else min i.toNat n)=if 0<=i then min i.toNat n else (i+n).toNat
  by_cases h:i<0
  .rw[if_pos h,if_neg (by omega)]
  .rw[if_neg h,if_pos (by omega)]
def Dens.cut {S:Hp}{vs:aw}{ds:ay}(h:Dens W S vs ds)(lo hi:Option Int):Dens W S (dE vs lo hi) (Ip.cutD ds lo hi):=by
 unfold dE Ip.cutD;rw[wz,wz,h.length];exact (h.drop _).take _
def ky (W:Wd):V->Option Int->Option Int->Hp->VK->Prop:=λx lo hi H Q=>∃N d z,NOk N H/\Den W (hid N H) x d/\aY lo hi d=some z/\∀v H',Res W H N H' z v->Q v H'
def sL (hK:W.K=X.K):l7 X (ky W):=by
 rintro pins s σ H x v vl vu lo hi sl Q I rx hs pl pu ⟨N,d,z,hN,hd,hz,hq⟩;cases hd <;> first | exact (bY hz).elim | simp only[aY] at hz
 rotate_left
 .rename_i a vs ds h1 h2;cases hz;refine AC pins s σ H _ v vl vu lo hi sl Q I rx hs pl pu ⟨a,vs,rfl,by rw[<-hK]; exact SqT.sub bJ h1,λhw=>hq _ _ (Res.of_den (Sub.refl _) ?_),λ_ p hp=>hq _ _ (Res.newT hN hp (h2.cut lo hi))⟩;have c:=h2.cut lo hi;have e:dE vs lo hi=vs:=by
   unfold dE;rw[hw.1,hw.2];simp
  rw[e] at c;exact .tup h1 c
 rename_i a vs ds h1 h2;cases hz;exact Fo pins s σ H _ v vl vu lo hi sl Q I rx hs pl pu ⟨a,vs,rfl,by rw[<-hK]; exact .inl (Rd.sub bJ h1),λp hp=>hq _ _ (Res.newL hp (h2.cut lo hi))⟩
def qg (K:bq)(te:TE):TE:=λσ H Q=>te σ H λx H1=>∃a xs,x=.ref a/\SqL K H1 a xs/\∀p,H1 p=none->Q (.ref p) (upd H1 p (.lst xs.reverse))
def zB {e st:Expr}{te:TE}{p2 pos:Pos}(he:PE X e te)(hst:PE X st (tC (.int (-1)))):PE X (.Subscript e (.Slice none none (some st) p2) pos) (qg X.K te):=by
 intro pins s σ H Q I h;refine Subscript_ (bi (he pins s σ H _ I h) λv s1 hZz=>?_);obtain⟨x,H1,I1,r1,q1⟩:=hZz;obtain⟨a,xs,rfl,hx,q⟩:=q1;cases r1;refine wpAny_Slice ?_;rw[evalPart_none];refine bh ?_;refine bh ?_;rw[evalPart_some];refine bi (hst pins s1 σ H1 (λy H2=>y=.int (-1)/\H2=H1) I1 ⟨rfl,rfl⟩) λu s2 hZz=>?_;obtain⟨y,H2,I2,r2,e1,e2⟩:=hZz;subst e1 e2;obtain⟨t,rfl⟩:=(show ∃t,u=Value.int (-1) t from r2)
 have I4:Inv X pins σ H2 { s2 with heap:=s2.heap.push { cls:=.type "slice",data:=.fields #[.none,.none,.int (-1) t] } }:=I2.kept (t':=s2.toks) λb ob q=>b7 _ q;show wpAny (model X.prog X.w) X.A (subscriptTail e (.Slice none none (some st) p2) (.ref a) (.ref s2.heap.objs.size)) (EP X pins σ Q) X.xe { s2 with heap:=s2.heap.push { cls:=.type "slice",data:=.fields #[.none,.none,.int (-1) t] } };obtain⟨its,r,ht,hz⟩:=I4.list hx;refine tail_any (ops:=[.ref a,.ref s2.heap.objs.size]) ht.isList.typeIs slot_list_getitem.lookup ?_ (by with_unfolding_all rfl);refine wpAny_getItem_list_slice ht.isList (Heap.IsSliceOf.new ..) .none .none (.int (-1) t) (by simp) ?_ (by rw[Gv,<-r.length]; exact hz);rw[PySem.W.krv_pick];refine⟨.ref _,_,I4.laid (t':=s2.toks) (o:=.lst xs.reverse) (λb ob q=>b7 _ q) (bC _) ?_,rfl,q _ (I4.hok.fresh (bC _))⟩;exact⟨by rw[List.length_reverse]; exact hz,_,0,r.reverse,df _ rfl⟩
def Dens.rev {S:Hp}{vs:aw}{ds:ay}(h:Dens W S vs ds):Dens W S vs.reverse ds.reverse:=by
 induction vs generalizing ds with
 | nil=>cases h; exact .nil
 | cons v vs ih=>
  cases h with
  | cons h q=>
   rw[IW,IW];exact (ih q).append (.cons h .nil)
def CallR.imp {f:Value}{r r':aw->Hp->VK->Prop}(h:CallR X f r)(k:∀xs H Q,r' xs H Q->r xs H Q):CallR X f r':=λpins s σ H xs us Q I r q=>h pins s σ H xs us Q I r (k xs H Q q)
def Dens.vs1 {S:Hp}{vs:aw}{xs:ax}{o:Op}{f:D->aA}{z:KD}(h:Dens W S vs (xs.map (·.2)))(e:cj f xs=some z):∃v p,vs=[v]/\xs=[p]/\Den W S v p.2/\f p.2=some z:=by
 cases xs with
 | nil=>exact (bY e).elim
 | cons p r=>
  cases r with
  | nil=>
   obtain⟨v,rfl,h1⟩:=Dens.one h;exact⟨v,p,rfl,rfl,h1,e⟩
  | cons _ _=>exact (bY e).elim
def tR {f:ay->aA}{d:D}{z:KD}(e:gh f d=some z):∃xs,d.seq=some xs/\f xs=some z:=by
 unfold gh at e;cases q:d.seq with
 | none=>rw[q] at e; cases e
 | some xs=>rw[q] at e; exact⟨xs,rfl,e⟩
def nn {f:ay->aA}{d:D}{z:KD}(e:gc f d=some z):∃xs,d=.lst xs/\f xs=some z:=by
 cases d <;> simp only[gc] at e <;> first | exact⟨_,rfl,e⟩ | cases e
def EH (hK:W.K=X.K):CallR X (.builtin "len") (λxs=>rD W G .len xs):=zi.imp λvs H Q ⟨N,xs,z,hN,hd,hz,hq⟩=>by
 simp only[Ip.Dz] at hz;obtain⟨v,p,rfl,rfl,dv,ez⟩:=hd.vs1 (o:=.len) hz;obtain⟨ds,e1,e2⟩:=tR ez;obtain⟨a,ws,rfl,hs,hv⟩:=dv.seq e1;cases e2;refine⟨a,ws,rfl,?_,?_⟩
 .rw[<-hK]; exact hs.imp (λh=>SqL.sub bJ h.1) (SqT.sub bJ)
 .rw[hv.length]; exact hq _ _ Res.int
def Em (hK:W.K=X.K):CallR X (.type "list") (λxs=>rD W G .list xs):=AY.imp λvs H Q ⟨N,xs,z,hN,hd,hz,hq⟩=>by
 simp only[Ip.Dq] at hz;obtain⟨v,p,rfl,rfl,dv,ez⟩:=hd.vs1 (o:=.list) hz;obtain⟨ds,e1,e2⟩:=tR ez;obtain⟨a,ws,rfl,hs,hv⟩:=dv.seq e1;cases e2;refine⟨a,ws,rfl,?_,λl hl=>hq _ _ (Res.newL hl hv)⟩;rw[<-hK]; exact hs.imp (λh=>SqL.sub bJ h.1) (SqT.sub bJ)
def zI (hK:W.K=X.K):CallR X (.type "tuple") (λxs=>rD W G .tuple xs):=Bc.imp λvs H Q ⟨N,xs,z,hN,hd,hz,hq⟩=>by
 simp only[Ip.Fq] at hz;obtain⟨v,p,rfl,rfl,dv,ez⟩:=hd.vs1 (o:=.tuple) hz;obtain⟨k,d⟩:=p;cases dv with
 | @lst a ws ds h1 h2=>
  cases ez;exact⟨a,ws,rfl,.inl ⟨by rw[<-hK]; exact .inl (Rd.sub bJ h1),λl hl=>hq _ _ (Res.newT hN hl h2)⟩⟩
 | @tup a ws ds h1 h2=>
  cases ez;exact⟨a,ws,rfl,.inr ⟨by rw[<-hK]; exact SqT.sub bJ h1,hq _ _ (Res.of_den (Sub.refl _) (.tup h1 h2))⟩⟩
 | _=>cases ez
def Gh:CallR X (.type "int") (λxs=>rD W G .toInt xs):=za.imp λvs H Q ⟨N,xs,z,hN,hd,hz,hq⟩=>by
 simp only[Ip.xN] at hz;obtain⟨v,p,rfl,rfl,dv,ez⟩:=hd.vs1 (o:=.toInt) hz;obtain⟨k,d⟩:=p;cases dv <;> first | exact (bY ez).elim | simp only[Ip.intD] at ez
 .cases ez;exact .inr ⟨_,rfl,hq _ _ Res.int⟩
 .cases ez;exact .inl ⟨_,rfl,hq _ _ Res.int⟩
theorem vB:∀{ds:ay} {b:Bool},Ip.allB ds=some b->∃bs:List Bool,ds=bs.map .bl/\b=bs.all id
 | [],b,h=>⟨[],rfl,by cases h; rfl⟩
 | .bl c::ds,b,h=>by
  rw[Ip.allB] at h;obtain⟨c',e,rfl⟩:=cJ h;obtain⟨bs,rfl,rfl⟩:=vB e;exact⟨c::bs,rfl,rfl⟩
theorem ve:∀{ds:ay} {b:Bool},Ip.anyB ds=some b->∃bs:List Bool,ds=bs.map .bl/\b=bs.any id
 | [],b,h=>⟨[],rfl,by cases h; rfl⟩
 | .bl c::ds,b,h=>by
  rw[Ip.anyB] at h;obtain⟨c',e,rfl⟩:=cJ h;obtain⟨bs,rfl,rfl⟩:=ve e;exact⟨c::bs,rfl,rfl⟩
theorem Dens.bools {S:Hp}:∀{vs:aw} {bs:List Bool},Dens W S vs (bs.map .bl)->vs=bs.map .bl
 | [],[],_=>rfl
 | v::vs,b::bs,.cons h q=>by rw[h.bl_inv,q.bools]; rfl
def Vals.bool_at {bs:List Bool}:∀{us:ar} {i:Nat} {v:Value},Vals (bs.map .bl) us->us[i]? = some v->∃b,bs[i]? = some b/\v=.bool b:=by
 intro us i v r e;have hl:bs.length=us.length:=by simpa using r.length
 have hi:i<us.length:=(dO e).1;have hb:(bs.map V.bl)[i]? = some (.bl bs[i]):=by simp[GD,Gw (by omega:i<bs.length)]
 obtain⟨u,e2,r2⟩:=r.get hb;rw[e] at e2;cases e2;exact⟨_,Gw (by omega),r2⟩
def Am (hc:X.calm=true):CallR X (.builtin "all") (λxs=>rD W G .all xs):=by
 rintro pins s σ H vs us Q I rs ⟨N,xs,z,hN,hd,hz,hq⟩;simp only[Ip.Ca] at hz;obtain⟨v,p,rfl,rfl,dv,ez⟩:=hd.vs1 (o:=.all) hz;obtain⟨ds,e1,e2⟩:=nn ez;obtain⟨u,rfl,ru⟩:=rs.one;rw[e1] at dv;cases dv with | @lst l ws _ h1 h2=>?_
 cases ru;cases e3:Ip.allB ds with
 | none=>rw[e3] at e2; cases e2
 | some b=>
  rw[e3] at e2;cases e2;obtain⟨bs,rfl,rfl⟩:=vB e3;have:=h2.bools;subst this;obtain⟨_,its,n,rv,hlen,eo⟩:=I.rdL (Rd.sub bJ h1);have hl:s.heap.IsList l its.toArray:=⟨_,eo,rfl,n,rfl⟩
  have hlt:l<s.heap.objs.size:=bS eo;refine call_all_walk (IR hl ?_);refine⟨s.heap.objs.size,[s.heap.objs.size,l],[s.heap.objs.size],its.toArray.size,_,_,λi=>(bs[i]?).getD true,rfl,Walks.list (A:=X.A.in1) (I.ok.hd hc) _ l (dk hlt) its.toArray,
   ⟨⟨_,df _ rfl,rfl,rfl⟩,hl.push _⟩,λi v s' Q' E' hP hQ=>?_,λh' tk hk=>?_⟩
  .obtain⟨b,e,rfl⟩:=rv.bool_at (i:=i) (v:=v) (by simpa using hP);simp only[e,Option.getD_some] at hQ;exact G6 hQ
  .have e:((List.range its.toArray.size).all λi=>(bs[i]?).getD true)=bs.all id:=by
    rw[Gv,<-hlen,Gx]; exact LSm.range_all bs
   rw[e];exact⟨.bl _,H,I.kept (t':=tk) (LSm.kept_iter hk),rfl,hq _ _ Res.bl⟩
def BK (hc:X.calm=true):CallR X (.builtin "any") (λxs=>rD W G .any xs):=by
 rintro pins s σ H vs us Q I rs ⟨N,xs,z,hN,hd,hz,hq⟩;simp only[Ip.CH] at hz;obtain⟨v,p,rfl,rfl,dv,ez⟩:=hd.vs1 (o:=.any) hz;obtain⟨ds,e1,e2⟩:=nn ez;obtain⟨u,rfl,ru⟩:=rs.one;rw[e1] at dv;cases dv with | @lst l ws _ h1 h2=>?_
 cases ru;cases e3:Ip.anyB ds with
 | none=>rw[e3] at e2; cases e2
 | some b=>
  rw[e3] at e2;cases e2;obtain⟨bs,rfl,rfl⟩:=ve e3;have:=h2.bools;subst this;obtain⟨_,its,n,rv,hlen,eo⟩:=I.rdL (Rd.sub bJ h1);have hl:s.heap.IsList l its.toArray:=⟨_,eo,rfl,n,rfl⟩
  have hlt:l<s.heap.objs.size:=bS eo;refine call_any_walk (IR hl ?_);refine⟨s.heap.objs.size,[s.heap.objs.size,l],[s.heap.objs.size],its.toArray.size,_,_,λi=>(bs[i]?).getD false,rfl,Walks.list (A:=X.A.in1) (I.ok.hd hc) _ l (dk hlt) its.toArray,
   ⟨⟨_,df _ rfl,rfl,rfl⟩,hl.push _⟩,λi v s' Q' E' hP hQ=>?_,λh' tk hk=>?_⟩
  .obtain⟨b,e,rfl⟩:=rv.bool_at (i:=i) (v:=v) (by simpa using hP);simp only[e,Option.getD_some] at hQ;exact G6 hQ
  .have e:((List.range its.toArray.size).any λi=>(bs[i]?).getD false)=bs.any id:=by
    rw[Gv,<-hlen,Gx]; exact LSm.range_any bs
   rw[e];exact⟨.bl _,H,I.kept (t':=tk) (LSm.kept_iter hk),rfl,hq _ _ Res.bl⟩
theorem uq {S:Hp}:∀{ns:am} {vs:aw},Dens W S vs (aL ns)->vs=cw ns
 | [],_,h=>by cases h; rfl
 | n::ns,_,h=>by
  cases h with
  | cons h q=>
   cases h;rw[uq q];rfl
theorem p7 {S:Hp}:∀{ns:am},Dens W S (cw ns) (aL ns)
 | []=>.nil
 | n::ns=>.cons .int p7
theorem uS:∀{ds:ay} {ns:am},cA ds=some ns->ds=aL ns/\∀n∈ns,n<6
 | [],ns,h=>by cases h; exact⟨rfl,λn hn=>by simp at hn⟩
 | d::ds,ns,h=>by
  cases d with
  | int i=>
   unfold cA at h;by_cases c:0<=i/\i<6
   .rw[if_pos c] at h;obtain⟨ms,e1,e2⟩:=cJ h;obtain⟨h1,h2⟩:=uS e1;subst e2;refine⟨?_,λn hn=>?_⟩
    .rw[h1];show _=D.int (Int.ofNat i.toNat)::aL ms;rw[Int.ofNat_eq_natCast,G2 c.1]
    .rcases cg hn with z | z
     .rw[z]; omega
     .exact h2 n z
   .rw[if_neg c] at h; cases h
  | _=>exact nomatch h
def Bq:((St.subs 6).all λl=>decide (l=(List.range 6).filter λk=>l.contains k))=true:=by decide +kernel
def BQ {l:am}{k x:Nat}:x∈St.stp l k↔x∈l\/x=k:=by
 unfold St.stp St.ins;by_cases c:k∈l
 .rw[if_pos c];exact⟨.inl,λh=>h.elim id λz=>z ▸ c⟩
 .rw[if_neg c];simp only[Ha,GB,GO];have b1:∀a b:Nat,Nat.blt a b=true↔a<b:=λa b=>⟨Ih,Nat.ble_eq_true_of_le⟩
  simp only[b1];constructor
  .rintro (h | h | h)
   .exact .inl h.1
   .exact .inr h
   .exact .inl h.1
  .rintro (h | h)
   .rcases Nat.lt_trichotomy x k with z | z | z
    .exact .inl ⟨h,z⟩
    .exact .inr (.inl z)
    .exact .inr (.inr ⟨h,z⟩)
   .exact .inr (.inl h)
def B4 {l:am}{k:Nat}(hl:l∈St.subs 6)(hk:k<6):St.stp l k∈St.subs 6:=by
 unfold St.stp;by_cases c:k∈l
 .rw[if_pos c]; exact hl
 .rw[if_neg c];exact (St.ins_of hl hk c).2.2.2.2.1
theorem uh:∀(ns l:am),l∈St.subs 6->(∀n∈ns,n<6)->ns.foldl St.stp l∈St.subs 6/\∀x,x∈ns.foldl St.stp l↔x∈l\/x∈ns
 | [],l,hl,_=>⟨hl,λx=>by simp⟩
 | n::ns,l,hl,h=>by
  obtain⟨h1,h2⟩:=uh ns (St.stp l n) (B4 hl (h n bQ)) λm hm=>h m (bN _ hm);refine⟨h1,λx=>?_⟩;rw[List.foldl_cons,h2 x,BQ,GO,or_assoc]
def Cy {ns:am}(h:∀n∈ns,n<6):ns.foldl St.stp []=aV ns:=by
 obtain⟨h1,h2⟩:=uh ns [] (by decide +kernel) h;have:=Hl (dR Bq _ h1);rw[this];unfold aV;refine HR λk _=>?_;rw[Ig,HI,HI,h2 k];simp
def AR (hK:W.K=X.K):∀x H Q,rD W G .srtSet [x] H Q->∃a ns,x=.ref a/\SqL X.K H a (cw ns)/\(∀n∈ns,n<6)/\∀p,H p=none->Q (.ref p) (upd H p (.lst (cw (ns.foldl St.stp [])))):=by
 rintro x H Q ⟨N,xs,z,hN,hd,hz,hq⟩;simp only[Ip.DC] at hz;obtain⟨v,p,e,rfl,dv,ez⟩:=hd.vs1 (o:=.srtSet) hz;cases e;obtain⟨ds,e1,e2⟩:=nn ez;rw[e1] at dv;cases dv with | @lst a vs _ h1 h2=>?_
 cases q:cA ds with
 | none=>rw[q] at e2; cases e2
 | some ns=>
  rw[q] at e2;cases e2;obtain⟨r1,r2⟩:=uS q;rw[r1] at h2;have ev:=uq h2;subst ev;refine⟨a,ns,rfl,by rw[<-hK]; exact .inl (Rd.sub bJ h1),r2,λp hp=>hq _ _ ?_⟩;rw[Cy r2];exact Res.newL hp p7
def AL:∀x H Q,rD W G .lrng [x] H Q->∃j:Int,x=.int j/\0<=j/\j<=16777216/\∀p,H p=none->Q (.ref p) (upd H p (.lst (cw (List.range j.toNat)))):=by
 rintro x H Q ⟨N,xs,z,hN,hd,hz,hq⟩;simp only[Ip.Bh] at hz;obtain⟨v,p,e,rfl,dv,ez⟩:=hd.vs1 (o:=.lrng) hz;cases e;obtain⟨k,d⟩:=p;cases dv <;> first | exact (bY ez).elim | simp only[Ip.gC] at ez
 rename_i j;by_cases c:0<=j/\j<=(SL:Int)
 .rw[if_pos c] at ez;cases ez;have:(SL:Int)=1000000:=rfl;exact⟨j,rfl,c.1,by omega,λp hp=>hq _ _ (Res.newL hp p7)⟩
 .rw[if_neg c] at ez; cases ez
end
theorem OwnF.re {att:au}{P Q:V->D->aq->Prop}{b:D->Bool}(hP:∀v d f,b d=true->P v d f->Q v d f):∀{vs ds fp},(ds.all λp=>b p.2)=true->OwnF att P vs ds fp->OwnF att Q vs ds fp
 | _,_,_,_,.nil=>.nil
 | _,_,_,hf,.cons e h q=>by
  rw[List.all_cons,tw] at hf;exact .cons e (hP _ _ _ hf.1 h) (q.re hP hf.2)
theorem oS {α:Type}{p q:α->Bool}:∀{xs:List α},xs.all p=true->xs.all q=true->(xs.all λx=>p x&&q x)=true
 | [],_,_=>rfl
 | x::xs,h,k=>by
  rw[List.all_cons,tw] at h k;rw[List.all_cons,h.1,k.1,oS h.2 k.2]; rfl
section
variable {W:Wd}{S H:Hp}
theorem Own.fb:∀{k j v d fp},D.fb k d=true->D.fb j d=true->Own W S H k v d fp->Own W S H j v d fp
 | 0,j,_,d,_,h,_,o=>by
  rw[D.fb] at h;obtain⟨e1,e2⟩:=o.flat_inv h;rw[e1];exact Own.flat h e2
 | k+1,0,_,d,_,_,h,o=>by
  rw[D.fb] at h;obtain⟨e1,e2⟩:=o.flat_inv h;exact⟨e1,e2⟩
 | k+1,j+1,_,.lst ds,_,h1,h2,⟨a,vs,fq,e1,e2,e3,e4⟩=>⟨a,vs,fq,e1,e2,e3.re (b:=λd=>D.fb k d&&D.fb j d) (λv d f hb o=>by rw[tw] at hb; exact Own.fb hb.1 hb.2 o) (oS h1 h2),e4⟩
 | k+1,j+1,_,.tup ds,_,h1,h2,⟨a,vs,e1,e2,e3⟩=>⟨a,vs,e1,e2,e3.re (b:=λd=>D.fb k d&&D.fb j d) (λv d f hb o=>by rw[tw] at hb; exact Own.fb hb.1 hb.2 o) (oS h1 h2)⟩
 | k+1,j+1,_,.ins c ds,_,h1,h2,⟨a,C,dx,fs,fq,e1,e2,e5,e3,e4⟩=>⟨a,C,dx,fs,fq,e1,e2,e5,e3.re (b:=λd=>D.fb k d&&D.fb j d) (λv d f hb o=>by rw[tw] at hb; exact Own.fb hb.1 hb.2 o) (oS h1 h2),e4⟩
 | k+1,j+1,_,.exc c ds,_,h1,_,_=>by cases h1
 | _+1,_+1,_,.non,_,_,_,h=>h
 | _+1,_+1,_,.bl _,_,_,_,h=>h
 | _+1,_+1,_,.int _,_,_,_,h=>h
 | _+1,_+1,_,.str _,_,_,_,h=>h
theorem Own.at {j k:Nat}{v:V}{d:D}{fp:aq}(h:bt j (k,d)=true)(o:Own W S H k v d fp):Own W S H j v d fp:=by
 unfold bt at h;rw[Hj,Hj,tw] at h;rcases h with h | h | ⟨h1,h2⟩
 .obtain⟨e1,e2⟩:=o.flat_inv h;rw[e1];exact Own.flat h e2
 .have:k=j:=by simpa using h
  rw[<-this]; exact o
 .exact o.fb h2 h1
theorem OwnV.at {j:Nat}:∀{vs xs fp},xs.all (bt j)=true->OwnV W S H vs xs fp->OwnL (Own W S H j) vs (xs.map (·.2)) fp
 | _,_,_,_,.nil=>.nil
 | _,_,_,hf,.cons h q=>by
  rw[List.all_cons,tw] at hf;exact .cons (h.at hf.1) (q.at hf.2)
def C8 {xs:ax}:xs.all (bt (bf xs))=true\/bf xs=0:=by
 unfold bf;cases e:xs.find? λx=>!x.2.flat with
 | none=>
  refine .inl (List.all_eq_true.mpr λx hx=>Ip.uK ?_);have:=List.find?_eq_none.mp e x hx;simpa using this
 | some y=>
  show xs.all (bt (if xs.all (bt y.1)=true then y.1 else 0))=true\/(if xs.all (bt y.1)=true then y.1 else 0)=0;by_cases h:xs.all (bt y.1)=true
  .rw[if_pos h]; exact .inl h
  .rw[if_neg h]; exact .inr rfl
def OwnV.join {N:Addr->Prop}{vs:aw}{xs:ax}{fp:aq}(nd:fp.Nodup)(hn:∀a∈fp,¬N a)(o:OwnV W (hid (λa=>N a\/a∈fp) H) H vs xs fp) :
  ∃fq:aq,fq.Nodup/\(∀a∈fq,a∈fp)/\OwnL (Own W (hid (λa=>N a\/a∈fq) H) H (bf xs)) vs (xs.map (·.2)) fq:=by
 rcases C8 (xs:=xs) with h | h
 .exact⟨fp,nd,λ_ z=>z,o.at h⟩
 .rw[h];refine⟨[],.nil,λ_ z=>by simp at z,OwnL.zero ?_⟩;refine o.dens (λa u e=>?_) λa ha u e=>bg.mpr ⟨λz=>z.elim (hn a ha) (by simp),e⟩;obtain⟨h1,h2⟩:=bg.mp e;exact bg.mpr ⟨λz=>z.elim (λy=>h1 (.inl y)) (by simp),h2⟩
end
section
variable {X:Cx}{W:Wd}{G:Pg}{cl:Nat->ax->Ip.Run}{E:St->XK}
def oF (e:Expr)(es:av)(env:Env):(∃x p,e=.Starred x p)\/starEach (e::es) env=(false,PySem.eval e env)::starEach es env:=by
 cases e <;> first | exact .inl ⟨_,_,rfl⟩ | exact .inr rfl
def D9 {ir:Ex}{irs:aG}{σ:St}{H:Hp}{Q:aw->Hp->Prop}(h:ce W G cl (ir::irs) E σ H Q):bZ (bm W G cl ir E) (ce W G cl irs E) σ H Q:=by
 obtain⟨N,a,hN,hS,h⟩:=h;unfold bZ;refine f9 hN hS (λx ex v H1 fp hs nd hf ow hN1 hS1=>?_) (λc fs ee=>?_) λee=>?_
 .refine⟨_,a,hN1,hS1,?_⟩;cases q:evals G cl a irs with
  | bad=>simp only[bP,ex,q,Ip.R.bind] at h
  | exc c fs=>
   simp only[bP,ex,q,Ip.R.bind] at h;exact λe H' r=>h e H' (r.trans hs λ_ y=>.inl y)
  | ok xs=>
   simp only[bP,ex,q,Ip.R.bind] at h;rintro vs H2 ⟨hs2,fq,nd2,hf2,o2⟩;refine h _ _ ⟨hs.trans hs2,fp++fq,?_,λb z=>(dm z).elim (hf b) λy=>hs.none (hf2 b y),?_⟩
   .refine GK.mpr ⟨nd,nd2,λb hb c hc z=>?_⟩;rw[z] at hb;exact ow.dom c hb (hf2 c hc)
   .refine .cons (ow.mono (gi hs2 λb z=>?_) λb hb o e=>hs2 b o e) (o2.mono (λb o e=>?_) λb _ o e=>e)
    .rcases z with z | z
     .exact .inl (.inl z)
     .exact (dm z).elim (λy=>.inl (.inr y)) λy=>.inr (hf2 b y)
    .obtain⟨h1,h2⟩:=bg.mp e;refine bg.mpr ⟨λz=>h1 ?_,h2⟩;rcases z with z | z
     .exact .inl (.inl z)
     .exact (dm z).elim (λy=>.inl (.inr y)) .inr
 .simp only[bP,ee,Ip.R.bind] at h;exact h
 .simp only[bP,ee,Ip.R.bind] at h
def oK {σ:St}{H:Hp}{Q:aw->Hp->Prop}(h:ce W G cl [] E σ H Q):dI σ H Q:=by
 obtain⟨N,a,hN,hS,h⟩:=h;simp only[de] at h;exact h _ _ ⟨Sub.refl _,[],.nil,λa z=>by simp at z,.nil⟩
theorem t9:∀{es:av} {f:Expr->Ex},(∀e∈es,PE X e (bm W G cl (f e) E))->(∀e∈es,∀x p,e=.Starred x p->f e=.bad)->PA X es (ce W G cl (es.map f) E)
 | [],_,_,_=>jR.mono λσ H Q h=>oK h
 | e::es,f,h,k=>by
  rcases oF e es X.env with ⟨x,p,hx⟩ | hs
  .rintro pos pins s σ H Q I ⟨N,a,_,_,q⟩;rw[GA,k e G8 x p hx,bP,eU] at q;exact q.elim
  .refine (gQ (h e bQ) (t9 (λy hy=>h y (bN _ hy)) λy hy=>k y (bN _ hy)) hs).mono λσ H Q q=>?_;rw[GA] at q;exact D9 q
def rh {es:av}{pos:Pos}{irs:aG}(hl:irs.length<=1000)(h:PA X es (ce W G cl irs E)):PE X (.List es pos) (bm W G cl (.op .lst irs) E):=by
 refine (F7 h).mono λσ H Q hZz=>?_;obtain⟨N,a,hN,hS,q⟩:=hZz;refine⟨N,a,hN,hS,?_⟩;rw[cR] at q;cases e:evals G cl a irs with
 | bad=>rw[e] at q; exact q
 | exc c fs=>rw[e] at q; exact q
 | ok xs=>
  simp only[e,Ip.R.bind,Ip.R.of,Ip.Gm] at q;rintro vs H1 ⟨hs,fp,nd,hf,o⟩;have hx:xs.length=irs.length:=evals_length e;refine⟨?_,λp hp=>?_⟩
  .rw[o.length,hx];exact bH hl (by decide)
  obtain⟨fq,nd2,sub,o2⟩:=o.join nd λb hb z=>hN b z (hf b hb);refine q _ _ ⟨hs.trans (Sub.upd hp),p::fq,GP.mpr ⟨λz=>o.dom p (sub p z) hp,nd2⟩,λb z=>?_,p,vs,fq,rfl,cM,?_,rfl⟩
  .rcases cg z with y | y
   .rw[y]; exact hs.none hp
   .exact hf b (sub b y)
  .refine o2.imp λv d f hf2 ow=>ow.mono (gi (Sub.upd hp) λb z=>?_) λb _ u e=>Sub.upd hp b u e;rcases z with z | z
   .exact .inl (.inl z)
   .rcases cg z with y | y
    .rw[y]; exact .inr hp
    .exact .inl (.inr y)
where
 evals_length {a:Sl}:∀{irs:aG} {xs:ax},evals G cl a irs=.ok xs->xs.length=irs.length
  | [],xs,h=>by rw[de] at h; cases h; rfl
  | ir::irs,xs,h=>by
   rw[bP] at h;cases e1:Ip.eval G cl a ir with
   | bad=>rw[e1] at h; cases h
   | exc c fs=>rw[e1] at h; cases h
   | ok x=>
    cases e2:evals G cl a irs with
    | bad=>rw[e1,e2] at h; cases h
    | exc c fs=>rw[e1,e2] at h; cases h
    | ok ys=>
     rw[e1,e2] at h;cases h;rw[List.length_cons,List.length_cons,evals_length e2]
def EI {es:av}{k:Nat}{pos:Pos}{irs:aG}(hl:irs.length<=1000)(h:PA X es (ce W G cl irs E)):PE X (.Tuple es k pos) (bm W G cl (.op .tup irs) E):=by
 refine (w8 h).mono λσ H Q hZz=>?_;obtain⟨N,a,hN,hS,q⟩:=hZz;refine⟨N,a,hN,hS,?_⟩;rw[cR] at q;cases e:evals G cl a irs with
 | bad=>rw[e] at q; exact q
 | exc c fs=>rw[e] at q; exact q
 | ok xs=>
  simp only[e,Ip.R.bind,Ip.R.of,Ip.ET] at q;rintro vs H1 ⟨hs,fp,nd,hf,o⟩;have hx:xs.length=irs.length:=rh.evals_length e;refine⟨?_,λp hp=>?_⟩
  .rw[o.length,hx];exact bH hl (by decide)
  obtain⟨fq,nd2,sub,o2⟩:=o.join nd λb hb z=>hN b z (hf b hb);refine q _ _ ⟨hs.trans (Sub.upd hp),fq,nd2,λb z=>hf b (sub b z),p,vs,rfl,SqT.of (bg.mpr ⟨λz=>?_,cM⟩),?_⟩
  .rcases z with z | z
   .exact (hN.mono hs) p z hp
   .exact o.dom p (sub p z) hp
  .refine o2.imp λv d f hf2 ow=>ow.mono (gi (Sub.upd hp) λb z=>.inl z) λb _ u e=>Sub.upd hp b u e
end
section
variable {X:Cx}{W:Wd}{G:Pg}{cl:Nat->ax->Ip.Run}{E:St->XK}{σ:St}{H:Hp}
def DI {e:Expr}{i:Nat}(h:PE X e (cW i)):PE X e (bm W G cl (.var i) E):=h.mono λσ H Q ⟨N,a,hN,hS,q⟩=>by
 rw[ko] at q;cases e:a[i]? with
 | none=>rw[e] at q; exact q.elim
 | some o=>
  cases o with
  | none=>rw[e] at q; exact q.elim
  | some d=>
   rw[e] at q;obtain⟨v,h1,h2⟩:=hS i d e;exact⟨v,h1,q v H (Res.of_den (Sub.refl _) h2)⟩
def lV {e:Expr}{v:V}{d:D}(hd:d.flat=true)(hv:∀S,Den W S v d)(h:PE X e (tC v)):PE X e (bm W G cl (.cst d) E):=h.mono λσ H Q ⟨N,a,hN,hS,q⟩=>by
 rw[lh] at q;exact q v H (Res.of_flat (Sub.refl _) hd (hv _))
def b9 (W:Wd)(G:Pg)(cl:Nat->ax->Ip.Run)(ir:Ex)(E:St->XK):TT:=λσ H Q=>∃(N:Addr->Prop) (a:Sl),NOk N H/\RelS W (hid N H) a σ/\match (Ip.eval G cl a ir).bl with
 | .ok b=>∀H',Sub H H'->Q b H'
 | .exc c fs=>∀e H',ExcR W H N H' c fs e->E σ (.ref e) none H'
 | .bad=>False
def RelS.grow {N:Addr->Prop}{a:Sl}{H1:Hp}(hS:RelS W (hid N H) a σ)(hs:Sub H H1):RelS W (hid N H1) a σ:=hS.mono (gi hs λ_ z=>.inl z)
def mn {ir:Ex}{Q:Bool->Hp->Prop}(h:b9 W G cl ir E σ H Q):bm W G cl ir E σ H (λx H1=>∃c,x=.bl c/\Q c H1):=by
 obtain⟨N,a,hN,hS,h⟩:=h;refine⟨N,a,hN,hS,?_⟩;cases e:Ip.eval G cl a ir with
 | bad=>rw[e] at h; exact h
 | exc c fs=>rw[e] at h; exact h
 | ok x=>
  obtain⟨k,d⟩:=x;rw[e] at h;intro v H' r;cases d <;> try (exact h.elim)
  have:=(r.den hN).bl_inv;subst this;exact⟨_,rfl,h H' r.1⟩
def tF {e:Expr}{ir:Ex}(h:PE X e (bm W G cl ir E))(he:∀whole,isTrue e X.env whole=(do let v <-whole; standAt e.pos; holding [v] (truthy v))):PT X e (b9 W G cl ir E):=
 (DO h he).mono λσ H Q q=>mn q
def hX {α β:Type}{r:Ip.R α}{f:α->Ip.R β}{b:β}(h:r.bind f=.ok b):∃a,r=.ok a/\f a=.ok b:=by
 cases r with
 | ok a=>exact⟨a,rfl,h⟩
 | exc c fs=>cases h
 | bad=>cases h
def ExcR.of_sub {H1 H':Hp}{N:Addr->Prop}{c:Nat}{fs:List aJ}{e:Addr}(hs:Sub H H1)(r:ExcR W H1 N H' c fs e):ExcR W H N H' c fs e:=r.trans hs λ_ z=>z
def Dg {x y:Ex}{Q:Bool->Hp->Prop}(h:b9 W G cl (.and x y) E σ H Q):jx (b9 W G cl x E) (b9 W G cl y E) σ H Q:=by
 obtain⟨N,a,hN,hS,h⟩:=h;rw[lX] at h;unfold jx;refine⟨N,a,hN,hS,?_⟩;cases e:Ip.eval G cl a x with
 | bad=>rw[e] at h; exact h
 | exc c fs=>rw[e] at h; exact h
 | ok v=>
  obtain⟨k,d⟩:=v;rw[e] at h;cases d <;> try (exact h.elim)
  rename_i b;intro H1 hs;cases b with
  | false=>exact h H1 hs
  | true=>
   rw[if_pos rfl];refine⟨N,a,hN.mono hs,hS.grow hs,?_⟩;simp only[Ip.R.bind,kY,if_true] at h;cases e2:(Ip.eval G cl a y).bl with
   | bad=>rw[e2] at h; exact h
   | exc c fs=>rw[e2] at h; exact λe' H' r=>h e' H' (r.of_sub hs)
   | ok b=>rw[e2] at h; exact λH' hs2=>h H' (hs.trans hs2)
def DG {x y:Ex}{Q:Bool->Hp->Prop}(h:b9 W G cl (.or x y) E σ H Q):sd (b9 W G cl x E) (b9 W G cl y E) σ H Q:=by
 obtain⟨N,a,hN,hS,h⟩:=h;rw[mH] at h;unfold sd;refine⟨N,a,hN,hS,?_⟩;cases e:Ip.eval G cl a x with
 | bad=>rw[e] at h; exact h
 | exc c fs=>rw[e] at h; exact h
 | ok v=>
  obtain⟨k,d⟩:=v;rw[e] at h;cases d <;> try (exact h.elim)
  rename_i b;intro H1 hs;cases b with
  | true=>exact h H1 hs
  | false=>
   rw[if_neg (by decide)];refine⟨N,a,hN.mono hs,hS.grow hs,?_⟩;simp only[Ip.R.bind,kY,GN,if_false] at h;cases e2:(Ip.eval G cl a y).bl with
   | bad=>rw[e2] at h; exact h
   | exc c fs=>rw[e2] at h; exact λe' H' r=>h e' H' (r.of_sub hs)
   | ok b=>rw[e2] at h; exact λH' hs2=>h H' (hs.trans hs2)
def ER {x:Ex}{Q:Bool->Hp->Prop}(h:b9 W G cl (.op .not [x]) E σ H Q):kc (b9 W G cl x E) σ H Q:=by
 obtain⟨N,a,hN,hS,h⟩:=h;rw[cR,bP,de] at h;unfold kc;refine⟨N,a,hN,hS,?_⟩;cases e:Ip.eval G cl a x with
 | bad=>rw[e] at h; exact h
 | exc c fs=>rw[e] at h; exact h
 | ok v=>
  obtain⟨k,d⟩:=v;rw[e] at h;cases d <;> first | exact h | exact h.elim
def xV {x y:Ex}{Q:VK}(h:bm W G cl (.and x y) E σ H Q):gJ (bm W G cl x E) (bm W G cl y E) σ H Q:=by
 obtain⟨N,a,hN,hS,h⟩:=h;rw[lX] at h;unfold gJ;refine⟨N,a,hN,hS,?_⟩;cases e:Ip.eval G cl a x with
 | bad=>rw[e] at h; exact h
 | exc c fs=>rw[e] at h; exact h
 | ok v=>
  obtain⟨k,d⟩:=v;rw[e] at h;cases d <;> try (exact h.elim)
  rename_i b;intro v H1 r;have:=(r.den hN).bl_inv;subst this;have hs:=r.1;refine⟨b,rfl,?_⟩;cases b with
  | false=>exact h _ _ (Res.of_flat hs rfl .bl)
  | true=>
   rw[if_pos rfl];refine⟨N,a,hN.mono hs,hS.grow hs,?_⟩;simp only[Ip.R.bind,kY,if_true] at h;cases e2:Ip.eval G cl a y with
   | bad=>rw[e2] at h; exact h
   | exc c fs=>rw[e2] at h; exact λe' H' r=>h e' H' (r.of_sub hs)
   | ok b=>rw[e2] at h; exact λv H' r2=>h v H' (r2.trans hs)
def pC {x y:Ex}{Q:VK}(h:bm W G cl (.or x y) E σ H Q):kz (bm W G cl x E) (bm W G cl y E) σ H Q:=by
 obtain⟨N,a,hN,hS,h⟩:=h;rw[mH] at h;unfold kz;refine⟨N,a,hN,hS,?_⟩;cases e:Ip.eval G cl a x with
 | bad=>rw[e] at h; exact h
 | exc c fs=>rw[e] at h; exact h
 | ok v=>
  obtain⟨k,d⟩:=v;rw[e] at h;cases d <;> try (exact h.elim)
  rename_i b;intro v H1 r;have:=(r.den hN).bl_inv;subst this;have hs:=r.1;refine⟨b,rfl,?_⟩;cases b with
  | true=>exact h _ _ (Res.of_flat hs rfl .bl)
  | false=>
   rw[if_neg (by decide)];refine⟨N,a,hN.mono hs,hS.grow hs,?_⟩;simp only[Ip.R.bind,kY,GN,if_false] at h;cases e2:Ip.eval G cl a y with
   | bad=>rw[e2] at h; exact h
   | exc c fs=>rw[e2] at h; exact λe' H' r=>h e' H' (r.of_sub hs)
   | ok b=>rw[e2] at h; exact λv H' r2=>h v H' (r2.trans hs)
def ug {o p:Op}{x y z:Ex}{Q:VK}(h:bm W G cl (.chain o p x y z) E σ H Q) :
  d9 (λx y=>rD W G o [x,y]) (λx y=>rD W G p [x,y]) (bm W G cl x E) (bm W G cl y E) (bm W G cl z E) σ H Q:=by
 obtain⟨N,a,hN,hS,h⟩:=h;rw[Ip.rO] at h;unfold d9;refine f9 hN hS (λx1 ex v H1 fp hs nd hf ow hN1 hS1=>?_) (λc fs ee=>?_) λee=>?_
 .refine f9 hN1 hS1 (λy1 ey w H2 fq hs2 nd2 hf2 ow2 hN2 hS2=>?_) (λc fs ee e H' r=>?_) λee=>?_
  .simp only[ex,ey,Ip.R.bind] at h;have hN':=hN.mono (hs.trans hs2);have dx:=ow.later hN hs2 hf λ_ y=>y;have dy:=ow2.later (hN.mono hs) (Sub.refl _) hf2 λ_ y=>.inl y;cases q:bB G o [x1,y1] with
   | none=>simp only[q,Ip.R.of] at h
   | some b=>
    simp only[q,Ip.R.of] at h;refine⟨N,[x1,y1],b,hN',.cons dx (.cons dy .nil),q,λv2 H3 r3=>?_⟩;obtain⟨kb,b⟩:=b;cases b <;> try (exact h.elim)
    rename_i b;have:=(r3.den hN').bl_inv;subst this;have hs3:=(hs.trans hs2).trans r3.1;refine⟨b,rfl,?_⟩;cases b with
    | false=>exact h _ _ (Res.of_flat hs3 rfl .bl)
    | true=>
     rw[if_pos rfl];simp only[kY,if_true] at h;refine f9 (hN.mono hs3) (hS.grow hs3) (λz1 ez u H4 fz hs4 nd4 hf4 ow4 hN4 hS4=>?_) (λc fs ee e H' r=>?_) λee=>?_
     .simp only[ez] at h;cases q2:bB G p [y1,z1] with
      | none=>simp only[q2] at h
      | some t=>
       simp only[q2] at h;exact⟨N,[y1,z1],t,hN.mono (hs3.trans hs4),.cons (dy.mono (gi (r3.1.trans hs4) λ_ z=>.inl z)) (.cons (ow4.later (hN.mono hs3) (Sub.refl _) hf4 λ_ y=>y) .nil),q2,λv H' r=>h v H' (r.trans (hs3.trans hs4))⟩
     .simp only[ee] at h;exact h e H' (r.of_sub hs3)
     .simp only[ee] at h
  .simp only[ex,ee,Ip.R.bind] at h;exact h e H' (r.trans hs λ_ y=>.inl y)
  .simp only[ex,ee,Ip.R.bind] at h
 .simp only[ee,Ip.R.bind] at h;exact h
 .simp only[ee,Ip.R.bind] at h
end
def ItD (W:Wd)(N:Addr->Prop)(H1:Hp)(J:It)(ds:ay):Prop:=∀(M:Addr->Prop) (H:Hp),Sub (hid N H1) (hid M H)->NOk M H->∀i:Nat,
 (∀d,ds[i]? = some d->J.go i H/\∀x H',J.yld i H x H'->Sub H H'/\Den W (hid M H') x d)/\(ds.length<=i->J.stop i H)
section
variable {X:Cx}{W:Wd}{G:Pg}{cl:Nat->ax->Ip.Run}{E:St->XK}
def hG {N:Addr->Prop}{H H':Hp}(h:Sub H H'):Sub (hid N H) (hid N H'):=gi h λ_ z=>.inl z
def fX (W:Wd)(G:Pg)(cl:Nat->ax->Ip.Run)(wk:Wk)(irs:aG)(E:St->XK):TI:=λσ H R=>∃(N:Addr->Prop) (a:Sl),NOk N H/\RelS W (hid N H) a σ/\match evals G cl a irs with
 | .ok vs=>(match c7 wk vs with
  | some ds=>∀J H',Sub H H'->ItD W N H' J ds->(wk.rng=true->∀M,ItD W M H' J ds)->R J H'
  | none=>False)
 | .exc c fs=>∀e H',ExcR W H N H' c fs e->E σ (.ref e) none H'
 | .bad=>False
def PI.mono {tg iter:Expr}{t t':TI}(h:PI X tg iter t)(k:∀σ H R,t' σ H R->t σ H R):PI X tg iter t':=λpins s σ H R I q=>h pins s σ H R I (k σ H R q)
def ItD.list {N:Addr->Prop}{H1:Hp}{a:Addr}{vs:aw}{ds:ay}(hK:W.K=X.K)(h:Rd (hid N H1) a (.lst vs))(q:Dens W (hid N H1) vs ds):ItD W N H1 (qq X.K a) ds:=λM H hs hN i=>by
 have hq:SqL X.K H a vs:=.inl (Rd.sub (hs.trans bJ) h);refine⟨λd e=>?_,λhl=>⟨vs,hq,by rw[q.length]; exact hl⟩⟩;obtain⟨v,e1,e2⟩:=q.get e;refine⟨⟨vs,v,hq,e1⟩,λx H' hZz=>?_⟩;obtain⟨hH,hx⟩:=hZz;subst hH;have:=hx vs hq;rw[e1] at this;cases this;exact⟨Sub.refl _,e2.mono hs⟩
def ItD.tup {N:Addr->Prop}{H1:Hp}{a:Addr}{vs:aw}{ds:ay}(hK:W.K=X.K)(h:SqT W.K (hid N H1) a vs)(q:Dens W (hid N H1) vs ds):ItD W N H1 (se X.K a) ds:=λM H hs hN i=>by
 have hq:SqT X.K H a vs:=hK ▸ SqT.sub (hs.trans bJ) h;refine⟨λd e=>?_,λhl=>⟨vs,hq,by rw[q.length]; exact hl⟩⟩;obtain⟨v,e1,e2⟩:=q.get e;refine⟨⟨vs,v,hq,e1⟩,λx H' hZz=>?_⟩;obtain⟨hH,hx⟩:=hZz;subst hH;have:=hx vs hq;rw[e1] at this;cases this;exact⟨Sub.refl _,e2.mono hs⟩
def EW {tg e:Expr}{ir:Ex}(hK:W.K=X.K)(h:PE X e (bm W G cl ir E)):PI X tg e (fX W G cl .seq [ir] E):=by
 rintro pins s σ H R I ⟨N,a,hN,hS,q⟩;rw[bP,de] at q;cases e1:Ip.eval G cl a ir with
 | bad=>rw[e1] at q; exact q.elim
 | exc c fs=>
  rw[e1] at q;refine we h pins s σ H R I ⟨N,a,hN,hS,?_⟩;rw[e1];exact q
 | ok x=>
  obtain⟨k,d⟩:=x;rw[e1] at q;simp only[show c7 .seq [(k,d)]=d.seq from rfl] at q;cases e2:d.seq with
  | none=>rw[e2] at q; exact q.elim
  | some ds=>
   rw[e2] at q;cases d <;> first | exact (bY e2).elim | simp only[D.seq] at e2
   .cases e2;refine we h pins s σ H R I ⟨N,a,hN,hS,?_⟩;rw[e1];intro v H' r;have dv:=r.den hN;cases dv with | @lst b vs _ h1 h2=>?_
    exact⟨b,rfl,⟨vs,.inl (Rd.sub bJ h1)⟩,q _ _ r.1 (ItD.list hK h1 h2) λz=>nomatch z⟩
   .cases e2;refine Et h pins s σ H R I ⟨N,a,hN,hS,?_⟩;rw[e1];intro v H' r;have dv:=r.den hN;cases dv with | @tup b vs _ h1 h2=>?_
    exact⟨b,rfl,⟨vs,hK ▸ SqT.sub bJ h1⟩,q _ _ r.1 (ItD.tup hK h1 h2) λz=>nomatch z⟩
theorem ItD.range {N:Addr->Prop}{H1:Hp}{lo:Int}{n:Nat}:ItD W N H1 (kT lo n) ((List.range n).map λ(i:Nat)=>.int (lo+i)):=λM H hs hN i=>by
 refine⟨λd e=>?_,λhl=>?_⟩;rotate_left
 .show n<=i;simpa using hl
 rw[GD] at e;obtain⟨j,e1,e2⟩:=cJ e;have hi:i<n:=by have:=(dO e1).1; simpa using this
 rw[List.getElem?_range hi] at e1;cases e1;subst e2;refine⟨hi,λx H' hZz=>?_⟩;obtain⟨hH,hx⟩:=hZz;subst hH hx;exact⟨Sub.refl _,.int⟩
def wk_rng1 {xs:ax}{ds:ay}(h:c7 .rng1 xs=some ds):∃k j,xs=[(k,.int j)]/\(-(2 ^ 62)<=j/\j<2 ^ 62)/\ds=(List.range j.toNat).map λ(n:Nat)=>.int n:=by
 obtain⟨⟨k,d⟩,rfl,h2⟩:=Ip.tW (f:=Ip.iY) h;obtain⟨j,e1,h3⟩:=du (show (fm d).bind _=some ds from h2);clear h h2;obtain rfl:=Ip.qO e1;by_cases hj:cN j=true
 .rw[if_pos hj] at h3;cases h3;exact⟨k,j,rfl,dY.mp hj,rfl⟩
 .rw[if_neg hj] at h3; exact (bY h3).elim
def wk_rng2 {xs:ax}{ds:ay}(h:c7 .rng2 xs=some ds):∃k l i j,xs=[(k,.int i),(l,.int j)]/\(-(2 ^ 62)<=i/\i<2 ^ 62 /\ -(2 ^ 62)<=j/\j<2 ^ 62)/\ds=(List.range (j - i).toNat).map λ(n:Nat)=>.int (i+n):=by
 obtain⟨⟨k,d⟩,⟨l,e⟩,rfl,h2⟩:=Ip.vX (f:=Ip.iW) h;obtain⟨i,e1,h3⟩:=du (show (fm d).bind _=some ds from h2);obtain⟨j,e2,h4⟩:=du h3;clear h h2 h3;obtain rfl:=Ip.qO e1;obtain rfl:=Ip.qO e2;by_cases hj:cN i=true/\cN j=true
 .rw[if_pos hj] at h4;cases h4;exact⟨k,l,i,j,rfl,⟨(dY.mp hj.1).1,(dY.mp hj.1).2,(dY.mp hj.2).1,(dY.mp hj.2).2⟩,rfl⟩
 .rw[if_neg hj] at h4; exact (bY h4).elim
def wg {d:D}{xs:ay}(h:d.lstO=some xs):d=.lst xs:=by
 cases d <;> simp only[D.lstO] at h <;> cases h
 rfl
def As {d:D}{xs:ay}(h:d.seq=some xs):d=.lst xs\/d=.tup xs:=by
 cases d <;> simp only[D.seq] at h <;> cases h
 .exact .inl rfl
 .exact .inr rfl
def wk_enum {xs:ax}{ds:ay}(h:c7 .enum xs=some ds):∃k d es,xs=[(k,d)]/\(d=.lst es\/d=.tup es)/\ds=es.mapIdx λn d=>.tup [.int n,d]:=by
 obtain⟨⟨k,d⟩,rfl,h2⟩:=Ip.tW (f:=Ip.iI) h;obtain⟨es,e1,e2⟩:=cJ (show d.seq.map _=some ds from h2);exact⟨k,d,es,rfl,As e1,e2.symm⟩
def wk_zip {xs:ax}{ds:ay}(h:c7 .zip xs=some ds):∃k l d e us ws,xs=[(k,d),(l,e)]/\d=.lst us/\e=.lst ws/\ds=(us.zip ws).map λp=>.tup [p.1,p.2]:=by
 obtain⟨⟨k,d⟩,⟨l,e⟩,rfl,h2⟩:=Ip.vX (f:=Ip.lM) h;obtain⟨us,e1,e2⟩:=du (show d.lstO.bind _=some ds from h2);obtain⟨ws,e3,e4⟩:=cJ e2;exact⟨k,l,d,e,us,ws,rfl,wg e1,wg e3,e4.symm⟩
def n0 {wk:Wk}{irs:aG}{σ:St}{H:Hp}{R:It->Hp->Prop}{Q:aw->Hp->Prop}(h:fX W G cl wk irs E σ H R)
  (k:∀(N:Addr->Prop) xs ds,c7 wk xs=some ds->NOk N H->(∀J H',Sub H H'->ItD W N H' J ds->(wk.rng=true->∀M,ItD W M H' J ds)->R J H')->∀vs H',Sub H H'->Dens W (hid N H') vs (xs.map (·.2))->Q vs H'):ce W G cl irs E σ H Q:=by
 obtain⟨N,a,hN,hS,q⟩:=h;refine⟨N,a,hN,hS,?_⟩;cases e1:evals G cl a irs with
 | bad=>rw[e1] at q; exact q
 | exc c fs=>rw[e1] at q; exact q
 | ok xs=>
  rw[e1] at q;simp only at q;cases e2:c7 wk xs with
  | none=>rw[e2] at q; exact q.elim
  | some ds=>
   rw[e2] at q;exact λvs H' r=>k N xs ds e2 hN q vs H' r.1 (r.dens hN)
def Cg {tg e:Expr}{ir:Ex}{p pos:Pos}(hg:Gl X "range")(hm:X.mg "range" = none)(h:PA X [e] (ce W G cl [ir] E))(hs:starEach [e] X.env=[(false,PySem.eval e X.env)]):PI X tg (.Call (.Name "range" p) [e] [] pos) (fX W G cl .rng1 [ir] E):=by
 refine (Ax hg hm h hs).mono λσ H R q=>n0 q λN xs ds e2 hN q vs H' hs dv=>?_;obtain⟨k,j,rfl,hj,rfl⟩:=wk_rng1 e2;obtain⟨v,rfl,h1⟩:=Dens.one dv;rw[h1.int_inv];have rr:∀M,ItD W M H' (kT 0 j.toNat) ((List.range j.toNat).map λ(n:Nat)=>.int n):=λM=>by
  have:=ItD.range (W:=W) (N:=M) (H1:=H') (lo:=0) (n:=j.toNat);simpa using this
 exact⟨j,rfl,hj.1,hj.2,q _ _ hs (rr N) λ_ M=>rr M⟩
def Dp {tg e e':Expr}{ir ir':Ex}{p pos:Pos}(hg:Gl X "range")(hm:X.mg "range" = none)(h:PA X [e,e'] (ce W G cl [ir,ir'] E))(hs:starEach [e,e'] X.env=[(false,PySem.eval e X.env),(false,PySem.eval e' X.env)])(hs2:starEach [e'] X.env=[(false,PySem.eval e' X.env)]):PI X tg (.Call (.Name "range" p) [e,e'] [] pos) (fX W G cl .rng2 [ir,ir'] E):=by
 refine (Gc hg hm h hs hs2).mono λσ H R q=>n0 q λN xs ds e2 hN q vs H' hs dv=>?_;obtain⟨k,l,i,j,rfl,hj,rfl⟩:=wk_rng2 e2;obtain⟨v,w,rfl,h1,h2⟩:=Dens.two dv;rw[h1.int_inv,h2.int_inv];exact⟨i,j,rfl,hj,q _ _ hs ItD.range λ_ _=>ItD.range⟩
def ItD.enum {N:Addr->Prop}{H1:Hp}{a:Addr}{vs:aw}{ds:ay}(hK:W.K=X.K)(h:Rd (hid N H1) a (.lst vs))(q:Dens W (hid N H1) vs ds):ItD W N H1 (pN X.K a) (ds.mapIdx λn d=>.tup [.int n,d]):=λM H hs hN i=>by
 have hq:SqL X.K H a vs:=.inl (Rd.sub (hs.trans bJ) h);refine⟨λd e=>?_,λhl=>⟨vs,hq,by rw[q.length]; simpa using hl⟩⟩;rw[Hi] at e;obtain⟨d',e0,rfl⟩:=cJ e;obtain⟨v,e1,e2⟩:=q.get e0;refine⟨⟨vs,v,hq,e1⟩,λx H' hZz=>?_⟩;obtain⟨y,p,hx,hp,hH,hy⟩:=hZz;have:=hy vs hq;rw[e1] at this;cases this;subst hx hH;exact⟨Sub.upd hp,.tup (SqT.of (bg.mpr ⟨λz=>hN p z hp,cM⟩)) (.cons .int (.cons (e2.mono (hs.trans (hG (Sub.upd hp)))) .nil))⟩
def ItD.enumT {N:Addr->Prop}{H1:Hp}{a:Addr}{vs:aw}{ds:ay}(hK:W.K=X.K)(h:SqT W.K (hid N H1) a vs)(q:Dens W (hid N H1) vs ds):ItD W N H1 (kl X.K a) (ds.mapIdx λn d=>.tup [.int n,d]):=λM H hs hN i=>by
 have hq:SqT X.K H a vs:=by rw[<-hK]; exact SqT.sub (hs.trans bJ) h
 refine⟨λd e=>?_,λhl=>⟨vs,hq,by rw[q.length]; simpa using hl⟩⟩;rw[Hi] at e;obtain⟨d',e0,rfl⟩:=cJ e;obtain⟨v,e1,e2⟩:=q.get e0;refine⟨⟨vs,v,hq,e1⟩,λx H' hZz=>?_⟩;obtain⟨y,p,hx,hp,hH,hy⟩:=hZz;have:=hy vs hq;rw[e1] at this;cases this;subst hx hH;exact⟨Sub.upd hp,.tup (SqT.of (bg.mpr ⟨λz=>hN p z hp,cM⟩)) (.cons .int (.cons (e2.mono (hs.trans (hG (Sub.upd hp)))) .nil))⟩
theorem ItD.zip {N:Addr->Prop}{H1:Hp}{a b:Addr}{vs ws:aw}{ds es:ay}(hK:W.K=X.K)(h:Rd (hid N H1) a (.lst vs))(q:Dens W (hid N H1) vs ds)(h':Rd (hid N H1) b (.lst ws))(q':Dens W (hid N H1) ws es) :
  ItD W N H1 (qJ X.K a b) ((ds.zip es).map λp=>.tup [p.1,p.2]):=λM H hs hN i=>by
 have hq:SqL X.K H a vs:=.inl (Rd.sub (hs.trans bJ) h);have hq':SqL X.K H b ws:=.inl (Rd.sub (hs.trans bJ) h');refine⟨λd e=>?_,λhl=>?_⟩
 .rw[GD] at e;obtain⟨⟨d1,d2⟩,e0,rfl⟩:=cJ e;obtain⟨e1,e2⟩:=List.getElem?_zip_eq_some.mp e0;obtain⟨v,f1,f2⟩:=q.get e1;obtain⟨w,g1,g2⟩:=q'.get e2;refine⟨⟨vs,ws,v,w,hq,hq',f1,g1⟩,λx H' hZz=>?_⟩;obtain⟨y,z,p,hx,hp,hH,hy,hz⟩:=hZz;have t1:=hy vs hq;have t2:=hz ws hq';rw[f1] at t1;rw[g1] at t2;cases t1;cases t2;subst hx hH;exact⟨Sub.upd hp,.tup (SqT.of (bg.mpr ⟨λz=>hN p z hp,cM⟩)) (.cons (f2.mono (hs.trans (hG (Sub.upd hp)))) (.cons (g2.mono (hs.trans (hG (Sub.upd hp)))) .nil))⟩
 .refine⟨vs,ws,hq,hq',?_⟩;rw[q.length,q'.length];simp only[Gx,List.length_zip] at hl;omega
def E2 {e:Expr}{es:av}{k1:Nat}{tp:Pos}{ir:Ex}{p pos:Pos}(hK:W.K=X.K)(hg:Gl X "enumerate")(hm:X.mg "enumerate" = none)(hv:bootBuiltins "enumerate" = some (.type "enumerate"))(h:PA X [e] (ce W G cl [ir] E))(hs:starEach [e] X.env=[(false,PySem.eval e X.env)]) :
  PI X (.Tuple es k1 tp) (.Call (.Name "enumerate" p) [e] [] pos) (fX W G cl .enum [ir] E):=by
 refine (zJ hg hm hv h hs).mono λσ H R q=>n0 q λN xs ds e2 hN q vs H' hs dv=>?_;obtain⟨k,d,us,rfl,hd,rfl⟩:=wk_enum e2;obtain⟨v,rfl,h0⟩:=Dens.one dv;rcases hd with rfl | rfl
 .have h0':Den W (hid N H') v (.lst us):=h0;cases h0' with | @lst a ws _ h1 h2=>?_
  exact .inl ⟨a,ws,rfl,.inl (Rd.sub bJ h1),q _ _ hs (ItD.enum hK h1 h2) λz=>nomatch z⟩
 .have h0':Den W (hid N H') v (.tup us):=h0;cases h0' with | @tup a ws _ h1 h2=>?_
  exact .inr ⟨a,ws,rfl,by rw[<-hK]; exact SqT.sub bJ h1,q _ _ hs (ItD.enumT hK h1 h2) λz=>nomatch z⟩
def Ct {e e':Expr}{es:av}{k1:Nat}{tp:Pos}{ir ir':Ex}{p pos:Pos}(hK:W.K=X.K)(hg:Gl X "zip")(hm:X.mg "zip" = none)(hv:bootBuiltins "zip" = some (.type "zip"))(h:PA X [e,e'] (ce W G cl [ir,ir'] E))
  (hs:starEach [e,e'] X.env=[(false,PySem.eval e X.env),(false,PySem.eval e' X.env)])(hs2:starEach [e'] X.env=[(false,PySem.eval e' X.env)]) :
  PI X (.Tuple es k1 tp) (.Call (.Name "zip" p) [e,e'] [] pos) (fX W G cl .zip [ir,ir'] E):=by
 refine (wQ hg hm hv h hs hs2).mono λσ H R q=>n0 q λN xs ds e2 hN q vs H' hs dv=>?_;obtain⟨k,l,d,e,us,ws,rfl,rfl,rfl,rfl⟩:=wk_zip e2;obtain⟨v,w,rfl,h0,g0⟩:=Dens.two dv;have h0':Den W (hid N H') v (.lst us):=h0;have g0':Den W (hid N H') w (.lst ws):=g0;cases h0' with | @lst a vs' _ h1 h2=>?_
 cases g0' with | @lst b ws' _ g1 g2=>?_
 exact⟨a,b,vs',ws',rfl,.inl (Rd.sub bJ h1),.inl (Rd.sub bJ g1),q _ _ hs (ItD.zip hK h1 h2 g1 g2) λz=>nomatch z⟩
noncomputable def jl:am->gR
 | []=>mY
 | i::is=>jm (eZ i) (jl is)
noncomputable def gT (K:bq):Tg->TG
 | .one i=>eZ i
 | .many is=>λv σ H Q=>mW K is.length (jl is) v σ H Q\/lI K is.length (jl is) v σ H Q
theorem RelS.set {S:Hp}{a:Sl}{σ:St}{i:Nat}{v:V}{d:D}(h:RelS W S a σ)(hi:i < σ.length)(hd:Den W S v d):RelS W S (a.set i (some d)) (σ.set i (some v)):=λj e hj=>by
 by_cases z:i=j
 .subst z;by_cases y:i<a.length
  .rw[GM y] at hj;cases hj;exact⟨v,GM hi,hd⟩
  .rw[G0 (by rw[G3]; omega)] at hj; cases hj
 .rw[GI z] at hj;rw[GI z];exact h j e hj
def RelS.skip {S:Hp}{a:Sl}{σ:St}{i:Nat}{v:V}(h:RelS W S a σ)(hi:∀d,a[i]?≠some (some d)):RelS W S a (σ.set i (some v)):=λj e hj=>by
 by_cases z:i=j
 .subst z; exact absurd hj (hi e)
 .rw[GI z]; exact h j e hj
theorem tj {S:Hp}{a0:Sl}{H:Hp}:∀{is:am} {vs:aw} {ds:ay} {a:Sl} {σ:St} {Q:St->Hp->Prop},Dens W S vs ds->ds.length=is.length->(∀i∈is,i < σ.length)->(∀i∈is,∀d,a0[i]?≠some (some d))->RelS W S a σ->RelS W S a0 σ ->
  (∀σ',RelS W S (Ip.bD id is ds a) σ'->RelS W S a0 σ'->σ'.length=σ.length->Q σ' H)->jl is vs σ H Q
 | [],_,_,a,σ,Q,.nil,_,_,_,h,h0,k=>⟨rfl,k σ h h0 rfl⟩
 | [],_,_,_,_,_,.cons _ _,hl,_,_,_,_,_=>by simp at hl
 | i::is,_,_,_,_,_,.nil,hl,_,_,_,_,_=>by simp at hl
 | i::is,_,_,a,σ,Q,.cons hd q,hl,hi,ha,h,h0,k=>by
  refine⟨_,_,rfl,?_⟩;show jl is _ (σ.set i (some _)) H Q;refine tj q (by simpa using hl) (λj hj=>by rw[G3]; exact hi j (bN _ hj)) (λj hj=>ha j (bN _ hj)) (h.set (hi i bQ) hd) (h0.skip (ha i bQ)) λσ' h1 h2 h3=>k σ' h1 h2 (by rw[h3,G3])
def Cj {N:Addr->Prop}{H:Hp}{a0 a1:Sl}{σ:St}{tg:Tg}{v:V}{d:D}{Q:St->Hp->Prop}(hK:W.K=X.K)(hd:Den W (hid N H) v d)(hi:∀i∈cQ tg,i < σ.length)(ha:∀i∈cQ tg,∀d,a0[i]?≠some (some d))(h0:RelS W (hid N H) a0 σ)
  (hb:dC id a0 tg d=some a1)(k:∀σ',RelS W (hid N H) a1 σ'->RelS W (hid N H) a0 σ'->σ'.length=σ.length->Q σ' H):gT X.K tg v σ H Q:=by
 cases tg with
 | one i=>
  simp only[dC] at hb;cases hb;exact k _ (h0.set (hi i (by simp[cQ])) hd) (h0.skip (ha i (by simp[cQ]))) (by rw[G3])
 | many is=>
  cases hd <;> first | exact (bY hb).elim | simp only[dC] at hb
  rename_i a vs ds h1 h2;by_cases hl:ds.length=is.length
  .rw[if_pos hl] at hb;cases hb;exact .inl ⟨a,vs,rfl,hK ▸ SqT.sub bJ h1,h2.length.trans hl,tj h2 hl hi ha h0 h0 k⟩
  .rw[if_neg hl] at hb; cases hb
theorem uI {f:D->Ip.R aA}:∀{ds:ay} {zs:ax},bc f ds=.ok zs->∀i d,ds[i]? = some d->∃o z1,f d=.ok o/\bc f (ds.take i)=.ok z1/\bc f (ds.take (i+1))=.ok (z1++o.toList)
 | [],_,_,i,d,e=>by simp at e
 | x::xs,zs,h,i,d,e=>by
  rw[bc] at h;obtain⟨o,ho,h⟩:=hX h;obtain⟨ys,hy,h⟩:=hX h;cases i with
  | zero=>
   simp at e;subst e;refine⟨o,[],ho,rfl,?_⟩;rw[List.take_succ_cons,List.take_zero,bc,ho,Ip.R.bind,bc,Ip.R.bind];cases o <;> rfl
  | succ i=>
   obtain⟨o2,z1,h1,h2,h3⟩:=uI hy i d (by simpa using e);refine⟨o2,_,h1,by rw[List.take_succ_cons,bc,ho,Ip.R.bind,h2,Ip.R.bind],?_⟩;rw[List.take_succ_cons,bc,ho,Ip.R.bind,h3,Ip.R.bind];cases o <;> rfl
def yB {S:Hp}{a:Sl}{σ:St}(caps:List aE)(h:RelS W S a σ):RelS W S (caps.map (cD a)) (caps.map (g8 σ)):=λi d e=>by
 rw[GD] at e;obtain⟨o,e1,e2⟩:=cJ e;cases o with
 | none=>cases e2
 | some j=>
  have e3:a[j]? = some (some d):=by
   have:(a[j]?).join=some d:=e2;cases q:a[j]? with
   | none=>rw[q] at this; cases this
   | some r=>rw[q] at this; rw[show r=some d from this]
  obtain⟨v,h1,h2⟩:=h j d e3;refine⟨v,?_,h2⟩;rw[GD,e1];show some ((σ[j]?).join)=some (some v);rw[h1];rfl
theorem OwnV.snoc {S H:Hp}{v:V}{x:KD}{f:aq}(h:Own W S H x.1 v x.2 f):∀{vs xs fp},OwnV W S H vs xs fp->OwnV W S H (vs++[v]) (xs++[x]) (fp++f)
 | _,_,_,.nil=>by simpa using OwnV.cons h .nil
 | _,_,_,.cons h0 q=>by
  rw[List.cons_append,List.cons_append,HN];exact .cons h0 (OwnV.snoc h q)
theorem u8 {f:D->Ip.R aA}:∀{ds:ay} {zs:ax},bc f ds=.ok zs->zs.length<=ds.length
 | [],_,h=>by cases h; exact bC _
 | x::xs,zs,h=>by
  rw[bc] at h;obtain⟨o,ho,h⟩:=hX h;obtain⟨ys,hy,h⟩:=hX h;cases h;have:=u8 hy;cases o <;> simp <;> omega
noncomputable def pZ (W:Wd)(G:Pg)(cl:Nat->ax->Ip.Run):aG->TT
 | []=>gD
 | [t]=>b9 W G cl t λ_ _ _ _=>False
 | _=>λ_ _ _=>False
def eh (N:Addr->Prop)(l:Addr)(fp:aq):Addr->Prop:=λb=>(N b\/b=l)\/b∈fp
abbrev rd (W:Wd)(F:D->Ip.R aA)(A:Ip.Sl)(n:Nat)(ds:ay)(N:Addr->Prop)(l:Addr)(H1:Hp)(i:Nat)(ys:aw)(σ:St)(H:Hp):Prop:=∃(z1:ax) (fp:aq),bc F (ds.take i)=.ok z1/\fp.Nodup/\l∉fp/\(∀b∈fp,H1 b=none)/\OwnV W (hid (eh N l fp) H) H ys z1 fp/\H l=some (.lst ys)/\Sub H1 H/\RelS W (hid (eh N l fp) H) A σ/\σ.length=n
def wA {caps:List aE}{tg:Tg}{wk:Wk}{it ts:aG}{x:Ex}{σ:St}{H:Hp}{Q:VK}(hK:W.K=X.K)(hidx:∀i∈cQ tg,caps[i]? = some none)(h:bm W G cl (.comp caps tg wk it ts x) E σ H Q) :
  fU (fX W G cl wk it E) caps (gT X.K tg) (pZ W G cl ts) (bm W G cl x λ_ _ _ _=>False) σ H Q:=by
 obtain⟨N,a,hN,hS,h⟩:=h;rw[kF] at h;unfold fU;refine⟨N,a,hN,hS,?_⟩;cases e1:evals G cl a it with
 | bad=>rw[e1] at h; exact h
 | exc c fs=>rw[e1] at h; exact h
 | ok vs=>
  rw[e1] at h;simp only[Ip.R.bind] at h;cases e2:c7 wk vs with
  | none=>rw[e2] at h; exact h.elim
  | some ds=>
   rw[e2] at h;simp only at h;by_cases hl:ds.length<=SL
   rotate_left
   .rw[if_neg hl] at h; exact h.elim
   rw[if_pos hl] at h;cases e3:bc (compF G cl (caps.map (cD a)) tg ts x) ds with
   | bad=>rw[e3] at h; exact h.elim
   | exc c fs=>rw[e3] at h; exact h.elim
   | ok zs=>
    rw[e3] at h;simp only[Ip.R.nox] at h;simp only[e2];intro J H1 hs1 hJ _ l hl1;have hN1:=hN.mono hs1;have a0n:∀i∈cQ tg,∀d,(caps.map (cD a))[i]?≠some (some d):=λi hi d z=>by
     rw[GD,hidx i hi] at z; cases z
    have ilt:∀i∈cQ tg,i<caps.length:=λi hi=>(dO (hidx i hi)).1;refine⟨λi m ys σ Hc=>m=ds.length - i/\i<=ds.length/\rd W (compF G cl (caps.map (cD a)) tg ts x) (caps.map (cD a)) caps.length ds N l H1 i ys σ Hc,
     ⟨ds.length,by simp,GX _,[],[],rfl,.nil,by simp,λb z=>by simp at z,.nil,cM,Sub.upd hl1,?_,by simp⟩,?_⟩
    .refine (yB caps (hS.grow hs1)).mono (gi (Sub.upd hl1) λb z=>?_);rcases z with (z | z) | z
     .exact .inl z
     .rw[z]; exact .inr hl1
     .simp at z
    rintro i m ys σ1 Hc ⟨rfl,hi,z1,fp,ez,nd,lf,hf,ow,hcl,hs2,hS2,hlen⟩;have hNc:NOk (eh N l fp) Hc:=λb z=>by
     rcases z with (z | z) | z
     .exact (hN1.mono hs2) b z
     .rw[z,hcl]; simp
     .exact ow.dom b z
    have hsub:Sub (hid N H1) (hid (eh N l fp) Hc):=gi hs2 λb z=>by
     rcases z with (z | z) | z
     .exact .inl z
     .rw[z]; exact .inr hl1
     .exact .inr (hf b z)
    obtain⟨J1,J2⟩:=hJ (eh N l fp) Hc hsub hNc i;by_cases hlt:i<ds.length
    .obtain⟨o,z1',f1,f2,f3⟩:=uI e3 i ds[i] (by simp[hlt]);rw[ez] at f2;cases f2;obtain⟨Jg,Jy⟩:=J1 ds[i] (by simp[hlt]);refine .inr ⟨Jg,λys σ' H'=>rd W (compF G cl (caps.map (cD a)) tg ts x) (caps.map (cD a)) caps.length ds N l H1 (i+1) ys σ' H',
      λys' σ' H' p'=>⟨ds.length - (i+1),by omega,rfl,hlt,p'⟩,λv H' hy=>?_⟩
     obtain⟨s3,dx⟩:=Jy v H' hy;unfold compF at f1;cases eb:dC id (caps.map (cD a)) tg ds[i] with
     | none=>rw[eb] at f1; cases f1
     | some a1=>
      rw[eb] at f1;simp only at f1;have hN3:=hNc.mono s3;refine Cj hK dx (λj hj=>by rw[hlen]; exact ilt j hj) a0n (hS2.grow s3) eb λσ2 r1 r0 hl2=>?_;have hlen2:σ2.length=caps.length:=hl2.trans hlen;have takeIt:∀y H4,Sub H' H4->Ip.eval G cl a1 x=.ok y->o=some y->bm W G cl x (λ_ _ _ _=>False) σ2 H4 λv H5=>∃ys',H5 l=some (.lst ys')/\ys'.length<sizeLine /\
        rd W (compF G cl (caps.map (cD a)) tg ts x) (caps.map (cD a)) caps.length ds N l H1 (i+1) (ys'++[v]) σ2 (upd H5 l (.lst (ys'++[v]))):=by
       intro y H4 s4 ey ho;refine⟨eh N l fp,a1,hN3.mono s4,r1.grow s4,?_⟩;rw[ey];rintro v H5 ⟨s5,fq,nd5,hf5,ow5⟩;have sc5:Sub Hc H5:=(s3.trans s4).trans s5;have l4:H4 l≠none:=by rw[(s3.trans s4) l _ hcl]; simp
       have lq:l∉fq:=λz=>l4 (hf5 l z);have up:∀b,b≠l->(upd H5 l (.lst (ys++[v]))) b=H5 b:=λb z=>ca z;have big:Sub (hid (eh N l fp) Hc) (hid (eh N l (fp++fq)) (upd H5 l (.lst (ys++[v])))):=λb u e=>by
        obtain⟨g1,g2⟩:=bg.mp e;have bl:b≠l:=λz=>g1 (.inl (.inr z));refine bg.mpr ⟨λz=>?_,by rw[up b bl]; exact sc5 b u g2⟩;rcases z with z | z
        .exact g1 (.inl z)
        .rcases dm z with z | z
         .exact g1 (.inr z)
         .have:=hf5 b z;rw[(s3.trans s4) b u g2] at this;cases this
       refine⟨ys,sc5 l _ hcl,?_,z1++[y],fp++fq,by rw[f3,ho]; rfl,?_,?_,?_,?_,cM,?_,?_,hlen2⟩
       .rw[ow.length];have:=u8 ez;rw[G4] at this;have h2:SL<sizeLine:=by decide
        omega
       .refine GK.mpr ⟨nd,nd5,λb hb c hc z=>?_⟩;subst z;have h1:=ow.dom b hb;cases hq:Hc b with
        | none=>exact h1 hq
        | some u=>
         have:=hf5 b hc;rw[(s3.trans s4) b u hq] at this;cases this
       .intro z;rcases dm z with z | z
        .exact lf z
        .exact lq z
       .intro b z;rcases dm z with z | z
        .exact hf b z
        .exact (hs2.trans (s3.trans s4)).none (hf5 b z)
       .refine OwnV.snoc (ow5.mono (λb u e=>?_) λb hb u e=>?_) (ow.mono big λb hb u e=>?_)
        .obtain⟨g1,g2⟩:=bg.mp e;have bl:b≠l:=λz=>g1 (.inl (.inl (.inr z)));refine bg.mpr ⟨λz=>?_,by rw[up b bl]; exact g2⟩;rcases z with z | z
         .exact g1 (.inl (.inl z))
         .rcases dm z with z | z
          .exact g1 (.inl (.inr z))
          .exact g1 (.inr z)
        .rw[up b λz=>lq (z ▸ hb)]; exact e
        .rw[up b λz=>lf (z ▸ hb)]; exact sc5 b u e
       .intro b u e;rw[up b λz=>by rw[z,hl1] at e; cases e];exact (hs2.trans sc5) b u e
       .refine RelS.mono (λb u e=>?_) r0;obtain⟨g1,g2⟩:=bg.mp e;have bl:b≠l:=λz=>g1 (.inl (.inr z));refine bg.mpr ⟨λz=>?_,by rw[up b bl]; exact (s4.trans s5) b u g2⟩;rcases z with z | z
        .exact g1 (.inl z)
        .rcases dm z with z | z
         .exact g1 (.inr z)
         .have:=hf5 b z;rw[s4 b u g2] at this;cases this
      match ts,f1 with
      | [],f1=>
       simp only[de,Ip.R.bind] at f1;cases ey:Ip.eval G cl a1 x with
       | bad=>rw[ey] at f1; cases f1
       | exc c fs=>rw[ey] at f1; cases f1
       | ok y=>
        rw[ey] at f1;cases f1;have t:=takeIt y H' (Sub.refl _) ey rfl;simp only[pZ,gD,if_true];exact t
      | [t],f1=>
       simp only[de,bP,Ip.R.bind] at f1;refine⟨eh N l fp,a1,hN3,r1,?_⟩;cases et:Ip.eval G cl a1 t with
       | bad=>rw[et] at f1; cases f1
       | exc c fs=>rw[et] at f1; cases f1
       | ok tv=>
        obtain⟨kt,tv⟩:=tv;rw[et] at f1;simp only at f1;cases tv <;> simp only[Ip.gp] at f1 <;> try (cases f1; done)
        rename_i b;intro H4 s4;cases b with
        | true=>
         rw[if_pos rfl];simp only[if_true] at f1;cases ey:Ip.eval G cl a1 x with
         | bad=>rw[ey] at f1; cases f1
         | exc c fs=>rw[ey] at f1; cases f1
         | ok y=>
          rw[ey] at f1;cases f1;exact takeIt y H4 s4 ey rfl
        | false=>
         rw[if_neg (by decide)];simp only[GN,if_false] at f1;cases f1;have sc4:Sub Hc H4:=s3.trans s4;exact⟨z1,fp,by rw[f3]; simp,nd,lf,hf,ow.mono (hG sc4) λb _ u e=>sc4 b u e,sc4 l _ hcl,hs2.trans sc4,r0.grow s4,hlen2⟩
      | _::_::_,f1=>
       exfalso;obtain⟨us,h1,h2⟩:=hX f1;simp only[bP] at h1;obtain⟨u1,_,h1⟩:=hX h1;obtain⟨u2,h3,h1⟩:=hX h1;obtain⟨u4,_,h3⟩:=hX h3;obtain⟨u5,_,h3⟩:=hX h3;cases h1;cases h3;simp only at h2;cases h2
    .have e:i=ds.length:=by omega
     subst e;rw[HC (Js _),e3] at ez;cases ez;obtain⟨fq,nd2,sub,o2⟩:=OwnV.join (N:=λb=>N b\/b=l) nd (λb hb z=>z.elim (λy=>hN1 b y (hf b hb)) λy=>lf (y ▸ hb)) ow;refine .inl ⟨J2 (bC _),h _ _ ⟨hs1.trans hs2,l::fq,GP.mpr ⟨λz=>lf (sub l z),nd2⟩,λb z=>?_,l,ys,fq,rfl,hcl,?_,rfl⟩⟩
     .rcases cg z with y | y
      .rw[y]; exact hs1.none hl1
      .exact hs1.none (hf b (sub b y))
     .refine o2.imp λv d f hf2 ow=>ow.mono (λb u e=>?_) λb _ u e=>e;obtain⟨g1,g2⟩:=bg.mp e;refine bg.mpr ⟨λz=>g1 ?_,g2⟩;rcases z with z | z
      .exact .inl (.inl z)
      .rcases cg z with y | y
       .exact .inl (.inr y)
       .exact .inr y
end
def CY (W:Wd)(G:Pg)(n f:Nat):Sp:=λvs H Q E=>∃(N:Addr->Prop) (xs:ax),NOk N H/\Dens W (hid N H) vs (xs.map (·.2))/\match Ip.run G n f xs with
 | .ret k d []=>∀v H',Res W H N H' (k,d) v->Q v H'
 | .exc c fs []=>∀e H',ExcR W H N H' c fs e->E (.ref e) none H'
 | _=>False
def DP (W:Wd)(G:Pg)(n f:Nat):Sp:=λvs H Q E=>∃(N:Addr->Prop) (x0:KD) (xs:ax) (v0:V) (ws:aw) (f0:aq),vs=v0::ws/\NOk N H/\f0.Nodup/\(∀b∈f0,¬N b) /\
 Own W (hid (λb=>N b\/b∈f0) H) H x0.1 v0 x0.2 f0/\Dens W (hid (λb=>N b\/b∈f0) H) ws (xs.map (·.2))/\match Ip.run G n f (x0::xs) with
 | .ret k d [y]=>∀v H' (fp:aq),Sub (hid (λb=>b∈f0) H) H'->fp.Nodup->(∀b∈fp,hid (λb=>b∈f0) H b=none)->Own W (hid (λb=>N b\/b∈fp) H') H' y.1 v0 y.2 fp->(d=.non->v=.non)->Q v H'
 | .exc c fs _=>∀e H',ExcR W (hid (λb=>b∈f0) H) N H' c fs e->E (.ref e) none H'
 | _=>False
def gn (W:Wd)(G:Pg)(n f:Nat)(F:Fn):Sp:=λvs H Q E=>(F.io=[]/\CY W G n f vs H Q E)\/(F.io=[0]/\DP W G n f vs H Q E)
def vq {G:Pg}{n f:Nat}{xs:ax}{F:Fn}(hF:G.fn f=some F)(h:Ip.run G n f xs≠.bad):xs.length=F.np:=by
 cases n with
 | zero=>exact absurd rfl h
 | succ n=>
  rw[Ip.run,hF] at h;by_cases e:xs.length=F.np
  .exact e
  .simp only[if_neg e] at h; exact absurd rfl h
def sE {W:Wd}{G:Pg}{n f:Nat}{F:Fn}(hF:G.fn f=some F){vs:aw}{H:Hp}{Q:VK}{E:XK}(h:gn W G n f F vs H Q E):vs.length=F.np:=by
 rcases h with ⟨_,N,xs,_,d,q⟩ | ⟨_,N,x0,xs,v0,ws,f0,rfl,_,_,_,_,d,q⟩
 .have:=vq (xs:=xs) hF (λz=>by rw[z] at q; exact q);rw[d.length,Gx]; exact this
 .have:=vq (xs:=x0::xs) hF (λz=>by rw[z] at q; exact q);rw[List.length_cons,d.length,Gx]; simpa using this
section
variable {X:Cx}{W:Wd}{G:Pg}{n:Nat}{E:St->XK}{σ:St}{H:Hp}{Q:VK}
def kK {irs:aG}{cl:Nat->ax->Ip.Run}{Q:aw->Hp->Prop}{N:Addr->Prop}{a:Sl}(hN:NOk N H)(hS:RelS W (hid N H) a σ)
  (ok:∀xs,evals G cl a irs=.ok xs->∀vs H1,Sub H H1->Dens W (hid N H1) vs (xs.map (·.2))->Q vs H1)
  (ex:∀c fs,evals G cl a irs=.exc c fs->∀e H',ExcR W H N H' c fs e->E σ (.ref e) none H')(nb:evals G cl a irs≠.bad):ce W G cl irs E σ H Q:=by
 refine⟨N,a,hN,hS,?_⟩;cases q:evals G cl a irs with
 | bad=>exact absurd q nb
 | exc c fs=>exact ex c fs q
 | ok xs=>exact λvs H1 r=>ok xs q vs H1 r.1 (r.dens hN)
noncomputable def cZ (F:Fn)(m:Nat):ay:=F.dfl.drop (F.dfl.length - (F.np - m))
theorem DZ (F:Fn)(xs:ax):Ip.fill F xs=xs++(cZ F xs.length).map λd=>(99,d):=rfl
def qE (F:Fn)(xs:ax):(Ip.fill F xs).map (·.2)=xs.map (·.2)++cZ F xs.length:=by
 rw[DZ,HA,Je];congr 1
 exact List.map_id _
def oA {cl:Nat->ax->Ip.Run}{a:Sl}{irs:aG}{xs:ax}(h:evals G cl a irs=.ok xs):xs.length=irs.length:=rh.evals_length h
def v7 {f k:Nat}{F:Fn}(h:dq G f k=some F):G.fn f=some F/\F.io=[]/\k<=F.np/\F.np - k<=F.dfl.length:=by
 unfold dq at h;cases q:G.fn f with
 | none=>rw[q] at h; cases h
 | some F'=>
  rw[q] at h;simp only at h;by_cases c:F'.io=[]/\k<=F'.np/\F'.np - k<=F'.dfl.length
  .rw[if_pos c] at h; cases h; exact⟨rfl,c⟩
  .rw[if_neg c] at h; cases h
def ub {m k f:Nat}{d:D}{F:Fn}(h:ck G m k d=some (f,F)):∃c fs Cl',d=.ins c fs/\G.cl c=some Cl'/\Cl'.meths.lookup m=some f/\G.fn f=some F/\F.io=[]/\fs.lookup m=none/\k+1<=F.np/\F.np - (k+1)<=F.dfl.length:=by
 cases d <;> first | exact (bY h).elim | simp only[ck] at h
 rename_i c fs;cases q1:G.cl c with
 | none=>rw[q1] at h; cases h
 | some Cl'=>
  rw[q1] at h;simp only at h;cases q2:Cl'.meths.lookup m with
  | none=>rw[q2] at h; cases h
  | some f'=>
   rw[q2] at h;simp only at h;cases q3:G.fn f' with
   | none=>rw[q3] at h; cases h
   | some F'=>
    rw[q3] at h;simp only at h;by_cases c1:F'.io=[]/\fs.lookup m=none/\k+1<=F'.np/\F'.np - (k+1)<=F'.dfl.length
    .rw[if_pos c1] at h;cases h;exact⟨c,fs,Cl',rfl,q1,q2,q3,c1⟩
    .rw[if_neg c1] at h; cases h
def vE {f:Nat}{F:Fn}{es:aG}{dvs:aw}(hF:dq G f es.length=some F)(hd:∀S,Dens W S dvs (cZ F es.length))(h:bm W G (Ip.run G n) (.call f es) E σ H Q):fP (gn W G n f F) dvs E (ce W G (Ip.run G n) es E) σ H Q:=by
 obtain⟨N,a,hN,hS,h⟩:=h;obtain⟨_,hio,_⟩:=v7 hF;rw[my,hF] at h;simp only[Ip.R.bind] at h;unfold fP;refine kK hN hS (λxs ex vs H1 hs dv=>?_) (λc fs ee=>?_) λee=>?_
 .rw[ex] at h;simp only at h;refine .inl ⟨hio,N,Ip.fill F xs,hN.mono hs,?_,?_⟩
  .rw[qE,oA ex];exact dv.append (hd _)
  .cases q:Ip.run G n f (Ip.fill F xs) with
   | bad=>rw[q] at h; exact h
   | ret k d outs=>
    rw[q] at h;cases outs with
    | nil=>exact λv H' r=>h v H' (r.trans hs)
    | cons _ _=>exact h
   | exc c fs outs=>
    rw[q] at h;cases outs with
    | nil=>exact λe H' r=>h e H' (r.of_sub hs)
    | cons _ _=>exact h
 .rw[ee] at h; exact h
 .rw[ee] at h; exact h
theorem DB {m f c:Nat}{C:Addr}{nm:Str}{F:Fn}{io:Ex}{es:aG}{dvs:aw}(nd:W.att.Nodup)(hnm:W.att[m]? = some nm)(hC:W.iA c=some C)(hd:∀S,Dens W S dvs (cZ F (es.length+1)))
  {N:Addr->Prop}{a:Sl}{k:Nat}{fs0:List aJ}(hN:NOk N H)(hS:RelS W (hid N H) a σ)(ho:Ip.eval G (Ip.run G n) a io=.ok (k,.ins c fs0))(hm:ck G m es.length (.ins c fs0)=some (f,F))
  (h:match Ip.eval G (Ip.run G n) a (.meth m io es) with
   | .ok x=>∀v H',Res W H N H' x v->Q v H'
   | .exc c fs=>∀e H',ExcR W H N H' c fs e->E σ (.ref e) none H'
   | .bad=>False):eY C nm (gn W G n f F) dvs E (bm W G (Ip.run G n) io E) (ce W G (Ip.run G n) es E) σ H Q:=by
 obtain⟨_,_,_,e0,_,_,_,hio,hfl,_⟩:=ub hm;cases e0;rw[jL,ho] at h;simp only[Ip.R.bind,hm,Ip.R.of] at h;unfold eY;refine⟨N,a,hN,hS,?_⟩;rw[ho];intro v H1 r;have dv:=r.den hN;have hs:=r.1;cases dv with | @ins b C' dx _ fs ds hb hc' hf=>?_
 rw[hC] at hc';cases hc';have hb1:=bg.mp hb;refine⟨b,dx,fs,rfl,hb1.2,(hf.lookup nd hnm).2 hfl,?_⟩;refine kK (hN.mono hs) (hS.grow hs) (λxs ex vs H2 hs2 dv2=>?_) (λc fs ee e H' r=>?_) λee=>?_
 .rw[ex] at h;simp only at h;refine .inl ⟨hio,N,Ip.fill F ((k,.ins c fs0)::xs),hN.mono (hs.trans hs2),?_,?_⟩
  .rw[qE,List.length_cons,oA ex];exact (Dens.cons ((Den.ins hb hC hf).mono (hG hs2)) dv2).append (hd _)
  .cases q2:Ip.run G n f (Ip.fill F ((k,.ins c fs0)::xs)) with
   | bad=>rw[q2] at h; exact h
   | ret k d outs=>
    rw[q2] at h;cases outs with
    | nil=>exact λv H' r=>h v H' (r.trans (hs.trans hs2))
    | cons _ _=>exact h
   | exc c fs outs=>
    rw[q2] at h;cases outs with
    | nil=>exact λe H' r=>h e H' (r.of_sub (hs.trans hs2))
    | cons _ _=>exact h
 .rw[ee] at h;exact h e H' (r.of_sub hs)
 .rw[ee] at h; exact h
end
structure InsC (K:bq)(C:Addr):Prop where
 cls:Cls K C
 ha:PySem.W.findIn K (.ref C) "__class__" = some (some (.builtin "object.__class__"))
 hn:PySem.W.specialIn K (.builtin "object.__class__") "__get__" = some (some (.builtin "getset_descriptor.__get__"))
 htk:PySem.W.takesIn K (.builtin "object.__class__")=some true
 hm:PySem.W.mroIn K C (.type "object")=some true
structure CF (W:Wd)(fl:am):Prop where
 nd:W.att.Nodup
 ins:∀c C,W.iA c=some C->InsC W.K C/\∀f n,f∈fl->W.att[f]? = some n->NoAttr W.K C n
 exc:∀c,W.xA c=none
section
variable {X:Cx}{W:Wd}{G:Pg}{cl:Nat->ax->Ip.Run}{E:St->XK}{fl:am}
def F6 {o:Expr}{io:Ex}{k:Nat}{n:Str}{pos:Pos}(hK:W.K=X.K)(cf:CF W fl)(hk:k∈fl)(hn:W.att[k]? = some n)(ho:PE X o (bm W G cl io E))(hb:attributeBase o n X.env (PySem.eval o X.env)=PySem.eval o X.env):PE X (.Attribute o n pos) (bm W G cl (.op (.fld k) [io]) E):=by
 refine (Ge ho hb).mono λσ H Q hZz=>?_;obtain⟨N,a,hN,hS,q⟩:=hZz;rw[cR,bP,de] at q;cases e1:Ip.eval G cl a io with
 | bad=>rw[e1] at q; exact q.elim
 | exc c fs=>
  rw[e1] at q;refine⟨N,a,hN,hS,?_⟩;rw[e1]; exact q
 | ok x=>
  obtain⟨kx,d⟩:=x;rw[e1] at q;simp only[Ip.R.bind,Ip.DA,cj] at q;cases d <;> simp only[Ip.hY] at q <;> try (exact q.elim)
  .rename_i c fs;cases e2:fs.lookup k with
   | none=>rw[e2] at q; exact q.elim
   | some d=>
    rw[e2] at q;refine⟨N,a,hN,hS,?_⟩;rw[e1];intro v H1 r;have dv:=r.den hN;cases dv with | @ins b C dx _ vs ds hb hc hf=>?_
    obtain⟨w,l1,dw⟩:=(hf.lookup cf.nd hn).1 d e2;obtain⟨ic,na⟩:=cf.ins c C hc;exact⟨b,C,dx,vs,w,rfl,(bg.mp hb).2,hK ▸ ic.cls,hK ▸ na k n hk hn,l1,q _ _ (Res.of_den r.1 dw)⟩
  .rename_i c fs;cases e2:fs.lookup k with
   | none=>rw[e2] at q; exact q.elim
   | some d=>
    rw[e2] at q;refine⟨N,a,hN,hS,?_⟩;rw[e1];intro v H1 r;have dv:=r.den hN;cases dv with | exc hb hc hf=>rw[cf.exc] at hc; cases hc
noncomputable def kN (W:Wd):D->aB
 | .non=>some (.type "NoneType")
 | .bl _=>some (.type "bool")
 | .int _=>some (.type "int")
 | .str _=>some (.type "str")
 | .lst _=>some (.type "list")
 | .tup _=>some (.type "tuple")
 | .ins c _=>(W.iA c).map .ref
 | .exc c _=>(W.xA c).map .ref
def Bv {pins:ah}{σ:St}{H:Hp}{s:Shared}{A:Around}{E:Value->Shared->Prop}{Q:Value->Shared->Prop}{c:Value}{b:Bool}{x:V}{u t:Value}{d:D}(hK:W.K=X.K)(cf:CF W fl)(I:Inv X pins σ H s)(rx:RelV x u)(hd:Den W H x d)(ht:kN W d=some t)
  (e:PySem.W.kitOne X.K t c=some b)(h:∀tk,Q (.bool b) { s with toks:=tk }):wpAny (model X.prog X.w) A (call (.builtin "isinstance") [u,c]) Q E s:=by
 cases hd with
 | non=>cases ht; exact jy I rx .non e h
 | bl=>cases ht; exact jy I rx (.bl _) e h
 | int=>cases ht; exact jy I rx (.int _) e h
 | str=>cases ht; exact jy I rx (.str _) e h
 | lst h1 h2=>
  cases ht;rcases h1 with h1 | ⟨o,h1⟩
  .exact jy I rx (.lst h1) e h
  .exact jy I rx (.frz h1) e h
 | @tup a vs ds h1 h2=>
  cases ht;cases (show u=Value.ref a from rx);obtain⟨its,_,⟨o,g1,g2,_⟩,_⟩:=I.tuple (hK ▸ h1);exact Hb PySem.W.kitx_tuple I.kIn ⟨o,g1,g2⟩ e (λz=>nomatch z) h
 | ins h1 hc _=>
  rw[kN,hc] at ht;cases ht;obtain⟨ic,_⟩:=cf.ins _ _ hc;exact jy I rx (.ins h1 (hK ▸ ic.cls) (hK ▸ ic.ha) (hK ▸ ic.hn) (hK ▸ ic.htk) (hK ▸ ic.hm)) e h
 | exc h1 hc _=>rw[cf.exc] at hc; cases hc
def cn (W:Wd)(G:Pg)(t:Ip.Ty)(cv:Value):Prop:=∀d tv,kN W d=some tv->PySem.W.kitOne W.K tv cv=some (bj G d t)
def Den.ty {S:Hp}{v:V}{d:D}(h:Den W S v d):∃t,kN W d=some t:=by
 cases h with
 | ins _ hc _=>exact⟨_,by rw[kN,hc]; rfl⟩
 | exc _ hc _=>exact⟨_,by rw[kN,hc]; rfl⟩
 | _=>exact⟨_,rfl⟩
def yM {a b:Expr}{ia:Ex}{t:Ip.Ty}{c:V}{cv:Value}{p pos:Pos}(hK:W.K=X.K)(cf:CF W fl)(hc:valOf c=some cv)(hi:cn W G t cv)(hg:Gl X "isinstance")(hm:X.mg "isinstance" = none)(hv:bootBuiltins "isinstance" = some (.builtin "isinstance"))
  (ha:PE X a (bm W G cl ia E))(hb:PE X b (tC c))(hs1:starEach [a,b] X.env=(false,PySem.eval a X.env)::starEach [b] X.env)(hs2:starEach [b] X.env=(false,PySem.eval b X.env)::starEach [] X.env) :
  PE X (.Call (.Name "isinstance" p) [a,b] [] pos) (bm W G cl (.op (.isi [t]) [ia]) E):=by
 have rule:CallR X (.builtin "isinstance") (λxs H Q=>∃N x d,NOk N H/\xs=[x,c]/\Den W (hid N H) x d/\Q (.bl ([t].any (bj G d))) H):=by
  rintro pins s σ H xs us Q I r ⟨N,x,d,hN,e,hd,q⟩;have e1:[t].any (bj G d)=bj G d t:=by simp
  rw[e1] at q;subst e;obtain⟨u,v,rfl,ru,rv⟩:=vals2 r;have ev:v=cv:=by
   cases c with
   | ref a=>cases hc; exact rv
   | ty n=>cases hc; exact rv
   | _=>cases hc
  subst ev;obtain⟨tv,et⟩:=hd.ty;exact Bv hK cf I ru (hd.mono bJ) et (hK ▸ hi d tv et) λtk=>⟨.bl _,H,I.tok _,rfl,q⟩
 refine (kR rule hg hm hv (gQ ha (gQ hb jR hs2) hs1) (by decide) (by decide) hs1 (by rw[hs2]; rfl)).mono λσ H Q hZz=>?_;obtain⟨N,as,hN,hS,q⟩:=hZz;rw[cR,bP,de] at q;refine⟨N,as,hN,hS,?_⟩;cases e1:Ip.eval G cl as ia with
 | bad=>rw[e1] at q; exact q.elim
 | exc c fs=>rw[e1] at q; exact q
 | ok x=>
  obtain⟨kx,d⟩:=x;rw[e1] at q;intro v H1 r;exact⟨N,v,d,hN.mono r.1,rfl,r.den hN,q _ _ (Res.of_flat r.1 rfl .bl)⟩
end
section
variable {X:Cx}{W:Wd}{G:Pg}{n:Nat}{E:St->XK}{σ:St}{H:Hp}{Q:VK}
def uk {c k f:Nat}{F:Fn}{d:D}(h:cz G c k=some (f,F,d)):∃Cl',G.cl c=some Cl'/\Cl'.init=some f/\G.fn f=some F/\(d=if Cl'.isx=true then .exc c [] else .ins c [])/\F.io=[0]/\k+1<=F.np/\F.np - (k+1)<=F.dfl.length/\k<=50:=by
 unfold cz at h;cases q1:G.cl c with
 | none=>rw[q1] at h; cases h
 | some Cl'=>
  rw[q1] at h;simp only at h;cases q2:Cl'.init with
  | none=>rw[q2] at h; cases h
  | some f'=>
   rw[q2] at h;simp only at h;cases q3:G.fn f' with
   | none=>rw[q3] at h; cases h
   | some F'=>
    rw[q3] at h;simp only at h;by_cases c1:F'.io=[0]/\k+1<=F'.np/\F'.np - (k+1)<=F'.dfl.length/\k<=50
    .rw[if_pos c1] at h;cases h;exact⟨Cl',rfl,q2,q3,rfl,c1⟩
    .rw[if_neg c1] at h; cases h
theorem DF {f:Nat}{F:Fn}{dvs:aw}{xs:ax}{vs:aw}{N:Addr->Prop}{H1 H2:Hp}{x:Addr}{d0:D}(hio:F.io=[0])(hnp:xs.length+1<=F.np)
  (hd:∀S,Dens W S dvs (cZ F (xs.length+1)))(hN:NOk N H1)(hs:Sub H H1)(dv:Dens W (hid N H1) vs (xs.map (·.2)))(hx:H1 x=none)(h12:∀b,b≠x->∀o,H1 b=some o->H2 b=some o)(h21:∀b,H2 b=none->H1 b=none)
  (ho:Own W (hid (λb=>N b\/b∈[x]) H2) H2 1 (.ref x) d0 [x])
  (h:match Ip.fR (Ip.run G n) (f,F,d0) xs with
   | .ok y=>∀v H',Res W H N H' y v->Q v H'
   | .exc c fs=>∀e H',ExcR W H N H' c fs e->E σ (.ref e) none H'
   | .bad=>False):gn W G n f F (.ref x::(vs++dvs)) H2 (λv H2=>v=.non/\Q (.ref x) H2) (E σ):=by
 simp only[Ip.fR] at h;have hN2:NOk N H2:=λb z q=>hN b z (h21 b q);have hxN:¬N x:=λz=>hN x z hx;have s1:Sub H1 (hid (λb=>b∈[x]) H2):=λb o e=>bg.mpr ⟨(λz=>by rw[Gz.mp z,hx] at e; cases e),h12 b (λz=>by rw[z,hx] at e; cases e) o e⟩;have none1:∀b,hid (λb=>b∈[x]) H2 b=none->H1 b=none:=λb z=>s1.none z;refine .inr ⟨hio,N,(1,d0),Ip.fill { F with np:=F.np - 1 } xs,.ref x,vs++dvs,[x],rfl,hN2,by simp,λb hb=>by rw[Gz.mp hb]; exact hxN,ho,?_,?_⟩
 .have e:(Ip.fill { F with np:=F.np - 1 } xs).map (·.2)=xs.map (·.2)++cZ F (xs.length+1):=by
   rw[qE];congr 1
   unfold cZ;show F.dfl.drop (F.dfl.length - (F.np - 1 - xs.length))=_;congr 2
   omega
  rw[e];refine (dv.mono λb o eb=>?_).append (hd _);obtain⟨g1,g2⟩:=bg.mp eb;have bx:b≠x:=λz=>by rw[z,hx] at g2; cases g2
  exact bg.mpr ⟨λz=>z.elim g1 λy=>bx (Gz.mp y),h12 b bx o g2⟩
 .cases q:Ip.run G n f ((1,d0)::Ip.fill { F with np:=F.np - 1 } xs) with
  | bad=>rw[q] at h; exact h
  | exc c fs outs=>
   rw[q] at h;rintro e H' ⟨g1,g2,C,ws,g3,g4,g5⟩;exact h e H' ⟨hs.trans (s1.trans g1),hs.none (none1 e g2),C,ws,g3,g4,g5⟩
  | ret k d outs=>
   rw[q] at h;cases d <;> try (exact h.elim)
   match outs,h with
   | [],h=>exact h.elim
   | _::_::_,h=>exact h.elim
   | [y],h=>
    intro v H' fp g1 nd hf ow hv;exact⟨hv rfl,h _ _ ⟨hs.trans (s1.trans g1),fp,nd,λb hb=>hs.none (none1 b (hf b hb)),ow⟩⟩
def vS {c f:Nat}{C:Addr}{F:Fn}{es:aG}{dvs:aw}(hC:W.iA c=some C)(hm:cz G c es.length=some (f,F,.ins c []))(hd:∀S,Dens W S dvs (cZ F (es.length+1)))
  (h:bm W G (Ip.run G n) (.make c es) E σ H Q):fY C (gn W G n f F) dvs E (ce W G (Ip.run G n) es E) σ H Q:=by
 obtain⟨N,a,hN,hS,h⟩:=h;obtain⟨_,_,_,_,_,hio,hnp,_⟩:=uk hm;rw[ny,hm] at h;simp only[Ip.R.bind] at h;unfold fY;refine kK hN hS (λxs ex vs H1 hs dv=>?_) (λc fs ee=>?_) λee=>?_
 .rw[ex] at h;intro x dx h1 h2 hne;have hN1:=hN.mono hs;refine DF (d0:=.ins c []) hio (by rw[oA ex]; exact hnp) (by rw[oA ex]; exact hd) hN1 hs dv h1 (λb nb o e=>?_) (λb e=>?_) ⟨x,C,dx,[],[],rfl,cM,hC,.nil,rfl⟩ h
  .rw[ca nb,ca λz=>by rw[z,h2] at e; cases e]; exact e
  .by_cases z:b=x
   .rw[z,cM] at e; cases e
   .rw[ca z] at e;by_cases y:b=dx
    .rw[y,cM] at e; cases e
    .rw[ca y] at e; exact e
 .rw[ee] at h; exact h
 .rw[ee] at h; exact h
end
def sH {o:Expr}{f:Str}{env:Env}{w:Sem Value}(h:fH o=true):attributeBase o f env w=w:=by
 unfold attributeBase;unfold fH at h;split
 .rename_i heq;simp at h
 .rfl
def eD {e:Expr}{es:av}(h:aP (e::es)=true):(∀x p,e≠.Starred x p)/\aP es=true:=by
 unfold aP at h ⊢;rw[List.all_cons,tw] at h;refine⟨λx p z=>?_,h.2⟩;rw[z] at h;exact absurd (show false=true from h.1) (by decide)
def dB {e:Expr}{es:av}{env:Env}(h:∀x p,e≠.Starred x p):starEach (e::es) env=(false,PySem.eval e env)::starEach es env:=by
 rcases oF e es env with ⟨x,p,z⟩ | q
 .exact absurd z (h x p)
 .exact q
theorem o8 {pos:Pos}{env:Env}:∀{es:av},aP es=true->(backTo pos (starEach es env)).any (·.1)=false
 | [],_=>rfl
 | e::es,h=>by
  obtain⟨h1,h2⟩:=eD h;rw[dB h1];show (false||(backTo pos (starEach es env)).any (·.1))=false;rw[o8 h2]; rfl
theorem oh {pos:Pos}{env:Env}:∀{es:av},aP es=true->(backTo pos (starEach es env)).all (λx=>!x.1)=true
 | [],_=>rfl
 | e::es,h=>by
  obtain⟨h1,h2⟩:=eD h;rw[dB h1];show (!false&&(backTo pos (starEach es env)).all (λx=>!x.1))=true;rw[oh h2]; rfl
def yY {o:Expr}{m:Str}{ap cp:Pos}{args:av}{env:Env}(hs:fH o=true)(ns:aP args=true)(hl:args.length<30)(hp:ap.endLine=cp.line) :
  PySem.eval (.Call (.Attribute o m ap) args [] cp) env=(do
   let ov <-PySem.eval o env
   standAt ap.atName
   let (f,first) <-holding [ov] (getMethod ov m (do return (<-importBound o env).getD true))
   callWith cp f first (backTo cp (starEach args env)) (backToKw cp (keywordEach [] env))):=by
 show (do
  let ov <-attributeBase o m env (PySem.eval o env)
  standAt ap.atName
  methodCall o m ap cp env ov (args.length+0) (backTo cp (starEach args env)) (backToKw cp (keywordEach [] env)))=_
 rw[sH hs];have few:methodCallForm (args.length+0) (backTo cp (starEach args env)) (backToKw cp (keywordEach [] env))=true:=by
  unfold methodCallForm;rw[oh ns];show (true&&true&&decide (args.length+0+0<30))=true;rw[GE (by omega)]; rfl
 have hpos:methodCallPos true o env ap cp=pure cp:=by
  unfold methodCallPos;rw[if_pos (by rw[hp]; simp)]
 unfold methodCall;rw[few];unfold calleeOf;rw[hpos];rfl
noncomputable def rm (n:Nat):Nat:=3 * n+1
def FI (W:Wd)(G:Pg)(n:Nat)(P:Program)(w:World)(mg:Str->aB)(base:Heap)(k:Nat)(F:Fn)(a:Addr):Prop:=
 ∃(fd:FuncData) (ps:au),FnOk P w W.K mg base (fQ P w) (rm n) a fd ps (gn W G n k F)/\∀m,m<=F.np->F.np - m<=F.dfl.length->∃(ds:ar) (dvs:aw),Binds W.K fd ps ds/\Vals dvs ds/\∀S,Dens W S dvs (cZ F m)
noncomputable def ff:aj:=[("len",.builtin "len"),("all",.builtin "all"),("any",.builtin "any"),("isinstance",.builtin "isinstance"),("max",.builtin "max"),("list",.type "list"),("tuple",.type "tuple"),("range",.type "range"),("enumerate",.type "enumerate"),("zip",.type "zip"),("int",.type "int"),("sorted",.builtin "sorted"),("set",.type "set")]
def bA (i:Nat){x:Str×Value}(h:ff[i]? = some x):x∈ff:=GH h
structure GF (W:Wd)(G:Pg)(T:Tb)(n:Nat)(P:Program)(w:World)(mg:Str->aB)(base:Heap):Prop where
 cf:CF W T.fl
 att:W.att=T.att
 blt:∀x v,(x,v)∈ff->mg x=none/\bootBuiltins x=some v
 cst:∀x d,T.cst.lookup x=some d->(x == ("__debug__" : Str))=false/\∃u v,mg x=some u/\RelV v u/\d.flat=true/\∀S,Den W S v d
 fns:∀x k,T.fns.lookup x=some k->(x == ("__debug__" : Str))=false/\∃F a,G.fn k=some F/\mg x=some (.ref a)/\PySem.W.keepIn W.K (.ref a)=true/\FI W G n P w mg base k F a
 cls:∀x c,T.cls.lookup x=some c->(x == ("__debug__" : Str))=false/\∃C,mg x=some (.ref C)/\∀Cl' f F,G.cl c=some Cl'->Cl'.init=some f->G.fn f=some F ->
  ∃a,FI W G n P w mg base f F a/\Cl'.isx=false/\W.iA c=some C/\Mk W.K C a
 meth:∀c Cl' m f F,G.cl c=some Cl'->Cl'.meths.lookup m=some f->G.fn f=some F->∀nm,W.att[m]? = some nm->∃C a,W.iA c=some C/\Meth W.K C nm a/\FI W G n P w mg base f F a
 isB:∀x t,Ip.kq.lookup x=some t->mg x=none/\x ≠ "__name__" /\ (x == ("__debug__" : Str))=false/\∃nm,bootBuiltins x=some (.type nm)/\cn W G t (.type nm)
 isC:∀x c,T.cls.lookup x=some c->∃C,mg x=some (.ref C)/\cn W G (.cls c) (.ref C)
structure Gd (W:Wd)(G:Pg)(T:Tb)(n:Nat)(E:St->XK)(sc:Scope)(N:au)(X:Cx):Prop where
 gf:GF W G T n X.prog X.w X.mg X.base
 K:W.K=X.K
 vis:∀x,aZ sc x=true->qP X.env.scope x
 loc:∀x,bK sc x=true->Loc X.env.scope x/\(X.fn x=true\/X.env.scope.names.lookup x=some .local)
 gl:∀x,bw sc x=true->Gl X x
 fr:∀x,(sc.names.lookup x=some .cell\/sc.names.lookup x=some .free)->(X.env.scope.names.lookup x=some .cell\/X.env.scope.names.lookup x=some .free)
 nm:X.N=N
 nd:N.Nodup
 calm:X.calm=true
 pass:bU (fQ X.prog X.w) X E
 room:Room (rm n+1) X.A
def z9 {scope:Scope}{env:Env}{x:Str}{k:NameKind}(h:scope.names.lookup x=some k):(relabel scope env).names.lookup x=some k\/(k=.free/\(relabel scope env).names.lookup x=some .cell):=by
 have go:∀(g:Str×NameKind->Str×NameKind),(∀p,g p=p\/(p.2=.free/\g p=(p.1,.cell)))->∀(names:List (Str×NameKind)),names.lookup x=some k->(names.map g).lookup x=some k\/(k=.free/\(names.map g).lookup x=some .cell):=by
  intro g hg names;induction names with
  | nil=>intro h; exact nomatch h
  | cons p r ih=>
   intro h;rw[GA];obtain⟨n,kn⟩:=p;rw[List.lookup_cons] at h;rcases hg (n,kn) with e | ⟨e1,e2⟩
   .rw[e,List.lookup_cons];cases hx:x == n with
    | true=>rw[hx] at h; exact .inl h
    | false=>rw[hx] at h; exact ih h
   .rw[e2,List.lookup_cons];cases hx:x == n with
    | true=>
     rw[hx] at h;have e1':kn=.free:=e1;exact .inr ⟨by rw[<-Option.some.inj h]; exact e1',rfl⟩
    | false=>rw[hx] at h; exact ih h
 refine go _ (λp=>?_) scope.names h;obtain⟨n,k⟩:=p;by_cases hb:(k == NameKind.free&&env.scope.kind == .function&&env.kindOf n == some .cell)=true
 .refine .inr ⟨?_,if_pos hb⟩;simp only[tw,GC] at hb;exact hb.1.1
 .exact .inl (if_neg hb)
def Gd.block {W:Wd}{G:Pg}{T:Tb}{n:Nat}{E:St->XK}{sc:Scope}{N:au}{X:Cx}(g:Gd W G T n E sc N X){scope:Scope}(hb:c6 sc N (be scope) (bn N scope) scope=true)(cl:ai)(C:Addr)(s:Shared)(H:Hp)(fp:aq) :
  Gd W G T n (λ_ _ _ _=>False) scope (be scope) (bz X (be scope) scope cl C s H fp λ_ _=>False):=by
 have S:=CompS.of (show compOk sc N (be scope) (bn N scope) scope=true from hb);have look:∀x k,scope.names.lookup x=some k->(relabel scope X.env).names.lookup x=some k\/(k=.free/\(relabel scope X.env).names.lookup x=some .cell):=λx k=>z9;refine⟨g.gf,g.K,λx h=>?_,λx h=>?_,λx h=>?_,λx h=>?_,rfl,S.nd,g.calm,passN,g.room⟩
 .unfold aZ at h;simp only[Hj,GC] at h;rcases h with (h | h) | h
  .rcases look x _ h with q | ⟨q,_⟩
   .exact .inl q
   .cases q
  .rcases look x _ h with q | ⟨q,_⟩
   .exact .inr (.inl q)
   .cases q
  .rcases look x _ h with q | ⟨_,q⟩
   .exact .inr (.inr q)
   .exact .inr (.inl q)
 .unfold bK at h;simp only[Hj,GC] at h;rcases h with h | h
  .rcases look x _ h with q | ⟨q,_⟩
   .exact⟨.inl q,.inr q⟩
   .cases q
  .rcases look x _ h with q | ⟨q,_⟩
   .exact⟨.inr q,.inl (by show (scope.names.lookup x == some NameKind.cell)=true; rw[h]; decide)⟩
   .cases q
 .unfold bw at h;simp only[GC] at h;rcases look x _ h with q | ⟨q,_⟩
  .exact q
  .cases q
 .rcases h with h | h
  .rcases look x _ h with q | ⟨q,_⟩
   .exact .inl q
   .cases q
  .rcases look x _ h with q | ⟨_,q⟩
   .exact .inr q
   .exact .inl q
theorem Gd.compOk {W:Wd}{G:Pg}{T:Tb}{n:Nat}{E:St->XK}{sc:Scope}{N:au}{X:Cx}(g:Gd W G T n E sc N X){scope:Scope}(hb:c6 sc N (be scope) (bn N scope) scope=true) :
  L2.compOk X.env.scope X.N (be scope) (bn N scope) scope=true:=by
 rw[g.nm];unfold c6 at hb;unfold L2.compOk;simp only[tw,List.all_eq_true] at hb ⊢;obtain⟨⟨⟨⟨h1,h2⟩,h3⟩,h4⟩,h5⟩:=hb;refine⟨⟨⟨⟨h1,λy hy=>?_⟩,h3⟩,h4⟩,h5⟩;obtain⟨⟨a1,a2⟩,a3⟩:=h2 y hy;refine⟨⟨a1,a2⟩,?_⟩;simp only[Hj,bne_iff_ne,ne_eq,GC] at a3 ⊢;rcases a3 with a3 | a3
 .exact .inl a3
 .exact .inr (g.fr y.1 a3)
section
variable {X:Cx}{W:Wd}{G:Pg}{T:Tb}{n:Nat}{E:St->XK}{σ:St}{H:Hp}{sc:Scope}{N:au}
def rW (d:D):(∃i,d=.int i)\/∀i,d≠.int i:=by
 cases d with
 | int i=>exact .inl ⟨i,rfl⟩
 | _=>exact .inr λi z=>by cases z
def tY {cl:Nat->ax->Ip.Run}{o:Op}{x y:Ex}{Q:VK}{lo hi:Int->Option Int}(ho:∀u v:KD,bB G o [u,v]=match v.2 with | .int i=>aY (lo i) (hi i) u.2 | _=>none)(h:bm W G cl (.op o [x,y]) E σ H Q) :
  bm W G cl x E σ H λv H1=>bm W G cl y E σ H1 λw H2=>∃i,w=.int i/\ky W v (lo i) (hi i) H2 Q:=by
 obtain⟨N,a,hN,hS,h⟩:=h;refine f9 hN hS (λu eu v H1 fp hs nd hf ow hN1 hS1=>?_) (λc fs ee=>?_) λee=>?_
 .refine f9 hN1 hS1 (λu2 eu2 w H2 fq hs2 nd2 hf2 ow2 hN2 hS2=>?_) (λc fs ee e H' r=>?_) λee=>?_
  .simp only[cR,de,bP,eu,eu2,Ip.R.bind,ho] at h;have dv:=ow.later hN hs2 hf λ_ y=>y;have dw:=ow2.later (hN.mono hs) (Sub.refl _) hf2 λ_ y=>.inl y;obtain⟨k2,d2⟩:=u2;rcases rW d2 with ⟨i,rfl⟩ | ni
   .simp only at h;cases q:aY (lo i) (hi i) u.2 with
    | none=>rw[q] at h; exact h.elim
    | some z=>
     rw[q] at h;exact⟨i,dw.int_inv,N,u.2,z,hN.mono (hs.trans hs2),dv,q,λv H' r=>h v H' (r.trans (hs.trans hs2))⟩
   .cases d2 <;> first | exact h.elim | exact absurd rfl (ni _)
  .simp only[cR,bP,eu,ee,Ip.R.bind] at h;exact h e H' (r.trans hs λ_ y=>.inl y)
  .simp only[cR,bP,eu,ee,Ip.R.bind] at h
 .simp only[cR,bP,ee,Ip.R.bind] at h;exact h
 .simp only[cR,bP,ee,Ip.R.bind] at h
def El {cl:Nat->ax->Ip.Run}{x y z:Ex}{Q:VK}(h:bm W G cl (.sl2 x y z) E σ H Q) :
  bm W G cl x E σ H λv H1=>bm W G cl y E σ H1 λw H2=>∃i,w=.int i/\bm W G cl z E σ H2 λu H3=>∃j,u=.int j/\ky W v (some i) (some j) H3 Q:=by
 obtain⟨N,a,hN,hS,h⟩:=h;rw[Ip.pe] at h;refine f9 hN hS (λu eu v H1 fp hs nd hf ow hN1 hS1=>?_) (λc fs ee=>?_) λee=>?_
 .refine f9 hN1 hS1 (λu2 eu2 w H2 fq hs2 nd2 hf2 ow2 hN2 hS2=>?_) (λc fs ee e H' r=>?_) λee=>?_
  .have dw:=ow2.later (hN.mono hs) (Sub.refl _) hf2 λ_ y=>.inl y;obtain⟨k2,d2⟩:=u2;simp only[eu,eu2,Ip.R.bind] at h;rcases rW d2 with ⟨i,rfl⟩ | ni
   .refine⟨i,dw.int_inv,?_⟩;have hs3:=hs.trans hs2;simp only at h;refine f9 (hN.mono hs3) (hS.grow hs3) (λu3 eu3 w3 H3 fr hs4 nd4 hf4 ow4 hN4 hS4=>?_) (λc fs ee e H' r=>?_) λee=>?_
    .have dv:=ow.later hN (hs2.trans hs4) hf λ_ y=>y;have dz:=ow4.later (hN.mono hs3) (Sub.refl _) hf4 λ_ y=>y;obtain⟨k3,d3⟩:=u3;simp only[eu3] at h;rcases rW d3 with ⟨j,rfl⟩ | nj
     .simp only[Ip.kd] at h;cases q:aY (some i) (some j) u.2 with
      | none=>rw[q] at h; exact h.elim
      | some t=>
       rw[q] at h;exact⟨j,dz.int_inv,N,u.2,t,hN.mono (hs3.trans hs4),dv,q,λv H' r=>h v H' (r.trans (hs3.trans hs4))⟩
     .cases d3 <;> first | exact h.elim | exact absurd rfl (nj _)
    .simp only[ee] at h;exact h e H' (r.of_sub hs3)
    .simp only[ee] at h
   .cases d2 <;> first | exact h.elim | exact absurd rfl (ni _)
  .simp only[eu,ee,Ip.R.bind] at h;exact h e H' (r.trans hs λ_ y=>.inl y)
  .simp only[eu,ee,Ip.R.bind] at h
 .simp only[ee,Ip.R.bind] at h;exact h
 .simp only[ee,Ip.R.bind] at h
theorem Dens.find {S:Hp}{x:V}{d:D}(hx:Den W S x d)(sx:d.scal=true):∀{vs:aw} {ds:ay},Dens W S vs ds->ds.all D.scal=true->(vs.findIdx? λz=>L2.eqV z x)=d.find ds
 | _,_,.nil,_=>rfl
 | _,_,.cons h q,hs=>by
  rw[List.all_cons,tw] at hs;have e:=q.find hx sx hs.2;unfold D.find at e ⊢;rw[HZ,HZ,h.eqV hx hs.1 sx,e]
def Ab {cl:Nat->ax->Ip.Run}{x y:Ex}{Q:VK}(hK:W.K=X.K)(nox:∀a c fs,Ip.eval G cl a y≠.exc c fs)(h:bm W G cl (.op .index [x,y]) E σ H Q):ig X.K "tuple" (i4 X.K) (bm W G cl x E) (ce W G cl [y] E) σ H Q:=by
 obtain⟨N,a,hN,hS,h⟩:=h;unfold ig;refine f9 hN hS (λu eu v H1 fp hs nd hf ow hN1 hS1=>?_) (λc fs ee=>?_) λee=>?_
 .cases q:Ip.eval G cl a y with
  | bad=>simp only[cR,bP,eu,q,Ip.R.bind] at h
  | exc c fs=>exact absurd q (nox a c fs)
  | ok u2=>
   simp only[cR,de,bP,eu,q,Ip.R.bind,Ip.AV,bE] at h;cases hz:Ip.b8 u.2 u2.2 with
   | none=>rw[hz] at h; exact h.elim
   | some z=>
    rw[hz] at h;obtain⟨xs,ex⟩:=Ip.Cb hz;have dv:=ow.later hN (Sub.refl _) hf λ_ y=>y;rw[ex] at dv hz;cases dv with | @tup l ws _ h1 h2=>?_
    have sq:SqT X.K H1 l ws:=hK ▸ SqT.sub bJ h1;refine⟨.inr (.inl ⟨rfl,ws,sq⟩),kK (hN.mono hs) (hS.grow hs) (λzs ez vs H2 hs2 dz=>?_) (λc fs ee=>?_) λee=>?_⟩
    .simp only[de,bP,q,Ip.R.bind] at ez;cases ez;obtain⟨w,rfl,dw⟩:=Dens.one dz;rw[Ip.ki] at hz;split at hz
     .rename_i hp;rw[tw] at hp;have h2':=h2.mono (hG (N:=N) hs2);have fi:=Dens.find dw hp.1 h2' hp.2;cases hj:u2.2.find xs with
      | none=>rw[hj] at hz; cases hz
      | some j=>
       rw[hj] at hz;cases hz;exact⟨l,ws,w,j,rfl,rfl,SqT.sub hs2 sq,dw.flatV hp.1,h2'.flatV hp.2,fi.trans hj,h _ _ (Res.trans (hs.trans hs2) Res.int)⟩
     .cases hz
    .simp only[de,bP,q,Ip.R.bind] at ee;cases ee
    .simp only[de,bP,q,Ip.R.bind] at ee;cases ee
 .simp only[cR,bP,ee,Ip.R.bind] at h;exact h
 .simp only[cR,bP,ee,Ip.R.bind] at h
def jB {cl:Nat->ax->Ip.Run}{o:Op}{x:Ex}{Q:VK}(h:bm W G cl (.op o [x]) E σ H Q):kI (λvs=>rD W G o vs) (ce W G cl [x] E) σ H Q:=by
 obtain⟨N,a,hN,hS,h⟩:=h;rw[cR] at h;unfold kI;refine kK hN hS (λxs ex vs H1 hs dv=>?_) (λc fs ee=>?_) λee=>?_
 .rw[ex] at h;simp only[Ip.R.bind] at h;cases q:bB G o xs with
  | none=>rw[q] at h; exact h.elim
  | some z=>
   rw[q] at h;exact⟨N,xs,z,hN.mono hs,dv,q,λv H' r=>h v H' (r.trans hs)⟩
 .rw[ee] at h; exact h
 .rw[ee] at h; exact h
def zp {cl:Nat->ax->Ip.Run}{o:Op}{x y:Ex}{Q:VK}(h:bm W G cl (.op o [x,y]) E σ H Q):kI (λvs=>rD W G o vs) (ce W G cl [x,y] E) σ H Q:=by
 obtain⟨N,a,hN,hS,h⟩:=h;rw[cR] at h;unfold kI;refine kK hN hS (λxs ex vs H1 hs dv=>?_) (λc fs ee=>?_) λee=>?_
 .rw[ex] at h;simp only[Ip.R.bind] at h;cases q:bB G o xs with
  | none=>rw[q] at h; exact h.elim
  | some z=>
   rw[q] at h;exact⟨N,xs,z,hN.mono hs,dv,q,λv H' r=>h v H' (r.trans hs)⟩
 .rw[ee] at h; exact h
 .rw[ee] at h; exact h
def FO (hc:X.calm=true):CallR X (.builtin "max") (λxs=>rD W G .max2 xs):=(EO hc).imp λvs H Q ⟨N,xs,z,hN,hd,hz,hq⟩=>by
 rw[Ip.Bm] at hz;cases xs with
 | nil=>cases hz
 | cons x r=>
  cases r with
  | nil=>cases hz
  | cons y t=>
   cases t with
   | cons _ _=>cases hz
   | nil=>
    obtain⟨k,d⟩:=x;obtain⟨l,e⟩:=y;simp only[bE] at hz;cases d <;> first | (cases hz; done) | skip
    cases e <;> first | (cases hz; done) | skip
    rename_i i j;simp only[Ip.bL] at hz;obtain⟨v,w,rfl,h1,h2⟩:=Dens.two hd;have e1:=h1.int_inv;have e2:=h2.int_inv;subst e1 e2;cases hz;exact⟨i,j,rfl,hq _ _ Res.int⟩
theorem wc:∀{ds:ay} {is:ao},di ds=some is->ds=is.map .int
 | [],is,h=>by cases h; rfl
 | d::ds,is,h=>by
  cases d with
  | int i=>
   obtain⟨js,h1,rfl⟩:=cJ (show (di ds).map (λis=>i::is)=some is from h);rw[wc h1]; rfl
  | _=>cases h
theorem Dens.nums {S:Hp}:∀{is:ao} {ws:aw},Dens W S ws (is.map .int)->ws=is.map .int
 | [],_,.nil=>rfl
 | i::is,_,.cons h q=>by rw[h.int_inv,Dens.nums q]; rfl
def Dm {S H:Hp}{v:V}{d:D}{p:Int×Int}(hK:W.K=X.K)(hs:Sub S H)(h:Den W S v d)(e:Ip.uT d=some p):nK X.K H v p:=by
 cases h <;> first | (cases e; done) | skip
 rename_i l ws xs h1 h2;obtain⟨is,e1,e2⟩:=du (show (di xs).bind Ip.wW=some p from e);obtain⟨i,j,rfl⟩:∃i j,is=[i,j]:=by
  match is,e2 with
  | [i,j],_=>exact⟨i,j,rfl⟩
 cases e2;rw[wc e1] at h2;have e3:=h2.nums;subst e3;exact⟨l,rfl,hK ▸ SqT.sub hs h1⟩
theorem u7 {S H:Hp}(hK:W.K=X.K)(hs:Sub S H):∀{vs:aw} {ds:ay} {ps:List (Int×Int)},Dens W S vs ds->fJ ds=some ps->Paired (nK X.K H) vs ps
 | _,_,_,.nil,e=>by cases e; exact .nil
 | _,_,_,.cons h q,e=>by
  obtain⟨p,e1,e2⟩:=du e;obtain⟨ps,e3,rfl⟩:=cJ e2;exact .cons (Dm hK hs h e1) (u7 hK hs q e3)
def yg {S:Hp}{ws:aw}{ds:ay}{c:Nat->Nat->Bool}(h:Dens W S ws ds):Dens W S (da .non c ws) (da .non c ds):=by
 have key:∀l:am,Dens W S (l.map λi=>ws.getD i .non) (l.map λi=>ds.getD i .non):=λl=>by
  induction l with
  | nil=>exact .nil
  | cons i l ih=>
   refine .cons (show Den W S (ws.getD i .non) (ds.getD i .non) from ?_) ih;cases e:ds[i]? with
   | none=>
    have e2:ws[i]? = none:=by
     rw[List.getElem?_eq_none_iff] at e ⊢;rw[h.length]; exact e
    rw[Gy,Gy,e,e2];exact .non
   | some d=>
    obtain⟨v,e1,e2⟩:=h.get e;rw[Gy,Gy,e,e1];exact e2
 unfold da;rw[h.length];split
 .exact h
 .exact key _
def FC (hK:W.K=X.K):CallR X (.builtin "sorted") (λxs=>rD W G .srt xs):=zz.imp λvs H Q ⟨N,xs,z,hN,hd,hz,hq⟩=>by
 rw[Ip.zY] at hz;obtain⟨v,p,rfl,rfl,dv,ez⟩:=hd.vs1 (o:=.srt) hz;obtain⟨ds,e1,e2⟩:=nn ez;rw[e1] at dv;obtain⟨ps,e3,e4⟩:=du (show (fJ ds).bind _=some z from e2);split at e4
 .rename_i hl;cases e4;cases dv with | @lst a ws _ h1 h2=>?_
  exact⟨a,ws,ps,rfl,.inl (Rd.sub bJ h1),u7 hK bJ h2 e3,by rw[h2.length]; exact hl,λq hp=>hq _ _ (Res.newL hp (yg h2))⟩
 .cases e4
def pL (T:Tb)(sc:Scope)(N:au)(m:Nat)(x:Expr)(p:Pos):cE T sc N m (.Starred x p)=.bad:=by
 cases m <;> rfl
theorem uY {α:Type}{x:Str}{v:α}:∀{l:List (Str×α)},l.lookup x=some v->(x,v)∈l
 | [],h=>nomatch h
 | (y,j)::r,h=>by
  rw[List.lookup_cons] at h;cases e:x == y with
  | true=>
   rw[e] at h;rw[GC] at e;cases h;rw[e];exact bQ
  | false=>rw[e] at h; exact bN _ (uY h)
theorem uJ (g:Gd W G T n E sc N X):∀{es:av} {is:am},(es.mapM λ(e:Expr)=>match e with
  | .Name x _=>if bK sc x then pos? x N else none
  | _=>none)=some is->k9 X es (jl is)/\(assignEach es X.env).length=is.length/\(assignEach es X.env).findIdx? (·.1)=none
 | [],is,h=>by
  cases h;exact⟨xO,rfl,rfl⟩
 | e::es,is,h=>by
  rw[List.mapM_cons] at h;cases e with
  | Name x p=>
   by_cases hl:bK sc x=true
   .simp only[hl,if_true] at h;cases q:pos? x N with
    | none=>rw[q] at h; cases h
    | some i=>
     rw[q] at h;cases q2:(es.mapM λ(e:Expr)=>match e with
       | .Name x _=>if bK sc x then pos? x N else none
       | _=>none) with
     | none=>simp[q2] at h
     | some js=>
      simp[q2] at h;subst h;obtain⟨h1,h2,h3⟩:=uJ g q2;obtain⟨l1,l2⟩:=g.loc x hl;have hi:X.N[i]? = some x:=by rw[g.nm]; exact pos?_get q
      refine⟨DD (sG (by rw[g.nm]; exact g.nd) hi l1 l2) h1 rfl,?_,?_⟩
      .show (assignEach es X.env).length+1=js.length+1;rw[h2]
      .show List.findIdx? _ ((false,_)::assignEach es X.env)=none;rw[HZ,h3];rfl
   .simp only[hl] at h;cases h
  | _=>cases h
def kE (g:Gd W G T n E sc N X){tg:Expr}{t:Tg}(h:cu sc N tg=some t):PG X tg (gT X.K t):=by
 cases tg with
 | Name x p=>
  simp only[Ip.uB] at h;by_cases hl:bK sc x=true
  .rw[if_pos hl] at h;obtain⟨i,q,rfl⟩:=cJ h;obtain⟨l1,l2⟩:=g.loc x hl;exact sG (by rw[g.nm]; exact g.nd) (by rw[g.nm]; exact pos?_get q) l1 l2
  .rw[if_neg hl] at h; cases h
 | Tuple es k p=>
  simp only[Ip.Ga] at h;obtain⟨is,q,rfl⟩:=cJ h;obtain⟨h1,h2,h3⟩:=uJ g q;exact λpins s σ H v u Q I r hw=>hw.elim (FJ g.calm h1 h2 h3 pins s σ H v u Q I r) (xY g.calm h1 h2 h3 pins s σ H v u Q I r)
 | _=>cases h
end
section
variable {W:Wd}{G:Pg}{T:Tb}{n:Nat}
structure IH (W:Wd)(G:Pg)(T:Tb)(n m:Nat):Prop where
 e:∀{E:St->XK} {sc:Scope} {N:au} {X:Cx},Gd W G T n E sc N X->∀x,PE X x (bm W G (Ip.run G n) (cE T sc N m x) E)
 t:∀{E:St->XK} {sc:Scope} {N:au} {X:Cx},Gd W G T n E sc N X->∀x,PT X x (b9 W G (Ip.run G n) (cT T sc N m x) E)
 c:∀{E:St->XK} {sc:Scope} {N:au} {X:Cx},Gd W G T n E sc N X->∀a os bs p,PT X (.Compare a os bs p) (b9 W G (Ip.run G n) (cE T sc N m (.Compare a os bs p)) E)
 i:∀{E:St->XK} {sc:Scope} {N:au} {X:Cx},Gd W G T n E sc N X->∀tg x,((cI T sc N m x).1=.enum\/(cI T sc N m x).1=.zip->∃es k p,tg=.Tuple es k p)->PI X tg x (fX W G (Ip.run G n) (cI T sc N m x).1 (cI T sc N m x).2 E)
 b:∀{E:St->XK} {sc:Scope} {N:au} {X:Cx},Gd W G T n E sc N X->∀f args p pos,bw sc f=true->PE X (.Call (.Name f p) args [] pos) (bm W G (Ip.run G n) (cB T sc N m f args) E)
variable {m:Nat}{E:St->XK}{sc:Scope}{N:au}{X:Cx}
def IH.args (ih:IH W G T n m)(g:Gd W G T n E sc N X)(es:av):PA X es (ce W G (Ip.run G n) (es.map (cE T sc N m)) E):=
 t9 (λe _=>ih.e g e) λe _ x p h=>by rw[h]; exact pL T sc N m x p
theorem Gd.units (g:Gd W G T n E sc N X):X.A.units+64<cLine:=g.room.units
def iZ {tg x:Expr}:PI X tg x (fX W G (Ip.run G n) .seq [.bad] E):=λpins s σ H R I ⟨_,_,_,_,q⟩=>by
 rw[bP,eU] at q;exact q.elim
def fj {x:Expr}:PT X x (b9 W G (Ip.run G n) .bad E):=λpins s σ H R I ⟨_,_,_,_,q⟩=>by
 rw[eU] at q;exact q.elim
def BF (g:Gd W G T n E sc N X)(x:Str)(p:Pos):PE X (.Name x p) (bm W G (Ip.run G n) (cE T sc N (m+1) (.Name x p)) E):=by
 rw[Ip.ua];by_cases h1:(aZ sc x&&Ip.aU x)=true
 .rw[if_pos h1];rw[tw] at h1;unfold pv?;cases q:pos? x N with
  | none=>exact bT
  | some i=>
   have ok:=h1.2;unfold Ip.aU at ok;simp only[tw,IZ] at ok;exact DI (qY (by rw[g.nm]; exact pos?_get q) (g.vis x h1.1) ok.1 ok.2)
 .rw[if_neg h1];by_cases h2:bw sc x=true
  .rw[if_pos h2];cases q:T.cst.lookup x with
   | none=>exact bT
   | some d=>
    obtain⟨hd,u,v,hm,r,hf,hv⟩:=g.gf.cst x d q;exact lV hf hv (u9 (g.gl x h2) hm r hd)
  .rw[if_neg h2]; exact bT
def Ao (c:Const)(k:Nat)(p:Pos):PE X (.Constant c k p) (bm W G (Ip.run G n) (cE T sc N (m+1) (.Constant c k p)) E):=by
 cases c with
 | none=>exact lV rfl (λ_=>.non) Cq
 | bool b=>exact lV rfl (λ_=>.bl) yI
 | int i=>exact lV rfl (λ_=>.int) vL
 | str s=>exact lV rfl (λ_=>.str) vD
 | _=>exact bT
def Dr (ih:IH W G T n m)(g:Gd W G T n E sc N X)(a b:Expr)(o:Operator)(p:Pos):PE X (.BinOp a o b p) (bm W G (Ip.run G n) (cE T sc N (m+1) (.BinOp a o b p)) E):=by
 have ha:=ih.e g a;have hb:=ih.e g b;cases o with
 | Add=>exact (kO (E9 g.K) ha hb).mono λσ H Q=>hV λ_ _ _ _ h=>h
 | Sub=>exact (kO Fg ha hb).mono λσ H Q=>hV λ_ _ _ _ h=>h
 | Mult=>exact (kO (B8 g.K) ha hb).mono λσ H Q=>hV λ_ _ _ _ h=>h
 | FloorDiv=>exact (kO AU ha hb).mono λσ H Q=>hV λ_ _ _ _ h=>h
 | Mod=>exact (kO AO ha hb).mono λσ H Q=>hV λ_ _ _ _ h=>h
 | Pow=>exact (kO xD ha hb).mono λσ H Q=>hV λ_ _ _ _ h=>h
 | _=>exact bT
def rc (ih:IH W G T n m)(g:Gd W G T n E sc N X)(a:Expr)(o:UnaryOp)(p:Pos):PE X (.UnaryOp o a p) (bm W G (Ip.run G n) (cE T sc N (m+1) (.UnaryOp o a p)) E):=by
 have ha:=ih.e g a;cases o with
 | Not=>exact (xP ha).mono λσ H Q=>gZ Al
 | USub=>exact (uQ uO ha).mono λσ H Q=>gZ xZ
 | _=>exact bT
def EA (ih:IH W G T n m)(g:Gd W G T n E sc N X)(o:BoolOp)(es:av)(p:Pos):PE X (.BoolOp o es p) (bm W G (Ip.run G n) (cE T sc N (m+1) (.BoolOp o es p)) E):=by
 match es with
 | []=>exact bT
 | [a]=>exact zw (ih.e g a)
 | a::b::es=>
  cases o with
  | And=>exact (ES (ih.e g a) (ih.e g (.BoolOp .And (b::es) p))).mono λσ H Q=>xV
  | Or=>exact (BR (ih.e g a) (ih.e g (.BoolOp .Or (b::es) p))).mono λσ H Q=>pC
def xy {o:CmpOp}{b:Expr}(h:cK b=true):behindInMarks o b=false:=by
 cases b <;> first | rfl | cases h
def lg (g:Gd W G T n E sc N X){o:CmpOp}{p:Op}(h:gb o=some p):OpR X (compareOp o) (λx y=>rD W G p [x,y]):=by
 cases o <;> (try cases h)
 .exact qQ g.K g.units
 .exact pQ g.K g.units
 .exact qp
 .exact rE
 .exact p0
 .exact rq
 .exact sm g.K g.units
 .exact Ad g.K g.units
def vJ {o:CmpOp}{p:Op}(h:i7 o=some p):gb o=some p/\o≠.In/\o≠.NotIn:=by
 cases o <;> (try cases h) <;> exact⟨rfl,by decide,by decide⟩
def tS {b:Expr}(h:isNone b=true):∃k p,b=.Constant .none k p:=by
 cases b <;> try (cases h; done)
 rename_i c k p;cases c <;> first | exact⟨k,p,rfl⟩ | cases h
def u0 (ih:IH W G T n m)(g:Gd W G T n E sc N X)(a:Expr)(os:List CmpOp)(bs:av)(p:Pos) :
  PE X (.Compare a os bs p) (bm W G (Ip.run G n) (cE T sc N (m+1) (.Compare a os bs p)) E)/\PT X (.Compare a os bs p) (b9 W G (Ip.run G n) (cE T sc N (m+1) (.Compare a os bs p)) E):=by
 have ha:=ih.e g a;match os,bs with
 | [o],[b]=>
  have hb:=ih.e g b;have rest:∀q,gb o=some q->PE X (.Compare a [o] [b] p) (bm W G (Ip.run G n) (if cK b then .op q [cE T sc N m a,cE T sc N m b] else .bad) E)/\PT X (.Compare a [o] [b] p) (b9 W G (Ip.run G n) (if cK b then .op q [cE T sc N m a,cE T sc N m b] else .bad) E):=λq hq=>by
   by_cases ns:cK b=true
   .rw[if_pos ns];exact⟨(Fp (lg g hq) ha hb (xy ns)).mono λσ H Q=>hV λ_ _ _ _ h=>h,(Bl (lg g hq) ha hb (xy ns)).mono λσ H Q h=>hV (λ_ _ _ _ h=>h) (mn h)⟩
   .rw[if_neg ns]; exact⟨bT,fj⟩
  cases o with
  | Is=>
   simp only[Ip.pH];by_cases hn:isNone b=true
   .rw[if_pos hn];obtain⟨k,p',rfl⟩:=tS hn;exact⟨(tZ (tN ha)).mono λσ H Q=>gZ (r:=λx H Q=>Q (.bl (decide (x=.non))) H) wS,(vA (tN ha)).mono λσ H Q h=>gZ (r:=λx H Q=>Q (.bl (decide (x=.non))) H) wS (mn h)⟩
   .rw[if_neg hn]; exact⟨bT,fj⟩
  | IsNot=>
   simp only[Ip.pH];by_cases hn:isNone b=true
   .rw[if_pos hn];obtain⟨k,p',rfl⟩:=tS hn;exact⟨(tZ (v3 ha)).mono λσ H Q=>gZ (r:=λx H Q=>Q (.bl (!decide (x=.non))) H) wV,(vA (v3 ha)).mono λσ H Q h=>gZ (r:=λx H Q=>Q (.bl (!decide (x=.non))) H) wV (mn h)⟩
   .rw[if_neg hn]; exact⟨bT,fj⟩
  | Eq=>exact rest _ rfl
  | NotEq=>exact rest _ rfl
  | Lt=>exact rest _ rfl
  | LtE=>exact rest _ rfl
  | Gt=>exact rest _ rfl
  | GtE=>exact rest _ rfl
  | In=>exact rest _ rfl
  | NotIn=>exact rest _ rfl
 | [o,q],[b,c]=>
  have hb:=ih.e g b;have hc:=ih.e g c;simp only[Ip.pH];cases h1:i7 o with
  | none=>exact⟨bT,fj⟩
  | some o'=>
   cases h2:i7 q with
   | none=>exact⟨bT,fj⟩
   | some q'=>
    obtain⟨c1,_,_⟩:=vJ h1;obtain⟨c2,n1,n2⟩:=vJ h2;have hm:lastMarks [o,q] [b,c]=false:=km c n1 n2;exact⟨(Fx (lg g c1) (lg g c2) ha hb hc hm).mono λσ H Q=>ug,(zy (lg g c1) (lg g c2) ha hb hc hm).mono λσ H Q h=>ug (mn h)⟩
 | [],_=>exact⟨bT,fj⟩
 | [_],[]=>exact⟨bT,fj⟩
 | [_],_::_::_=>exact⟨bT,fj⟩
 | [_,_],[]=>exact⟨bT,fj⟩
 | [_,_],[_]=>exact⟨bT,fj⟩
 | [_,_],_::_::_::_=>exact⟨bT,fj⟩
 | _::_::_::_,_=>exact⟨bT,fj⟩
end
section
variable {W:Wd}{G:Pg}{T:Tb}{n:Nat}{m:Nat}{E:St->XK}{sc:Scope}{N:au}{X:Cx}
def z8 (ih:IH W G T n m)(g:Gd W G T n E sc N X)(es:av)(p:Pos):PE X (.List es p) (bm W G (Ip.run G n) (cE T sc N (m+1) (.List es p)) E):=by
 simp only[Ip.Bw];by_cases h:es.length<=1000
 .rw[if_pos h]; exact rh (by rw[Gx]; exact h) (ih.args g es)
 .rw[if_neg h]; exact bT
def An (ih:IH W G T n m)(g:Gd W G T n E sc N X)(es:av)(k:Nat)(p:Pos):PE X (.Tuple es k p) (bm W G (Ip.run G n) (cE T sc N (m+1) (.Tuple es k p)) E):=by
 simp only[Ip.Fe];by_cases h:es.length<=1000
 .rw[if_pos h]; exact EI (by rw[Gx]; exact h) (ih.args g es)
 .rw[if_neg h]; exact bT
def zW (ih:IH W G T n m)(g:Gd W G T n E sc N X)(o:Expr)(f:Str)(p:Pos):PE X (.Attribute o f p) (bm W G (Ip.run G n) (cE T sc N (m+1) (.Attribute o f p)) E):=by
 simp only[Ip.yc];cases q:pos? f T.att with
 | none=>exact bT
 | some k=>
  by_cases h:(T.fl.contains k&&fH o)=true
  .simp only[h,if_true];rw[tw] at h;exact F6 g.K g.gf.cf (by simpa using h.1) (by rw[g.gf.att]; exact pos?_get q) (ih.e g o) (sH h.2)
  .simp only[h]; exact bT
def DN {i:Expr}(h:∀a b c p,i≠.Slice a b c p):fT i:=by
 intro o v;cases i <;> first | rfl | exact absurd rfl (h _ _ _ _)
def Bj {k:Nat}{p1 p2:Pos}:PE X (.UnaryOp .USub (.Constant (.int 1) k p1) p2) (tC (.int (-1))):=(uQ uO vL).mono λσ H Q h=>⟨_,rfl,h⟩
def xT (hK:W.K=X.K):∀x H Q,rD W G .rev [x] H Q->∃a xs,x=.ref a/\SqL X.K H a xs/\∀p,H p=none->Q (.ref p) (upd H p (.lst xs.reverse)):=by
 rintro x H Q ⟨N,xs,z,hN,hd,hz,hq⟩;simp only[Ip.DR] at hz;obtain⟨v,p,e,rfl,dv,ez⟩:=hd.vs1 (o:=.rev) hz;cases e;obtain⟨ds,e1,e2⟩:=nn ez;rw[e1] at dv;cases dv with | @lst a vs _ h1 h2=>?_
 cases e2;exact⟨a,vs,rfl,by rw[<-hK]; exact .inl (Rd.sub bJ h1),λp hp=>hq _ _ (Res.newL hp h2.rev)⟩
def D5 (ih:IH W G T n m)(g:Gd W G T n E sc N X)(a i:Expr)(p:Pos):PE X (.Subscript a i p) (bm W G (Ip.run G n) (cE T sc N (m+1) (.Subscript a i p)) E):=by
 have ha:=ih.e g a;cases i with
 | Slice lo hi st q=>
  match lo,hi,st with
  | some l,none,none=>
   simp only[kZ];exact (sj (sL g.K) ha (oU (ih.e g l)) vM).mono λσ H Q h=>tY (lo:=λi=>some i) (hi:=λ_=>none) (λu v=>rfl) h
  | none,some l,none=>
   simp only[kZ];exact (sj (sL g.K) ha vM (oU (ih.e g l))).mono λσ H Q h=>tY (lo:=λ_=>none) (hi:=λi=>some i) (λu v=>rfl) h
  | some l,some h,none=>
   simp only[kZ];exact (sj (sL g.K) ha (oU (ih.e g l)) (oU (ih.e g h))).mono λσ H Q h=>El h
  | none,none,none=>exact bT
  | none,none,some st=>
   simp only[kZ];by_cases h1:Ip.ip st=true
   .rw[if_pos h1];obtain⟨k,p1,p2,rfl⟩:=Ip.zE h1;exact (zB ha (Bj)).mono λσ H Q h=>gZ (r:=λx H Q=>∃a xs,x=.ref a/\SqL X.K H a xs/\∀p,H p=none->Q (.ref p) (upd H p (.lst xs.reverse))) (xT g.K) h
   .rw[if_neg h1]; exact bT
  | some _,none,some _=>exact bT
  | none,some _,some _=>exact bT
  | some _,some _,some _=>exact bT
 | _=>
  simp only[kZ];exact (AG (qB g.K) ha (ih.e g _) (DN λ_ _ _ _ z=>by cases z)).mono λσ H Q=>hV λ_ _ _ _ h=>h
def qv (e:Expr):(∃a b c,e=.Set a b c)\/∀(env:Env) (x:Value),foldedSetIterable e env x=pure x:=by
 cases e <;> first | exact .inl ⟨_,_,_,rfl⟩ | exact .inr λ_ _=>rfl
def rG {a:av}{b:Nat}{c:Pos}:(cI T sc N m (.Set a b c)).2=[.bad]:=by
 cases m with
 | zero=>rfl
 | succ m=>cases m <;> rfl
structure CompR (W:Wd)(G:Pg)(n:Nat)(E:St->XK)(X:Cx)(scope:Scope)(N:au)(tg iter elt:Expr)(ifs:av)(t:Tg)(wk:Wk)(it ts:aG)(x:Ex):Prop where
 hS:compOk X.env.scope X.N (be scope) (bn N scope) scope=true
 hi:PI X tg iter (fX W G (Ip.run G n) wk it E)
 hg:∀cl C s H fp,PG (bz X (be scope) scope cl C s H fp λ_ _=>False) tg (gT X.K t)
 ht:∀cl C s H fp,PTs (bz X (be scope) scope cl C s H fp λ_ _=>False) ifs (pZ W G (Ip.run G n) ts)
 he:∀cl C s H fp,PE (bz X (be scope) scope cl C s H fp λ_ _=>False) elt (bm W G (Ip.run G n) x λ_ _ _ _=>False)
 hx:∀i∈cQ t,(bn N scope)[i]? = some none
def qV {tg:Expr}{t:Tg}{wk:Wk}(h1:cu sc N tg=some t)(h2:dP wk t=true):wk=.enum\/wk=.zip->∃es k p,tg=.Tuple es k p:=by
 intro hw;cases tg with
 | Name x p=>
  simp only[Ip.uB] at h1;by_cases hl:bK sc x=true
  .rw[if_pos hl] at h1;obtain⟨i,_,rfl⟩:=cJ h1;rcases hw with rfl | rfl <;> cases h2
  .rw[if_neg hl] at h1; cases h1
 | Tuple es k p=>exact⟨es,k,p,rfl⟩
 | _=>cases h1
def wO (ih:IH W G T n m)(g:Gd W G T n E sc N X){e tg iter:Expr}{ifs:av}{scope:Scope}{t:Tg}(hb:c6 sc N (be scope) (bn N scope) scope=true)(hl:ifs.length<=1)(ht:cu scope (be scope) tg=some t)
  (hw:dP (cI T sc N m iter).1 t=true)(hx:(cQ t).all (λi=>(bn N scope)[i]? == some none)=true) :
  CompR W G n E X scope N tg iter e ifs t (cI T sc N m iter).1 (cI T sc N m iter).2 (ifs.map (cT T scope (be scope) m)) (cE T scope (be scope) m e):=by
 refine⟨g.compOk hb,ih.i g tg iter (qV ht hw),λcl C s H fp=>?_,λcl C s H fp=>?_,λcl C s H fp=>ih.e (g.block hb cl C s H fp) e,λi hi=>?_⟩
 .exact kE (g.block hb cl C s H fp) ht
 .match ifs,hl with
  | [],_=>exact B0
  | [c],_=>exact xW (ih.t (g.block hb cl C s H fp) c)
 .have:=dR hx i hi;simpa using this
def Eh (ih:IH W G T n m)(g:Gd W G T n E sc N X)(e:Expr)(gs:List Comprehension)(scope:Scope)(p:Pos):PE X (.ListComp e gs scope p) (bm W G (Ip.run G n) (cE T sc N (m+1) (.ListComp e gs scope p)) E):=by
 match gs with
 | []=>exact bT
 | ⟨_,_,_,_⟩::_::_=>exact bT
 | [⟨tg,iter,ifs,as⟩]=>
  simp only[Ip.uv];by_cases h:(c6 sc N (be scope) (bn N scope) scope&&as == 0&&decide (ifs.length<=1))=true
  rotate_left
  .rw[if_neg h]; exact bT
  rw[if_pos h];simp only[tw,GC,GV] at h;obtain⟨⟨hb,has⟩,hl⟩:=h;subst has;cases ht:cu scope (be scope) tg with
  | none=>exact bT
  | some t=>
   by_cases h2:(dP (cI T sc N m iter).1 t&&(cQ t).all (λi=>(bn N scope)[i]? == some none))=true
   rotate_left
   .simp only[h2]; exact bT
   simp only[h2,if_true];rw[tw] at h2;rcases qv iter with ⟨a,b,c,rfl⟩ | hs
   .rintro pins s σ H Q I ⟨_,_,_,_,q⟩;rw[kF,rG,bP,eU] at q;exact q.elim
   .have cp:=wO (e:=e) ih g hb hl ht h2.1 h2.2;exact (zo g.calm cp.hS cp.hi cp.hg cp.ht cp.he (hs X.env)).mono λσ H Q=>wA g.K cp.hx
def Ds (ih:IH W G T n m)(g:Gd W G T n E sc N X)(e:Expr):PT X e (b9 W G (Ip.run G n) (cT T sc N (m+1) e) E):=by
 cases e with
 | BoolOp o es p=>
  match es with
  | []=>exact fj
  | [a]=>
   cases o with
   | And=>exact (BP (ih.t g a)).pt
   | Or=>exact (BG (ih.t g a)).pt
  | a::b::es=>
   have hb:∀o,PW X (.BoolOp o (b::es) p) (b9 W G (Ip.run G n) (cT T sc N m (.BoolOp o (b::es) p)) E):=λo whole=>ih.t g (.BoolOp o (b::es) p);cases o with
   | And=>exact (DU (ih.t g a) (hb .And)).pt.mono λσ H Q=>Dg
   | Or=>exact (Gi (ih.t g a) (hb .Or)).pt.mono λσ H Q=>DG
 | UnaryOp o a p=>
  cases o with
  | Not=>exact (C9 (ih.t g a)).mono λσ H Q=>ER
  | _=>exact tF (ih.e g _) λ_=>rfl
 | IfExp c a b p=>exact fj
 | Compare a os bs p=>exact ih.c g a os bs p
 | _=>exact tF (ih.e g _) λ_=>rfl
end
section
variable {W:Wd}{G:Pg}{T:Tb}{n:Nat}{m:Nat}{E:St->XK}{sc:Scope}{N:au}{X:Cx}
def Cc (ih:IH W G T n m)(g:Gd W G T n E sc N X)(f:Str)(args:av)(p pos:Pos)(k:Nat)(hg:bw sc f=true)(hk:T.fns.lookup f=some k)(ns:aP args=true):PE X (.Call (.Name f p) args [] pos) (bm W G (Ip.run G n) (.call k (args.map (cE T sc N m))) E):=by
 obtain⟨hdb,F,a,hF,hm,kp,fd,ps,fo,bd⟩:=g.gf.fns f k hk;cases q:dq G k args.length with
 | none=>
  rintro pins s σ H Q I ⟨_,_,_,_,h⟩;rw[my,Gx,q] at h;exact h.elim
 | some F'=>
  obtain⟨e1,hio,h1,h2⟩:=v7 q;rw[hF] at e1;cases e1;obtain⟨ds,dvs,hb,hv,hd⟩:=bd args.length h1 h2;have fo':FnOk X.prog X.w X.K X.mg X.base (fQ X.prog X.w) (rm n) a fd ps (gn W G n k F):=g.K ▸ fo;have rm1:=g.room.mono (HE (rm n));have q':dq G k (args.map (cE T sc N m)).length=some F:=by rw[Gx]; exact q
  have hd':∀S,Dens W S dvs (cZ F (args.map (cE T sc N m)).length):=by rw[Gx]; exact hd
  match args,ns,q',hd' with
  | [],_,q',hd'=>exact (yy fo' rm1 (g.gl f hg) hm (g.K ▸ kp) (g.K ▸ hb) hv g.pass hdb).mono λσ H Q h=>oK (vE (es:=[]) q' hd' h)
  | e::es,ns,q',hd'=>
   obtain⟨s1,s2⟩:=eD ns;exact (CZ fo' rm1 (g.gl f hg) hm (g.K ▸ kp) (g.K ▸ hb) hv g.pass (ih.args g (e::es)) hdb (dB s1) (o8 s2)).mono λσ H Q=>vE q' hd'
def DK (ih:IH W G T n m)(g:Gd W G T n E sc N X)(f:Str)(args:av)(p pos:Pos)(c:Nat)(hg:bw sc f=true)(hk:T.cls.lookup f=some c)(ns:aP args=true):PE X (.Call (.Name f p) args [] pos) (bm W G (Ip.run G n) (.make c (args.map (cE T sc N m))) E):=by
 obtain⟨hdb,C,hm,hc⟩:=g.gf.cls f c hk;cases q:cz G c args.length with
 | none=>
  rintro pins s σ H Q I ⟨_,_,_,_,h⟩;rw[ny,Gx,q] at h;exact h.elim
 | some t=>
  obtain⟨fi,F,d⟩:=t;obtain⟨Cl',k1,k2,k3,k4,hio,h1,h2,h50⟩:=uk q;obtain⟨a,⟨fd,ps,fo,bd⟩,hx⟩:=hc Cl' fi F k1 k2 k3;obtain⟨ds,dvs,hb,hv,hd⟩:=bd (args.length+1) h1 h2;have fo':FnOk X.prog X.w X.K X.mg X.base (fQ X.prog X.w) (rm n) a fd ps (gn W G n fi F):=g.K ▸ fo;have hd':∀S,Dens W S dvs (cZ F ((args.map (cE T sc N m)).length+1)):=by rw[Gx]; exact hd
  .obtain⟨hxx,iA,mk⟩:=hx;rw[hxx] at k4;subst k4;have q':cz G c (args.map (cE T sc N m)).length=some (fi,F,.ins c []):=by rw[Gx]; exact q
   have mk':Mk X.K C a:=g.K ▸ mk;match args,ns,q',hd' with
   | [],_,q',hd'=>exact (Go mk' fo' g.room (g.gl f hg) hm (g.K ▸ hb) hv g.pass hdb).mono λσ H Q h=>oK (vS (es:=[]) iA q' hd' h)
   | e::es,ns,q',hd'=>
    obtain⟨s1,s2⟩:=eD ns;exact (Ev mk' fo' g.room (g.gl f hg) hm (g.K ▸ hb) hv g.pass (ih.args g (e::es)) hdb (dB s1) (o8 s2)).mono λσ H Q=>vS iA q' hd'
def EC (ih:IH W G T n m)(g:Gd W G T n E sc N X)(o:Expr)(f:Str)(args:av)(ap pos:Pos)(k:Nat)(hk:pos? f T.att=some k)(hs:fH o=true)(ns:aP args=true)(hl:args.length<30)(hp:ap.endLine=pos.line) :
  PE X (.Call (.Attribute o f ap) args [] pos) (bm W G (Ip.run G n) (.meth k (cE T sc N m o) (args.map (cE T sc N m))) E):=by
 rintro pins s σ H Q I ⟨N0,a,hN,hS,h⟩;have ho:=ih.e g o;have arm:=yY (m:=f) (env:=X.env) hs ns hl hp;have hatt:W.att[k]? = some f:=by rw[g.gf.att]; exact pos?_get hk
 cases q:Ip.eval G (Ip.run G n) a (cE T sc N m o) with
 | bad=>rw[jL,q] at h; exact h.elim
 | exc c fs=>
  rw[jL,q] at h;refine Ji (pl:=_) (bi (ho pins s σ H (λ_ _=>False) I ⟨N0,a,hN,hS,by rw[q]; exact h⟩) λu s1 ⟨_,_,_,_,z⟩=>z.elim) arm
 | ok x=>
  obtain⟨kx,d⟩:=x;cases q2:ck G k args.length d with
  | none=>
   rw[jL,q] at h;simp only[Ip.R.bind,Gx,q2] at h
  | some t=>
   obtain⟨fi,F⟩:=t;obtain⟨c,fs,Cl',rfl,k1,k2,k3,hio,hfl,h1,h2⟩:=ub q2;obtain⟨C,ad,hC,hme,fd,ps,fo,bd⟩:=g.gf.meth c Cl' k fi F k1 k2 k3 f hatt;obtain⟨ds,dvs,hb,hv,hd⟩:=bd (args.length+1) h1 h2;have fo':FnOk X.prog X.w X.K X.mg X.base (fQ X.prog X.w) (rm n) ad fd ps (gn W G n fi F):=g.K ▸ fo;have rm1:=g.room.mono (HE (rm n));have cls:Cls X.K C:=g.K ▸ (g.gf.cf.ins c C hC).1.cls;have q3:ck G k (args.map (cE T sc N m)).length (.ins c fs)=some (fi,F):=by rw[Gx]; exact q2
   have hd':∀S,Dens W S dvs (cZ F ((args.map (cE T sc N m)).length+1)):=by rw[Gx]; exact hd
   have key:=DB (E:=E) (Q:=Q) g.gf.cf.nd hatt hC hd' hN hS q q3 h;match args,ns,arm,key with
   | [],_,arm,key=>exact Ai ho cls (g.K ▸ hme) fo' rm1 (g.K ▸ hb) hv g.pass arm pins s σ H Q I (by
     unfold eY at key ⊢;refine evT_mono key λx H1 ⟨a,dx,fs,e1,e2,e3,e4⟩=>⟨a,dx,fs,e1,e2,e3,oK e4⟩)
   | e::es,ns,arm,key=>
    obtain⟨s1,s2⟩:=eD ns;exact F9 ho cls (g.K ▸ hme) fo' rm1 (g.K ▸ hb) hv g.pass (ih.args g (e::es)) (dB s1) (o8 s2) arm pins s σ H Q I key
where
 evT_mono {ir:Ex} {cl:Nat->ax->Ip.Run} {E:St->XK} {σ:St} {H:Hp} {Q Q':VK} (h:bm W G cl ir E σ H Q) (k:∀v H,Q v H->Q' v H):bm W G cl ir E σ H Q':=by
  obtain⟨N,a,hN,hS,h⟩:=h;refine⟨N,a,hN,hS,?_⟩;cases q:Ip.eval G cl a ir with
  | bad=>rw[q] at h; exact h
  | exc c fs=>rw[q] at h; exact h
  | ok x=>rw[q] at h; exact λv H' r=>k v H' (h v H' r)
def Gu {x:Str}{p:Pos}{cl:Nat->ax->Ip.Run}:∀m a c fs,Ip.eval G cl a (cE T sc N m (.Name x p))≠.exc c fs:=by
 intro m a c fs;cases m with
 | zero=>rw[Ip.zZ,eU]; exact λz=>nomatch z
 | succ m=>
  rw[Ip.ua];split
  .unfold pv?;split
   .rw[ko];split <;> exact λz=>nomatch z
   .rw[eU]; exact λz=>nomatch z
  .split
   .split
    .rw[lh]; exact λz=>nomatch z
    .rw[eU]; exact λz=>nomatch z
   .rw[eU]; exact λz=>nomatch z
def rT {e:Expr}{cp:Pos}{env:Env}(ns:aP [e]=true):((backTo cp (starEach [e] env)).all (λx=>!x.1)&&(backToKw cp (keywordEach [] env)).all (λx=>x.1.isSome)
   && decide ([e].length+([]:List Keyword).length+(if ([]:List Keyword).isEmpty then 0 else 1)<30))=true:=by
 rw[oh ns]; rfl
def F0 {e:Expr}(h:Ip.nz e=true){cl:Nat->ax->Ip.Run}:∀m a c fs,Ip.eval G cl a (cE T sc N m e)≠.exc c fs:=by
 cases e with
 | Name x p=>exact Gu
 | _=>cases h
def AF (ih:IH W G T n m)(g:Gd W G T n E sc N X)(o:Expr)(f:Str)(args:av)(ap pos:Pos)(hi:dU f args=true)(hs:fH o=true)(ns:aP args=true)(hp:ap.endLine=pos.line) :
  PE X (.Call (.Attribute o f ap) args [] pos) (bm W G (Ip.run G n) (.op .index ((o::args).map (cE T sc N m))) E):=by
 unfold dU at hi;simp only[tw,GC,List.all_eq_true] at hi;obtain⟨⟨rfl,hl⟩,hn⟩:=hi;obtain⟨a,rfl⟩:=Jd.mp hl;have ha:=hn a (Gz.mpr rfl);obtain⟨s1,s2⟩:=eD ns;have ln:(ap.endLine == pos.line)=true:=by rw[hp]; exact beq_self_eq_true _
 exact (o6 (T := "tuple") (id := "tuple.index") PySem.F.plainAttrs_tuple PySem.F.slot_tuple_index PySem.F.type_tuple_index EY (ih.e g o) (ih.args g [a]) (sH hs) (rT ns) ln (dB s1) rfl).mono λσ H Q h=>Ab g.K (F0 ha m) h
def Gd.bl (g:Gd W G T n E sc N X){x:Str}{v:Value}(h:(x,v)∈ff):X.mg x=none/\bootBuiltins x=some v:=g.gf.blt x v h
def yj (ih:IH W G T n m)(g:Gd W G T n E sc N X)(a:Expr):((∃x p,a=.Starred x p)/\cE T sc N m a=.bad)\/(PA X [a] (ce W G (Ip.run G n) [cE T sc N m a] E)/\starEach [a] X.env=(false,PySem.eval a X.env)::starEach [] X.env):=by
 rcases oF a [] X.env with ⟨x,p,rfl⟩ | h
 .exact .inl ⟨⟨x,p,rfl⟩,pL T sc N m x p⟩
 .exact .inr ⟨ih.args g [a],h⟩
def wx {o:Op}{x:Expr}{es:aG}:PE X x (bm W G (Ip.run G n) (.op o (.bad::es)) E):=λpins s σ H Q I ⟨_,_,_,_,h⟩=>by
 rw[cR,bP,eU] at h;exact h.elim
def Gq (g:Gd W G T n E sc N X){b:Expr}{t:Ip.Ty}(q:gL T sc b=some t):∃c cv,PE X b (tC c)/\valOf c=some cv/\cn W G t cv:=by
 cases b with
 | Name x bp=>
  simp only[gL] at q;by_cases hgx:bw sc x=true
  .rw[if_pos hgx] at q;cases q2:T.cls.lookup x with
   | some c=>
    rw[q2] at q;cases q;obtain⟨hdb,_⟩:=g.gf.cls x c q2;obtain⟨C,hm,hi⟩:=g.gf.isC x c q2;exact⟨.ref C,.ref C,u9 (g.gl x hgx) hm rfl hdb,rfl,hi⟩
   | none=>
    rw[q2] at q;obtain⟨hm,hn,hdb,nm,hb,hi⟩:=g.gf.isB x t q;exact⟨.ty nm,.type nm,yK (g.gl x hgx) hm hb rfl hn hdb,rfl,hi⟩
  .rw[if_neg hgx] at q; cases q
 | _=>cases q
def zm (ih:IH W G T n m)(g:Gd W G T n E sc N X)(f:Str)(args:av)(p pos:Pos)(hg:bw sc f=true):PE X (.Call (.Name f p) args [] pos) (bm W G (Ip.run G n) (cB T sc N (m+1) f args) E):=by
 match args with
 | []=>exact bT
 | _::_::_::_=>exact bT
 | [a]=>
  simp only[Ip.v9];cases qi:Ip.nh sc f a with
  | some ob=>
   obtain⟨o,b⟩:=ob;dsimp only;obtain⟨g',p1,p2,rfl,hg',ns,hc⟩:=Ip.zj qi;obtain⟨s1,_⟩:=eD ns;rcases hc with ⟨rfl,rfl,rfl⟩ | ⟨rfl,rfl,rfl⟩
   .obtain⟨h1,h2⟩:=g.bl (x := "sorted") (v:=.builtin "sorted") (bA 11 rfl);obtain⟨h3,h4⟩:=g.bl (x := "set") (v:=.type "set") (bA 12 rfl);exact (BE g.calm (ih.e g b) (g.gl _ hg) h1 h2 (g.gl _ hg') h3 h4 rfl (dB s1)).mono λσ H Q h=>gZ (AR g.K) h
   .obtain⟨h1,h2⟩:=g.bl (x := "list") (v:=.type "list") (bA 5 rfl);obtain⟨h3,h4⟩:=g.bl (x := "range") (v:=.type "range") (bA 7 rfl);exact (yf g.calm (ih.e g b) (g.gl _ hg) h1 h2 (g.gl _ hg') h3 h4 rfl (dB s1)).mono λσ H Q h=>gZ AL h
  | none=>
  dsimp only;cases q:mo.lookup f with
  | none=>exact bT
  | some o=>
   rcases yj ih g a with ⟨_,hb⟩ | ⟨pa,hs⟩
   .simp only[hb]; exact wx
   have hmem:=uY q;simp only[mo,GO,GL,or_false,Hr] at hmem;rcases hmem with ⟨rfl,rfl⟩ | ⟨rfl,rfl⟩ | ⟨rfl,rfl⟩ | ⟨rfl,rfl⟩ | ⟨rfl,rfl⟩ | ⟨rfl,rfl⟩ | ⟨rfl,rfl⟩
   .obtain⟨h1,h2⟩:=g.bl (x := "len") (v:=.builtin "len") (bA 0 rfl);exact (kR (EH g.K) (g.gl _ hg) h1 h2 pa (by decide) (by decide) hs rfl).mono λσ H Q=>jB
   .obtain⟨h1,h2⟩:=g.bl (x := "list") (v:=.type "list") (bA 5 rfl);exact (qW (Em g.K) (g.gl _ hg) h1 h2 pa (by decide) (by decide) hs rfl).mono λσ H Q=>jB
   .obtain⟨h1,h2⟩:=g.bl (x := "tuple") (v:=.type "tuple") (bA 6 rfl);exact (qW (zI g.K) (g.gl _ hg) h1 h2 pa (by decide) (by decide) hs rfl).mono λσ H Q=>jB
   .obtain⟨h1,h2⟩:=g.bl (x := "all") (v:=.builtin "all") (bA 1 rfl);exact (kR (Am g.calm) (g.gl _ hg) h1 h2 pa (by decide) (by decide) hs rfl).mono λσ H Q=>jB
   .obtain⟨h1,h2⟩:=g.bl (x := "any") (v:=.builtin "any") (bA 2 rfl);exact (kR (BK g.calm) (g.gl _ hg) h1 h2 pa (by decide) (by decide) hs rfl).mono λσ H Q=>jB
   .obtain⟨h1,h2⟩:=g.bl (x := "int") (v:=.type "int") (bA 10 rfl);exact (qW Gh (g.gl _ hg) h1 h2 pa (by decide) (by decide) hs rfl).mono λσ H Q=>jB
   .obtain⟨h1,h2⟩:=g.bl (x := "sorted") (v:=.builtin "sorted") (bA 11 rfl);exact (kR (FC g.K) (g.gl _ hg) h1 h2 pa (by decide) (by decide) hs rfl).mono λσ H Q=>jB
 | [a,b]=>
  simp only[Ip.v9];by_cases hf:(f == ("isinstance" : Str))=true
  rotate_left
  .rw[if_neg hf];by_cases hf2:(f == ("max" : Str)&&aP [a,b])=true
   rotate_left
   .rw[if_neg hf2]; exact bT
   rw[if_pos hf2];rw[tw] at hf2;have hf':f = "max":=by simpa using hf2.1
   subst hf';obtain⟨s1,s2⟩:=eD hf2.2;obtain⟨s3,_⟩:=eD s2;obtain⟨h1,h2⟩:=g.bl (x := "max") (v:=.builtin "max") (bA 4 rfl);exact (kR (FO g.calm) (g.gl _ hg) h1 h2 (ih.args g [a,b]) (by decide) (by decide) (dB s1) (by rw[dB s3]; rfl)).mono λσ H Q=>zp
  rw[if_pos hf];have hf':f = "isinstance":=by simpa using hf
  subst hf';cases q:dX T sc b with
  | none=>exact bT
  | some ts=>
   rcases oF a [b] X.env with ⟨x,p',rfl⟩ | hs1
   .simp only[pL]; exact wx
   obtain⟨h1,h2⟩:=g.bl (x := "isinstance") (v:=.builtin "isinstance") (bA 3 rfl);cases b with
   | Name x bp=>
    simp only[dX] at q;obtain⟨t,q',rfl⟩:=cJ q;obtain⟨c,cv,he,hc,hi⟩:=Gq g q';exact yM g.K g.gf.cf hc hi (g.gl _ hg) h1 h2 (ih.e g a) he hs1 rfl
   | _=>simp[dX,gL] at q
def DQ (ih:IH W G T n m)(g:Gd W G T n E sc N X)(tg x:Expr)(ht:(cI T sc N (m+1) x).1=.enum\/(cI T sc N (m+1) x).1=.zip->∃es k p,tg=.Tuple es k p):PI X tg x (fX W G (Ip.run G n) (cI T sc N (m+1) x).1 (cI T sc N (m+1) x).2 E):=by
 have gen:∀y,PI X tg y (fX W G (Ip.run G n) .seq [cE T sc N m y] E):=λy=>EW g.K (ih.e g y);cases x with
 | Call f args kws q=>
  cases f with
  | Name f p=>
   cases kws with
   | cons _ _=>exact gen _
   | nil=>
    simp only[Ip.Ap] at ht ⊢;by_cases h1:(bw sc f&&f == ("range" : Str)&&aP args)=true
    .rw[if_pos h1];simp only[tw,GC] at h1;obtain⟨⟨hg,rfl⟩,ns⟩:=h1;have hm:=(g.bl (x := "range") (v:=.type "range") (bA 7 rfl)).1;match args,ns with
     | [a],ns=>
      obtain⟨s1,_⟩:=eD ns;exact Cg (g.gl _ hg) hm (ih.args g [a]) (dB s1)
     | [a,b],ns=>
      obtain⟨s1,s2⟩:=eD ns;obtain⟨s3,_⟩:=eD s2;exact Dp (g.gl _ hg) hm (ih.args g [a,b]) (by rw[dB s1,dB s3]; rfl) (dB s3)
     | [],_=>exact iZ
     | _::_::_::_,_=>exact iZ
    rw[if_neg h1] at ht ⊢;by_cases h2:(bw sc f&&f == ("enumerate" : Str)&&aP args)=true
    .rw[if_pos h2] at ht ⊢;simp only[tw,GC] at h2;obtain⟨⟨hg,rfl⟩,ns⟩:=h2;obtain⟨hm,hv⟩:=g.bl (x := "enumerate") (v:=.type "enumerate") (bA 8 rfl);match args,ns,ht with
     | [a],ns,ht=>
      obtain⟨s1,_⟩:=eD ns;obtain⟨es,k,p',rfl⟩:=ht (.inl rfl);exact E2 g.K (g.gl _ hg) hm hv (ih.args g [a]) (dB s1)
     | [],_,_=>exact iZ
     | _::_::_,_,_=>exact iZ
    rw[if_neg h2] at ht ⊢;by_cases h3:(bw sc f&&f == ("zip" : Str)&&aP args)=true
    .rw[if_pos h3] at ht ⊢;simp only[tw,GC] at h3;obtain⟨⟨hg,rfl⟩,ns⟩:=h3;obtain⟨hm,hv⟩:=g.bl (x := "zip") (v:=.type "zip") (bA 9 rfl);match args,ns,ht with
     | [a,b],ns,ht=>
      obtain⟨s1,s2⟩:=eD ns;obtain⟨s3,_⟩:=eD s2;obtain⟨es,k,p',rfl⟩:=ht (.inr rfl);exact Ct g.K (g.gl _ hg) hm hv (ih.args g [a,b]) (by rw[dB s1,dB s3]; rfl) (dB s3)
     | [],_,_=>exact iZ
     | [_],_,_=>exact iZ
     | _::_::_::_,_,_=>exact iZ
    rw[if_neg h3] at ht ⊢;exact gen _
  | _=>exact gen _
 | _=>exact gen _
def Dy (ih:IH W G T n m)(g:Gd W G T n E sc N X)(f:Expr)(args:av)(kws:List Keyword)(p:Pos):PE X (.Call f args kws p) (bm W G (Ip.run G n) (cE T sc N (m+1) (.Call f args kws p)) E):=by
 cases kws with
 | cons _ _=>exact bT
 | nil=>
  cases f with
  | Name f q=>
   simp only[Ip.vN];by_cases hg:bw sc f=true
   rotate_left
   .rw[if_neg hg]; exact bT
   rw[if_pos hg];cases h1:T.fns.lookup f with
   | some k=>
    by_cases ns:aP args=true
    .simp only[ns,if_true]; exact Cc ih g f args q p k hg h1 ns
    .simp only[ns]; exact bT
   | none=>
    cases h2:T.cls.lookup f with
    | some c=>
     by_cases ns:aP args=true
     .simp only[ns,if_true]; exact DK ih g f args q p c hg h2 ns
     .simp only[ns]; exact bT
    | none=>exact ih.b g f args q p hg
  | Attribute o f ap=>
   simp only[Ip.vN];cases h1:pos? f T.att with
   | none=>
    by_cases h:(dU f args&&fH o&&aP args&&ap.endLine == p.line)=true
    .simp only[h,if_true];simp only[tw,GC] at h;obtain⟨⟨⟨a0,a1⟩,a2⟩,a4⟩:=h;exact AF ih g o f args ap p a0 a1 a2 a4
    .simp only[h]; exact bT
   | some k=>
    by_cases h:(fH o&&aP args&&decide (args.length<30)&&ap.endLine == p.line)=true
    .simp only[h,if_true];simp only[tw,GV,GC] at h;obtain⟨⟨⟨a1,a2⟩,a3⟩,a4⟩:=h;exact EC ih g o f args ap p k h1 a1 a2 a3 a4
    .simp only[h]; exact bT
  | _=>exact bT
def Bn (ih:IH W G T n m)(g:Gd W G T n E sc N X)(e:Expr):PE X e (bm W G (Ip.run G n) (cE T sc N (m+1) e) E):=by
 cases e with
 | Name x p=>exact BF g x p
 | Constant c k p=>exact Ao c k p
 | BinOp a o b p=>exact Dr ih g a b o p
 | UnaryOp o a p=>exact rc ih g a o p
 | BoolOp o es p=>exact EA ih g o es p
 | Compare a os bs p=>exact (u0 ih g a os bs p).1
 | List es p=>exact z8 ih g es p
 | Tuple es k p=>exact An ih g es k p
 | Subscript a i p=>exact D5 ih g a i p
 | Attribute o f p=>exact zW ih g o f p
 | ListComp e gs scope p=>exact Eh ih g e gs scope p
 | Call f args kws p=>exact Dy ih g f args kws p
 | _=>exact bT
theorem fe:∀m,IH W G T n m
 | 0=>by
  refine⟨λg x=>?_,λg x=>?_,λg a os bs p=>?_,λg tg x _=>?_,λg f args p pos hg=>?_⟩
  .exact bT
  .exact fj
  .exact fj
  .exact iZ
  .exact bT
 | m+1=>by
  have ih:=fe m;exact⟨λg x=>Bn ih g x,λg x=>Ds ih g x,λg a os bs p=>(u0 ih g a os bs p).2,λg tg x ht=>DQ ih g tg x ht,λg f args p pos hg=>zm ih g f args p pos hg⟩
end
section
variable {G:Pg}{cl:Nat->ax->Ip.Run}
mutual
theorem eQ {a b:Sl}:∀e:Ex,(∀i∈e.names,a[i]? = b[i]?)->Ip.eval G cl a e=Ip.eval G cl b e
 | .var i,h=>by rw[ko,ko,h i (by simp)]
 | .cst d,_=>by rw[lh,lh]
 | .op o es,h=>by rw[cR,cR,zAF es (by simpa using h)]
 | .and x y,h=>by
  simp only[Ex.names,Ha] at h;rw[lX,lX,eQ x λi hi=>h i (.inl hi),eQ y λi hi=>h i (.inr hi)]
 | .or x y,h=>by
  simp only[Ex.names,Ha] at h;rw[mH,mH,eQ x λi hi=>h i (.inl hi),eQ y λi hi=>h i (.inr hi)]
 | .ite c x y,h=>by
  simp only[Ex.names,Ha] at h;rw[Ip.xx,Ip.xx,eQ c λi hi=>h i (.inl hi),eQ x λi hi=>h i (.inr (.inl hi)),eQ y λi hi=>h i (.inr (.inr hi))]
 | .chain o p x y z,h=>by
  simp only[Ex.names,Ha] at h;rw[Ip.rO,Ip.rO,eQ x λi hi=>h i (.inl hi),eQ y λi hi=>h i (.inr (.inl hi)),eQ z λi hi=>h i (.inr (.inr hi))]
 | .sl2 x y z,h=>by
  simp only[Ex.names,Ha] at h;rw[Ip.pe,Ip.pe,eQ x λi hi=>h i (.inl hi),eQ y λi hi=>h i (.inr (.inl hi)),eQ z λi hi=>h i (.inr (.inr hi))]
 | .comp caps tg wk it t e,h=>by
  simp only[Ex.names,Ha] at h;have hc:caps.map (cD a)=caps.map (cD b):=ID λo ho=>by
   cases o with
   | none=>rfl
   | some i=>
    show (a[i]?).join=(b[i]?).join;rw[h i (.inl (IG.mpr ⟨some i,ho,rfl⟩))]
  rw[kF,kF,zAF it λi hi=>h i (.inr hi),hc]
 | .call f es,h=>by rw[my,my,zAF es (by simpa using h)]
 | .make f es,h=>by rw[ny,ny,zAF es (by simpa using h)]
 | .meth m o es,h=>by
  simp only[Ex.names,Ha] at h;rw[jL,jL,eQ o λi hi=>h i (.inl hi),zAF es λi hi=>h i (.inr hi)]
 | .bad,_=>by rw[eU,eU]
theorem zAF {a b:Sl}:∀es:aG,(∀i∈Ex.namess es,a[i]? = b[i]?)->evals G cl a es=evals G cl b es
 | [],_=>by rw[de,de]
 | e::es,h=>by
  simp only[Ex.namess,Ha] at h;rw[bP,bP,eQ e λi hi=>h i (.inl hi),zAF es λi hi=>h i (.inr hi)]
end
end
noncomputable def mask (ns:am)(a:Sl):Sl:=a.mapIdx λi o=>if i∈ns then o else none
def pR {ns:am}{a:Sl}{i:Nat}(h:i∈ns):a[i]? = (mask ns a)[i]?:=by
 unfold mask;rw[Hi];cases a[i]? with
 | none=>rfl
 | some o=>simp[h]
def pX {ns:am}{a:Sl}{i:Nat}{d:D}(h:(mask ns a)[i]? = some (some d)):i∈ns/\a[i]? = some (some d):=by
 unfold mask at h;rw[Hi] at h;cases q:a[i]? with
 | none=>rw[q] at h; cases h
 | some o=>
  rw[q] at h;by_cases hi:i∈ns
  .simp[hi] at h; exact⟨hi,by rw[h]⟩
  .simp[hi] at h
def oG {A:Fr}{i:Nat}{d:D}(h:A.sl[i]? = some (some d)):∃k,A[i]? = some (some (k,d)):=by
 unfold Fr.sl at h;rw[GD] at h;obtain⟨o,h1,h2⟩:=cJ h;obtain⟨x,h3,h4⟩:=cJ h2;obtain⟨k,d'⟩:=x;cases h4;exact⟨k,by rw[h1,h3]⟩
def dJ (W:Wd)(S S':Hp):Prop:=∀a vs,SqT W.K S a vs->SqT W.K S' a vs
mutual
theorem Den.hide {W:Wd}{S S':Hp}(h:dJ W S S'):∀{v d},d.flat=true->Den W S v d->Den W S' v d
 | _,_,_,.non=>.non
 | _,_,_,.bl=>.bl
 | _,_,_,.int=>.int
 | _,_,_,.str=>.str
 | _,_,hf,.tup e q=>.tup (h _ _ e) (q.hide h (by rw[D.flat] at hf; exact hf))
 | _,_,hf,.lst _ _=>by simp at hf
 | _,_,hf,.ins _ _ _=>by simp at hf
 | _,_,hf,.exc _ _ _=>by simp at hf
theorem Dens.hide {W:Wd}{S S':Hp}(h:dJ W S S'):∀{v d},D.flats d=true->Dens W S v d->Dens W S' v d
 | _,_,_,.nil=>.nil
 | _,_,hf,.cons e q=>by
  rw[D.flats,tw] at hf;exact .cons (e.hide h hf.1) (q.hide h hf.2)
end
theorem DenF.hide {W:Wd}{S S':Hp}(h:dJ W S S'):∀{vs ds},(ds.all λp=>p.2.flat)=true->DenF W S vs ds->DenF W S' vs ds
 | _,_,_,.nil=>.nil
 | _,_,hf,.cons e d q=>by
  rw[List.all_cons,tw] at hf;exact .cons e (d.hide h hf.1) (q.hide h hf.2)
theorem Own.hide {W:Wd}{S S' H:Hp}(h:dJ W S S'):∀{k v d fp},D.fb k d=true->Own W S H k v d fp->Own W S' H k v d fp
 | 0,_,_,_,hf,⟨e,o⟩=>⟨e,o.hide h (by rw[D.fb] at hf; exact hf)⟩
 | k+1,_,.lst ds,_,hf,⟨a,vs,fq,e1,e2,e3,e4⟩=>⟨a,vs,fq,e1,e2,e3.re (b:=D.fb k) (λ_ _ _ hb o=>Own.hide h hb o) hf,e4⟩
 | k+1,_,.tup ds,_,hf,⟨a,vs,e1,e2,e3⟩=>⟨a,vs,e1,h _ _ e2,e3.re (b:=D.fb k) (λ_ _ _ hb o=>Own.hide h hb o) hf⟩
 | k+1,_,.ins c ds,_,hf,⟨a,C,dx,fs,fq,e1,e2,e5,e3,e4⟩=>⟨a,C,dx,fs,fq,e1,e2,e5,e3.re (b:=D.fb k) (λ_ _ _ hb o=>Own.hide h hb o) hf,e4⟩
 | k+1,_,.exc c ds,_,hf,_=>by cases hf
 | _+1,_,.non,_,_,⟨e,o⟩=>⟨e,o.hide h rfl⟩
 | _+1,_,.bl _,_,_,⟨e,o⟩=>⟨e,o.hide h rfl⟩
 | _+1,_,.int _,_,_,⟨e,o⟩=>⟨e,o.hide h rfl⟩
 | _+1,_,.str _,_,_,⟨e,o⟩=>⟨e,o.hide h rfl⟩
theorem Own.noTup {W:Wd}{S H:Hp}:∀{k v d fp},Own W S H k v d fp->∀a∈fp,∀vs,¬Rd H a (.tup vs)
 | 0,_,_,_,h,a,z=>by rw[h.1] at z; simp at z
 | k+1,_,.lst ds,_,⟨a,vs,fq,e1,e2,e3,e4⟩,b,z=>by
  rw[e4] at z;rcases cg z with q | q
  .intro ws r;rw[q] at r;rcases r with r | ⟨o,r⟩ <;> rw[e2] at r <;> cases r
  .exact e3.mem (λ_ _ _ y=>Own.noTup y) b q
 | k+1,_,.tup ds,_,⟨a,vs,e1,e2,e3⟩,b,z=>e3.mem (λ_ _ _ y=>Own.noTup y) b z
 | k+1,_,.ins c ds,_,⟨a,C,dx,fs,fq,e1,e2,e5,e3,e4⟩,b,z=>by
  rw[e4] at z;rcases cg z with q | q
  .intro ws r;rw[q] at r;rcases r with r | ⟨o,r⟩ <;> rw[e2] at r <;> cases r
  .exact e3.mem (λ_ _ _ y=>Own.noTup y) b q
 | k+1,_,.exc c ds,_,⟨a,C,dx,fs,fq,e1,e2,e5,e3,e4⟩,b,z=>by
  rw[e4] at z;rcases cg z with q | q
  .intro ws r;rw[q] at r;rcases r with r | ⟨o,r⟩ <;> rw[e2] at r <;> cases r
  .exact e3.mem (λ_ _ _ y=>Own.noTup y) b q
 | _+1,_,.non,_,h,a,z=>by rw[h.1] at z; simp at z
 | _+1,_,.bl _,_,h,a,z=>by rw[h.1] at z; simp at z
 | _+1,_,.int _,_,h,a,z=>by rw[h.1] at z; simp at z
 | _+1,_,.str _,_,h,a,z=>by rw[h.1] at z; simp at z
def aX (N:Addr->Prop)(F:Nat->aq):Addr->Prop:=λb=>N b\/∃j,b∈F j
structure FrF (W:Wd)(E0:Hp)(N:Addr->Prop)(pin:List (Nat×V))(A:Fr)(σ:St)(H:Hp)(F:Nat->aq):Prop where
 sub:Sub E0 H
 nok:NOk N H
 len:σ.length=A.length
 pn:∀p∈pin,σ[p.1]? = some (some p.2)
 nd:∀i,(F i).Nodup
 dj:∀i j b,b∈F i->b∈F j->i=j
 fr:∀i b,b∈F i->E0 b=none/\¬N b
 rel:∀(i:Nat) (x:KD),A[i]? = some (some x)->∃v,σ[i]? = some (some v)/\Own W (hid (aX N F) H) H x.1 v x.2 (F i)
 em:∀(i:Nat),(∀x,A[i]?≠some (some x))->F i=[]
theorem FrF.dom {W:Wd}{E0:Hp}{N:Addr->Prop}{pin:List (Nat×V)}{A:Fr}{σ:St}{H:Hp}{F:Nat->aq}(f:FrF W E0 N pin A σ H F){i:Nat}{b:Addr}(h:b∈F i):H b≠none:=by
 by_cases q:∃x,A[i]? = some (some x)
 .obtain⟨x,e⟩:=q;obtain⟨v,_,o⟩:=f.rel i x e;exact o.dom b h
 .rw[f.em i λx z=>q ⟨x,z⟩] at h; simp at h
theorem FrF.noTup {W:Wd}{E0:Hp}{N:Addr->Prop}{pin:List (Nat×V)}{A:Fr}{σ:St}{H:Hp}{F:Nat->aq}(f:FrF W E0 N pin A σ H F){i:Nat}{b:Addr}(h:b∈F i)(vs:aw):¬Rd H b (.tup vs):=by
 by_cases q:∃x,A[i]? = some (some x)
 .obtain⟨x,e⟩:=q;obtain⟨v,_,o⟩:=f.rel i x e;exact o.noTup b h vs
 .rw[f.em i λx z=>q ⟨x,z⟩] at h; simp at h
def FrF.grow {W:Wd}{E0:Hp}{N:Addr->Prop}{pin:List (Nat×V)}{A:Fr}{σ:St}{H H':Hp}{F:Nat->aq}(f:FrF W E0 N pin A σ H F)(hs:Sub H H'){fp:aq}(hf:∀b∈fp,H b=none/\H' b≠none):FrF W E0 (λb=>N b\/b∈fp) pin A σ H' F where
 sub:=f.sub.trans hs
 nok:=λb z=>z.elim (f.nok.mono hs b) λy=>(hf b y).2
 len:=f.len
 pn:=f.pn
 nd:=f.nd
 dj:=f.dj
 fr:=λi b h=>⟨(f.fr i b h).1,λz=>z.elim (f.fr i b h).2 λy=>f.dom h (hf b y).1⟩
 rel:=λi x e=>by
  obtain⟨v,h1,h2⟩:=f.rel i x e;refine⟨v,h1,h2.mono (gi hs λb z=>?_) λb _ o e=>hs b o e⟩;rcases z with (z | z) | z
  .exact .inl (.inl z)
  .exact .inr (hf b z).1
  .exact .inl (.inr z)
 em:=f.em
def FP {A:Fr}{i j:Nat}:(frz1 A j)[i]? = if i=j then (A[i]?).map (Option.map λx=>(0,x.2)) else A[i]?:=by
 unfold frz1;cases q:A[j]? with
 | none=>
  by_cases z:i=j
  .subst z; simp[q]
  .simp[z]
 | some o=>
  cases o with
  | none=>
   by_cases z:i=j
   .subst z; simp[q]
   .simp[z]
  | some x=>
   obtain⟨k,d⟩:=x;have hl:j<A.length:=(dO q).1;by_cases z:i=j
   .subst z;simp[q,GM hl]
   .simp only[if_neg z];exact GI λy=>z y.symm
theorem oB {i:Nat}:∀{ns:am} {A:Fr},(frz ns A)[i]? = if i∈ns then (A[i]?).map (Option.map λx=>(0,x.2)) else A[i]?
 | [],A=>by simp[frz]
 | n::ns,A=>by
  show (frz ns (frz1 A n))[i]? = _;rw[oB,FP];by_cases h1:i=n
  .subst h1;by_cases h2:i∈ns
   .simp[h2,Function.comp_def]
   .simp[h2]
  .by_cases h2:i∈ns
   .simp[h1,h2]
   .simp[h1,h2]
theorem uw:∀{ns:am} {A:Fr},(frz ns A).length=A.length
 | [],A=>rfl
 | n::ns,A=>by
  show (frz ns (frz1 A n)).length=_;rw[uw];unfold frz1;split
  .exact G3
  .rfl
section
variable {W:Wd}{E0:Hp}{N:Addr->Prop}{pin:List (Nat×V)}{A:Fr}{σ:St}{H:Hp}{F:Nat->aq}
noncomputable def bR (ns:am)(F:Nat->aq):Nat->aq:=λj=>if j∈ns then [] else F j
def ga {ns:am}{j:Nat}{b:Addr}(h:b∈bR ns F j):j∉ns/\b∈F j:=by
 unfold bR at h;by_cases z:j∈ns
 .rw[if_pos z] at h; simp at h
 .rw[if_neg z] at h; exact⟨z,h⟩
def mz {ns:am}{b:Addr}(h:aX N (bR ns F) b):aX N F b:=h.imp id λ⟨j,q⟩=>⟨j,(ga q).2⟩
def FrF.see (f:FrF W E0 N pin A σ H F){ns:am}{i:Nat}(hi:i∈ns){x:KD}(h:A[i]? = some (some x)):∃v,σ[i]? = some (some v)/\Den W (hid (aX N (bR ns F)) H) v x.2:=by
 obtain⟨v,h1,o⟩:=f.rel i x h;refine⟨v,h1,o.den (λb u e=>?_) λb hb u e=>bg.mpr ⟨λz=>?_,e⟩⟩
 .obtain⟨g1,g2⟩:=bg.mp e;exact bg.mpr ⟨λz=>g1 (mz z),g2⟩
 .rcases z with z | ⟨j,z⟩
  .exact (f.fr i b hb).2 z
  .obtain⟨z1,z2⟩:=ga z;exact z1 (f.dj i j b hb z2 ▸ hi)
theorem FrF.frz (f:FrF W E0 N pin A σ H F)(ns:am):FrF W E0 N pin (frz ns A) σ H (bR ns F) where
 sub:=f.sub
 nok:=f.nok
 len:=by rw[uw]; exact f.len
 pn:=f.pn
 nd:=λi=>by
  unfold bR;split
  .exact .nil
  .exact f.nd i
 dj:=λi j b h1 h2=>f.dj i j b (ga h1).2 (ga h2).2
 fr:=λi b h=>f.fr i b (ga h).2
 rel:=λi x e=>by
  rw[oB] at e;by_cases hi:i∈ns
  .rw[if_pos hi] at e;obtain⟨o,e1,e2⟩:=cJ e;obtain⟨y,e3,e4⟩:=cJ e2;rw[e3] at e1;subst e4;obtain⟨v,h1,h2⟩:=f.see hi e1;exact⟨v,h1,by unfold bR; rw[if_pos hi]; exact⟨rfl,h2⟩⟩
  .rw[if_neg hi] at e;obtain⟨v,h1,o⟩:=f.rel i x e;refine⟨v,h1,?_⟩;have:bR ns F i=F i:=by unfold bR; rw[if_neg hi]
   rw[this];exact o.mono (λb u e=>bg.mpr ⟨λz=>(bg.mp e).1 (mz z),(bg.mp e).2⟩) λ_ _ _ e=>e
 em:=λi h=>by
  unfold bR;by_cases hi:i∈ns
  .rw[if_pos hi]
  .rw[if_neg hi];exact f.em i λx z=>h x (by rw[oB,if_neg hi]; exact z)
def FrV (W:Wd)(E0:Hp)(N:Addr->Prop)(pin:List (Nat×V))(A:Fr)(σ:St)(H:Hp)(x:KD)(v:V):Prop:=
 ∃(fp:aq) (F:Nat->aq),FrF W E0 (λb=>N b\/b∈fp) pin A σ H F/\fp.Nodup/\(∀b∈fp,E0 b=none/\¬N b)/\Own W (hid (aX (λb=>N b\/b∈fp) F) H) H x.1 v x.2 fp
def FrX (W:Wd)(E0:Hp)(N:Addr->Prop)(pin:List (Nat×V))(A:Fr)(σ:St)(H:Hp)(c:Nat)(fs:List aJ)(e:Addr):Prop:=
 ∃(F:Nat->aq),FrF W E0 N pin A σ H F/\(E0 e=none/\¬aX N F e)/\∃C vs,H e=some (.exc C false vs)/\W.xA c=some C/\DenF W (hid (aX N F) H) vs fs
def uM (f:FrF W E0 N pin A σ H F){H':Hp}(hs:Sub H H'){M:Addr->Prop}(hM:∀b,aX N F b->M b\/∃j,b∈F j){fp:aq}:dJ W (hid (λb=>M b\/b∈fp) H') (hid (aX (λb=>N b\/b∈fp) F) H'):=by
 intro a vs h;rcases h with h | h
 .refine .inl ?_;have noF:∀j,a∉F j:=λj z=>by
   have h':Rd H' a (.tup vs):=Rd.sub bJ h;cases q:H a with
   | none=>exact f.dom z q
   | some o=>
    have e:=hs a o q;refine f.noTup z vs ?_;rcases h' with h' | ⟨u,h'⟩
    .rw[e] at h'; cases h'; exact .inl q
    .rw[e] at h'; cases h'; exact .inr ⟨u,q⟩
  have vis:∀o,hid (λb=>M b\/b∈fp) H' a=some o->hid (aX (λb=>N b\/b∈fp) F) H' a=some o:=λo e=>by
   obtain⟨g1,g2⟩:=bg.mp e;refine bg.mpr ⟨λz=>?_,g2⟩;rcases z with (z | z) | ⟨j,z⟩
   .rcases hM a (.inl z) with y | ⟨j,y⟩
    .exact g1 (.inl y)
    .exact noF j y
   .exact g1 (.inr z)
   .exact noF j z
  rcases h with h | ⟨u,h⟩
  .exact .inl (vis _ h)
  .exact .inr ⟨u,vis _ h⟩
 .exact .inr h
def rM (A:Fr):ii A=frz (List.range A.length) A:=by
 apply Hz;intro i;rw[oB];unfold ii;rw[GD];by_cases h:i<A.length
 .rw[if_pos (GS.mpr h)]
 .rw[if_neg λz=>h (GS.mp z),G0 (by omega)];rfl
def FrF.excIn {ns:am}{c:Nat}{fs:List aJ}{a:Addr}{H':Hp}(f:FrF W E0 N pin A σ H F)(r:ExcR W H (aX N (bR ns F)) H' c fs a):FrX W E0 N pin (fD A fs) σ H' c fs a:=by
 obtain⟨hs,ha,C,vs,hc,hx,hd⟩:=r;have nhid:¬aX N F a:=λz=>z.elim (λy=>f.nok a y ha) λ⟨j,y⟩=>f.dom y ha;have g:=f.grow hs (fp:=[]) λb z=>by simp at z
 have eN:∀b,(N b\/b∈([]:aq))↔N b:=λb=>by simp
 have g0:FrF W E0 N pin A σ H' F:=by
  have:(λb=>N b\/b∈([]:aq))=N:=funext λb=>propext (eN b);rw[this] at g; exact g
 unfold fD;by_cases hf:(fs.all λp=>p.2.flat)=true
 .rw[if_pos hf];refine⟨F,g0,⟨f.sub.none ha,nhid⟩,C,vs,hc,hx,?_⟩;have ts:=uM (M:=aX N (bR ns F)) (fp:=[]) f hs (λb z=>z.elim (λy=>.inl (.inl y)) .inr);have e1:(λb=>aX N (bR ns F) b\/b∈([]:aq))=aX N (bR ns F):=funext λb=>propext (by simp);have e2:(λb=>N b\/b∈([]:aq))=N:=funext λb=>propext (eN b);rw[e1,e2] at ts;exact hd.hide ts hf
 .rw[if_neg hf,rM];refine⟨bR (List.range A.length) F,g0.frz _,⟨f.sub.none ha,λz=>nhid (mz z)⟩,C,vs,hc,hx,hd.mono λb u e=>?_⟩;obtain⟨g1,g2⟩:=bg.mp e;refine bg.mpr ⟨λz=>g1 ?_,g2⟩;rcases z with z | ⟨j,z⟩
  .exact .inl z
  .obtain⟨z1,z2⟩:=ga z;exfalso;have:∃x,A[j]? = some (some x):=by
    by_cases y:∃x,A[j]? = some (some x)
    .exact y
    .rw[f.em j λx w=>y ⟨x,w⟩] at z2; simp at z2
   obtain⟨x,hx⟩:=this;exact z1 (GS.mpr (dO hx).1)
theorem iM {G:Pg}{cl:Nat->ax->Ip.Run}{E:St->XK}{Q:VK}{e:Ex}(f:FrF W E0 N pin A σ H F)(h:match Ip.eval G cl A.sl e with
  | .ok x=>∀v H',FrV W E0 N pin (Ip.settle e.names A x) σ H' x v->Q v H'
  | .exc c fs=>∀a H',FrX W E0 N pin (fD A fs) σ H' c fs a->E σ (.ref a) none H'
  | .bad=>False):bm W G cl e E σ H Q:=by
 have f1:=f.frz e.names;have hN:NOk (aX N (bR e.names F)) H:=λb z=>z.elim (f.nok b) λ⟨j,q⟩=>f1.dom q;refine⟨aX N (bR e.names F),mask e.names A.sl,hN,λi d hi=>?_,?_⟩
 .obtain⟨h1,h2⟩:=pX hi;obtain⟨k,h3⟩:=oG h2;exact f.see h1 h3
 rw[<-eQ (a:=A.sl) e λi hi=>pR hi];cases q:Ip.eval G cl A.sl e with
 | bad=>rw[q] at h; exact h
 | exc c fs=>
  rw[q] at h;exact λa H' r=>h a H' (f.excIn r)
 | ok x=>
  rw[q] at h;rintro v H' ⟨hs,fp,nd,hf,o⟩;refine h v H' ⟨fp,?_⟩;have hfp:∀b∈fp,H b=none/\H' b≠none:=λb hb=>⟨hf b hb,o.dom b hb⟩
  have fr:∀b∈fp,E0 b=none/\¬N b:=λb hb=>⟨f.sub.none (hf b hb),λz=>f.nok b z (hf b hb)⟩
  unfold Ip.settle;by_cases hb:D.fb x.1 x.2=true
  .rw[if_pos hb];exact⟨F,f.grow hs hfp,nd,fr,o.hide (uM f hs λb z=>z.elim (λy=>.inl (.inl y)) .inr) hb⟩
  .rw[if_neg hb];refine⟨bR e.names F,f1.grow hs hfp,nd,fr,o.mono (λb u e=>?_) λ_ _ _ e=>e⟩;obtain⟨g1,g2⟩:=bg.mp e;refine bg.mpr ⟨λz=>g1 ?_,g2⟩;rcases z with (z | z) | z
   .exact .inl (.inl z)
   .exact .inr z
   .exact .inl (.inr z)
end
end L2
end
section
namespace L2
open PySem PySem.Spec PyProof.Rows
open Ip (D KD Ex Op Pg Fn Sl Fr Wk Tg Tb O SL dA bv cE cF cI cS cT bG eU bP de iG fin fN fG kB frz bw bK cm bj oi aZ iu br dS dG aP bt aU outs ownL md pos? pos?_get ps? cH setFs cu kq kv iz cX c7 dP)
noncomputable def PostS (W:Wd)(E0:Hp)(N:Addr->Prop)(pin:List (Nat×V))(E:St->XK)(Dn:Ends):O->Prop
 | .nx A=>∀σ H F,FrF W E0 N pin A σ H F->Dn.nx σ H
 | .ret k d A=>∀v σ H,FrV W E0 N pin A σ H (k,d) v->Dn.rt v H
 | .brk A=>∀σ H F,FrF W E0 N pin A σ H F->Dn.bk σ H
 | .cnt A=>∀σ H F,FrF W E0 N pin A σ H F->Dn.ct σ H
 | .exc c fs A=>∀e σ H,FrX W E0 N pin A σ H c fs e->E σ (.ref e) none H
 | .bad=>False
def bX (W:Wd)(G:Pg)(n:Nat)(io:am)(E:St->XK)(s:Ip.S):TS:=λDn σ H=>∃(E0:Hp) (N:Addr->Prop) (pin:List (Nat×V)) (A:Fr) (F:Nat->aq),(∀p∈pin,p.1∈io)/\FrF W E0 N pin A σ H F/\PostS W E0 N pin E Dn (Ip.exec G (Ip.run G n) io A s)
def dQ (W:Wd)(G:Pg)(n:Nat)(io:am)(E:St->XK)(ss:List Ip.S):TS:=λDn σ H=>∃(E0:Hp) (N:Addr->Prop) (pin:List (Nat×V)) (A:Fr) (F:Nat->aq),(∀p∈pin,p.1∈io)/\FrF W E0 N pin A σ H F/\PostS W E0 N pin E Dn (Ip.execs G (Ip.run G n) io A ss)
section
variable {X:Cx}{W:Wd}{G:Pg}{n:Nat}{io:am}{E:St->XK}{E0:Hp}{N:Addr->Prop}{pin:List (Nat×V)}{A:Fr}{σ:St}{H:Hp}{F:Nat->aq}
def c9 {st:Stmt}:PS X st (bX W G n io E .bad):=λpins s σ H Dn I ⟨_,_,_,_,_,_,_,h⟩=>by
 rw[Ip.CO] at h; exact h.elim
def AA:PSs X [] (dQ W G n io E []):=EM.mono λDn σ H ⟨_,_,_,_,_,_,f,h⟩=>by
 rw[Ip.qK] at h;exact h _ _ _ f
def zg {st:Stmt}{sts:aH}{s:Ip.S}{ss:List Ip.S}(h1:PS X st (bX W G n io E s))(h2:PSs X sts (dQ W G n io E ss)):PSs X (st::sts) (dQ W G n io E (s::ss)):=
 (Gk h1 h2).mono λDn σ H ⟨E0,N,pin,A,F,hp,f,h⟩=>by
  refine⟨E0,N,pin,A,F,hp,f,?_⟩;rw[Ip.ji] at h;cases q:Ip.exec G (Ip.run G n) io A s with
  | nx A'=>
   rw[q] at h;exact λσ' H' F' f'=>⟨E0,N,pin,A',F',hp,f',h⟩
  | ret k d A'=>rw[q] at h; exact h
  | brk A'=>rw[q] at h; exact h
  | cnt A'=>rw[q] at h; exact h
  | exc c fs A'=>rw[q] at h; exact h
  | bad=>rw[q] at h; exact h
theorem FrV.set {x:KD}{v:V}{i:Nat}(f:FrV W E0 N pin A σ H x v)(hi:∀p∈pin,p.1≠i)(hl:i<A.length):∃F,FrF W E0 N pin (A.set i (some x)) (σ.set i (some v)) H F:=by
 obtain⟨fp,F,f,nd,fr,o⟩:=f;have hlt:i < σ.length:=by rw[f.len]; exact hl
 refine⟨λj=>if j=i then fp else F j,⟨f.sub,λb z=>f.nok b (.inl z),by rw[G3,G3]; exact f.len,λp hp=>by rw[GI λz=>hi p hp z.symm]; exact f.pn p hp,λj=>?_,λj k b h1 h2=>?_,λj b h=>?_,λj y h=>?_,λj h=>?_⟩⟩
 .by_cases z:j=i
  .rw[if_pos z]; exact nd
  .rw[if_neg z]; exact f.nd j
 .by_cases z:j=i
  .rw[if_pos z] at h1;by_cases y:k=i
   .rw[z,y]
   .rw[if_neg y] at h2;exact absurd (.inr h1) (f.fr k b h2).2
  .rw[if_neg z] at h1;by_cases y:k=i
   .rw[if_pos y] at h2;exact absurd (.inr h2) (f.fr j b h1).2
   .rw[if_neg y] at h2;exact f.dj j k b h1 h2
 .by_cases z:j=i
  .rw[if_pos z] at h; exact fr b h
  .rw[if_neg z] at h;exact⟨(f.fr j b h).1,λy=>(f.fr j b h).2 (.inl y)⟩
 .have sub:Sub (hid (aX (λb=>N b\/b∈fp) F) H) (hid (aX N λj=>if j=i then fp else F j) H):=λb u e=>by
   obtain⟨g1,g2⟩:=bg.mp e;refine bg.mpr ⟨λz=>g1 ?_,g2⟩;rcases z with z | ⟨k,z⟩
   .exact .inl (.inl z)
   .by_cases y:k=i
    .simp only[if_pos y] at z; exact .inl (.inr z)
    .simp only[if_neg y] at z; exact .inr ⟨k,z⟩
  by_cases z:j=i
  .subst z;rw[GM hl] at h;cases h;refine⟨v,GM hlt,?_⟩;simp only[if_true];exact o.mono sub λ_ _ _ e=>e
  .rw[GI λy=>z y.symm] at h;obtain⟨w,h1,h2⟩:=f.rel j y h;refine⟨w,by rw[GI λy=>z y.symm]; exact h1,?_⟩;simp only[if_neg z];exact h2.mono sub λ_ _ _ e=>e
 .by_cases z:j=i
  .subst z;exact absurd (GM hl) (h x)
  .simp only[if_neg z];exact f.em j λy w=>h y (by rw[GI λy=>z y.symm]; exact w)
def FrF.weaken {E1:Hp}(f:FrF W E1 N pin A σ H F)(h:Sub E0 E1):FrF W E0 N pin A σ H F:=
 ⟨h.trans f.sub,f.nok,f.len,f.pn,f.nd,f.dj,λi b hb=>⟨h.none (f.fr i b hb).1,(f.fr i b hb).2⟩,f.rel,f.em⟩
def PostS.strong {E1:Hp}{Dn:Ends}{o:O}(h:Sub E0 E1)(p:PostS W E0 N pin E Dn o):PostS W E1 N pin E Dn o:=by
 cases o with
 | nx A=>exact λσ H F f=>p σ H F (f.weaken h)
 | ret k d A=>exact λv σ H ⟨fp,F,f,nd,fr,o⟩=>p v σ H ⟨fp,F,f.weaken h,nd,λb hb=>⟨h.none (fr b hb).1,(fr b hb).2⟩,o⟩
 | brk A=>exact λσ H F f=>p σ H F (f.weaken h)
 | cnt A=>exact λσ H F f=>p σ H F (f.weaken h)
 | exc c fs A=>exact λe σ H ⟨F,f,he,q⟩=>p e σ H ⟨F,f.weaken h,⟨h.none he.1,he.2⟩,q⟩
 | bad=>exact p
def oX {Q:VK}{e:Ex}{Dn:Ends}{k:KD->O}(f:FrF W E0 N pin A σ H F)(h:PostS W E0 N pin E Dn ((Ip.eval G (Ip.run G n) A.sl e).toO A k))
  (ok:∀x,Ip.eval G (Ip.run G n) A.sl e=.ok x->PostS W E0 N pin E Dn (k x)->∀v H',FrV W E0 N pin (Ip.settle e.names A x) σ H' x v->Q v H'):bm W G (Ip.run G n) e E σ H Q:=by
 refine iM f ?_;cases q:Ip.eval G (Ip.run G n) A.sl e with
 | bad=>rw[q] at h; exact h
 | exc c fs=>rw[q] at h; exact λa H' x=>h a σ H' x
 | ok x=>rw[q] at h; exact ok x q h
def td {e:Ex}{i:Nat}{Dn:Ends}(h:bX W G n io E (.set i e) Dn σ H):bm W G (Ip.run G n) e E σ H λv H1=>Dn.nx (σ.set i (some v)) H1:=by
 obtain⟨E0,N,pin,A,F,hp,f,h⟩:=h;rw[Ip.la] at h;refine oX f h λx ex hk v H' fv=>?_;unfold cH at hk;by_cases c:io.contains i=false/\i<(Ip.settle e.names A x).length
 .rw[if_pos c] at hk;obtain⟨F',f'⟩:=fv.set (λp hp' z=>by have:=hp p hp'; rw[z] at this; have c1:=c.1; simp[this] at c1) c.2;exact hk _ _ _ f'
 .rw[if_neg c] at hk; exact hk.elim
def FrV.drop {x:KD}{v:V}(h:FrV W E0 N pin A σ H x v):∃F,FrF W E0 N pin A σ H F/\Den W (hid (aX N F) H) v x.2:=by
 obtain⟨fp,F',f',nd,fr,o⟩:=h;refine⟨F',⟨f'.sub,λb z=>f'.nok b (.inl z),f'.len,f'.pn,f'.nd,f'.dj,λi b hb=>⟨(f'.fr i b hb).1,λz=>(f'.fr i b hb).2 (.inl z)⟩,λi y hy=>?_,f'.em⟩,?_⟩
 .obtain⟨w,h1,h2⟩:=f'.rel i y hy;refine⟨w,h1,h2.mono (λb u e=>?_) λ_ _ _ e=>e⟩;obtain⟨g1,g2⟩:=bg.mp e;exact bg.mpr ⟨λz=>g1 (z.imp .inl id),g2⟩
 .refine o.den (λb u e=>?_) λb hb u e=>bg.mpr ⟨λz=>?_,e⟩
  .obtain⟨g1,g2⟩:=bg.mp e;exact bg.mpr ⟨λz=>g1 (z.imp .inl id),g2⟩
  .rcases z with z | ⟨j,z⟩
   .exact (fr b hb).2 z
   .exact (f'.fr j b z).2 (.inr hb)
def qG {e:Ex}{Dn:Ends}(h:bX W G n io E (.ex e) Dn σ H):bm W G (Ip.run G n) e E σ H λv H1=>Dn.nx σ H1:=by
 obtain⟨E0,N,pin,A,F,hp,f,h⟩:=h;rw[Ip.rC] at h;refine oX f h λx ex hk v H' fv=>?_;obtain⟨F',f',_⟩:=fv.drop;exact hk σ H' F' f'
def tU {e:Ex}{Dn:Ends}(hv:∀i,e≠.var i)(h:bX W G n io E (.ret e) Dn σ H):bm W G (Ip.run G n) e E σ H Dn.rt:=by
 obtain⟨E0,N,pin,A,F,hp,f,h⟩:=h;rw[Ip.lL] at h;have e1:Ip.cr A e (Ip.eval G (Ip.run G n) A.sl e)=(Ip.eval G (Ip.run G n) A.sl e).toO A λx=>.ret x.1 x.2 (Ip.settle e.names A x):=by
  cases e <;> first | rfl | exact absurd rfl (hv _)
 rw[e1] at h;exact oX f h λx ex hk v H' fv=>hk v σ H' fv
def FrF.moved {i:Nat}{x:KD}(f:FrF W E0 N pin A σ H F)(q:A[i]? = some (some x)):∃v,σ[i]? = some (some v)/\FrV W E0 N pin (A.set i none) σ H x v:=by
 obtain⟨v,hv,ow⟩:=f.rel i x q;have hl:i<A.length:=(dO q).1;have eqH:∀b,aX (λb=>N b\/b∈F i) (bR [i] F) b↔aX N F b:=λb=>by
  constructor
  .intro z;rcases z with (z | z) | ⟨j,z⟩
   .exact .inl z
   .exact .inr ⟨i,z⟩
   .exact .inr ⟨j,(ga z).2⟩
  .intro z;rcases z with z | ⟨j,z⟩
   .exact .inl (.inl z)
   .by_cases y:j=i
    .rw[y] at z; exact .inl (.inr z)
    .exact .inr ⟨j,by unfold bR; rw[if_neg (by simpa using y)]; exact z⟩
 have eqF:aX (λb=>N b\/b∈F i) (bR [i] F)=aX N F:=funext λb=>propext (eqH b);refine⟨v,hv,⟨F i,bR [i] F,?_,f.nd i,λb hb=>f.fr i b hb,by rw[eqF]; exact ow⟩⟩;refine⟨f.sub,λb z=>z.elim (f.nok b) λy=>f.dom y,by rw[G3]; exact f.len,f.pn,λj=>?_,λj k b h1 h2=>f.dj j k b (ga h1).2 (ga h2).2,λj b hb=>?_,λj y hy=>?_,λj hj=>?_⟩
 .unfold bR;split
  .exact .nil
  .exact f.nd j
 .obtain⟨z1,z2⟩:=ga hb;refine⟨(f.fr j b z2).1,λz=>z.elim (f.fr j b z2).2 λy=>z1 ?_⟩;rw[f.dj j i b z2 y]; simp
 .by_cases z:j=i
  .subst z;rw[GM hl] at hy; cases hy
  .rw[GI λy=>z y.symm] at hy;obtain⟨w,h1,h2⟩:=f.rel j y hy;refine⟨w,h1,?_⟩;have:bR [i] F j=F j:=by unfold bR; rw[if_neg (by simpa using z)]
   rw[this,eqF];exact h2
 .unfold bR;by_cases z:j=i
  .rw[if_pos (by simpa using z)]
  .rw[if_neg (by simpa using z)];exact f.em j λy w=>hj y (by rw[GI λy=>z y.symm]; exact w)
def CM {i:Nat}{Dn:Ends}(h:bX W G n io E (.ret (.var i)) Dn σ H):∃v,σ[i]? = some (some v)/\Dn.rt v H:=by
 obtain⟨E0,N,pin,A,F,hp,f,h⟩:=h;rw[Ip.lL,Ip.wJ] at h;cases q:A[i]? with
 | none=>rw[q] at h; exact h.elim
 | some o=>
  cases o with
  | none=>rw[q] at h; exact h.elim
  | some x=>
   rw[q] at h;obtain⟨v,hv,fv⟩:=f.moved q;exact⟨v,hv,h v σ H fv⟩
def yr {s:Str}{i:Nat}{Dn:Ends}(h:bX W G n io E (.retP s i) Dn σ H):nu (nB (bZ (tC (.str s)) (bZ (cW i) dI))) Dn σ H:=by
 obtain⟨E0,N,pin,A,F,hp,f,h⟩:=h;rw[Ip.xa] at h;cases q:A[i]? with
 | none=>rw[q] at h; exact h.elim
 | some o=>
  cases o with
  | none=>rw[q] at h; exact h.elim
  | some x=>
   rw[q] at h;obtain⟨v,hv,fp,F',f',nd,fr,ow⟩:=f.moved q;refine⟨v,hv,bH (show 2<=2 from bC _) (by decide),λp hp'=>?_⟩;have sub:Sub H (upd H p (.tup [.str s,v])):=Sub.upd hp';have g:=f'.grow sub (fp:=[]) λb z=>by simp at z
   have eN:(λb=>(N b\/b∈fp)\/b∈([]:aq))=λb=>N b\/b∈fp:=funext λb=>propext (by simp);rw[eN] at g;have pn:¬aX (λb=>N b\/b∈fp) F' p:=λz=>z.elim (λy=>f'.nok p y hp') λ⟨j,y⟩=>f'.dom y hp';refine h _ σ _ ⟨fp,F',g,nd,fr,p,[.str s,v],rfl,SqT.of (bg.mpr ⟨pn,cM⟩),?_⟩;have o2:Own W (hid (aX (λb=>N b\/b∈fp) F') (upd H p (.tup [.str s,v]))) (upd H p (.tup [.str s,v])) x.1 v x.2 fp:=ow.mono (gi sub λ_ z=>.inl z) λb _ u e=>sub b u e;have:=OwnL.cons (f:=[]) (Own.flat (k:=x.1) (H:=upd H p (.tup [.str s,v])) (d:=.str s) rfl (.str (S:=hid (aX (λb=>N b\/b∈fp) F') (upd H p (.tup [.str s,v]))))) (OwnL.cons o2 .nil);simpa using this
def wj {Q:Bool->Hp->Prop}{e:Ex}{Dn:Ends}{k:Bool->O}(f:FrF W E0 N pin A σ H F)(h:PostS W E0 N pin E Dn (((Ip.eval G (Ip.run G n) A.sl e).bl).toO A k))
  (ok:∀b,PostS W E0 N pin E Dn (k b)->∀H',FrF W E0 N pin A σ H' F->Q b H'):b9 W G (Ip.run G n) e E σ H Q:=by
 have f1:=f.frz e.names;have hN:NOk (aX N (bR e.names F)) H:=λb z=>z.elim (f.nok b) λ⟨j,q⟩=>f1.dom q;have grow0:∀H',Sub H H'->FrF W E0 N pin A σ H' F:=λH' hs=>by
  have g:=f.grow hs (fp:=[]) λb z=>by simp at z
  have:(λb=>N b\/b∈([]:aq))=N:=funext λb=>propext (by simp);rw[this] at g; exact g
 refine⟨aX N (bR e.names F),mask e.names A.sl,hN,λi d hi=>?_,?_⟩
 .obtain⟨h1,h2⟩:=pX hi;obtain⟨k,h3⟩:=oG h2;exact f.see h1 h3
 rw[<-eQ (a:=A.sl) e λi hi=>pR hi];cases q:Ip.eval G (Ip.run G n) A.sl e with
 | bad=>rw[q] at h; exact h
 | exc c fs=>
  rw[q] at h;exact λa H' r=>h a σ H' (f.excIn r)
 | ok x=>
  obtain⟨kx,d⟩:=x;rw[q] at h;cases d <;> try (exact h.elim)
  rename_i b;exact λH' hs=>ok b h H' (grow0 H' hs)
end
section
variable {X:Cx}{W:Wd}{G:Pg}{n:Nat}{io:am}{E:St->XK}{E0:Hp}{N:Addr->Prop}{pin:List (Nat×V)}{A:Fr}{σ:St}{H:Hp}{F:Nat->aq}
def Es {c:Ex}{t e:List Ip.S}{Dn:Ends}(h:bX W G n io E (.iff c t e) Dn σ H):kr (b9 W G (Ip.run G n) c E) (dQ W G n io E t) (dQ W G n io E e) Dn σ H:=by
 obtain⟨E0,N,pin,A,F,hp,f,h⟩:=h;rw[Ip.xu] at h;unfold kr;refine wj f h λb hk H' f'=>?_;cases b with
 | true=>rw[if_pos rfl] at hk ⊢; exact⟨E0,N,pin,A,F,hp,f',hk⟩
 | false=>rw[if_neg (by decide)] at hk ⊢; exact⟨E0,N,pin,A,F,hp,f',hk⟩
theorem yW {test:Fr->Ip.R Bool}{body:Fr->O}{m:Nat}{A:Fr}:cX test body (m+1) A=(test A).toO A λb=>if b=true then (match body A with
  | .nx A=>cX test body m A
  | .cnt A=>cX test body m A
  | .brk A=>.nx A
  | o=>o) else .nx A:=by
 rw[cX];cases test A with
 | ok b=>cases b <;> rfl
 | exc c fs=>rfl
 | bad=>rfl
def Bi {c:Ex}{b:List Ip.S}{Dn:Ends}(h:bX W G n io E (.whl c b) Dn σ H):ft (b9 W G (Ip.run G n) c E) (dQ W G n io E b) Dn σ H:=by
 obtain⟨E0,N,pin,A,F,hp,f,h⟩:=h;rw[Ip.vW] at h;unfold ft;refine⟨λm σ H=>∃A F,FrF W E0 N pin A σ H F/\PostS W E0 N pin E Dn (cX (iz G (Ip.run G n) c) (kv G (Ip.run G n) io b) m A),⟨10000,A,F,f,h⟩,?_⟩;rintro m σ1 H1 ⟨A1,F1,f1,h1⟩;cases m with
 | zero=>exact h1.elim
 | succ m=>
  rw[yW] at h1;refine wj f1 h1 λbb hk H' f'=>?_;cases bb with
  | false=>rw[if_neg (by decide)] at hk ⊢; exact hk _ _ _ f'
  | true=>
   rw[if_pos rfl] at hk ⊢;refine⟨λσ H=>∃A F,FrF W E0 N pin A σ H F/\PostS W E0 N pin E Dn (cX (iz G (Ip.run G n) c) (kv G (Ip.run G n) io b) m A),λσ' H' ⟨A',F',f',p'⟩=>⟨m,HF _,A',F',f',p'⟩,E0,N,pin,A1,F1,hp,f',?_⟩;have qe:kv G (Ip.run G n) io b A1=Ip.execs G (Ip.run G n) io A1 b:=rfl;rw[qe] at hk;cases q:Ip.execs G (Ip.run G n) io A1 b with
   | nx A'=>rw[q] at hk; exact λσ H F f=>⟨A',F,f,hk⟩
   | cnt A'=>rw[q] at hk; exact λσ H F f=>⟨A',F,f,hk⟩
   | brk A'=>rw[q] at hk; exact λσ H F f=>hk σ H F f
   | ret k d A'=>rw[q] at hk; exact hk
   | exc c fs A'=>rw[q] at hk; exact hk
   | bad=>rw[q] at hk; exact hk
def FrF.set0 {v:V}{d:D}{i:Nat}(f:FrF W E0 N pin A σ H F)(hd:Den W (hid (aX N F) H) v d)(hi:∀p∈pin,p.1≠i)(hl:i<A.length):FrF W E0 N pin (A.set i (some (0,d))) (σ.set i (some v)) H (bR [i] F):=by
 have hlt:i < σ.length:=by rw[f.len]; exact hl
 refine⟨f.sub,f.nok,by rw[G3,G3]; exact f.len,λp hp=>by rw[GI λz=>hi p hp z.symm]; exact f.pn p hp,λj=>?_,λj k b h1 h2=>f.dj j k b (ga h1).2 (ga h2).2,λj b hb=>f.fr j b (ga hb).2,λj y hy=>?_,λj hj=>?_⟩
 .unfold bR;split
  .exact .nil
  .exact f.nd j
 .have sub:Sub (hid (aX N F) H) (hid (aX N (bR [i] F)) H):=λb u e=>bg.mpr ⟨λz=>(bg.mp e).1 (mz z),(bg.mp e).2⟩;by_cases z:j=i
  .subst z;rw[GM hl] at hy;cases hy;refine⟨v,GM hlt,?_⟩;unfold bR;rw[if_pos (by simp)];exact⟨rfl,hd.mono sub⟩
  .rw[GI λy=>z y.symm] at hy;obtain⟨w,h1,h2⟩:=f.rel j y hy;refine⟨w,by rw[GI λy=>z y.symm]; exact h1,?_⟩;have:bR [i] F j=F j:=by unfold bR; rw[if_neg (by simpa using z)]
   rw[this];exact h2.mono sub λ_ _ _ e=>e
 .unfold bR;by_cases z:j=i
  .rw[if_pos (by simpa using z)]
  .rw[if_neg (by simpa using z)];exact f.em j λy w=>hj y (by rw[GI λy=>z y.symm]; exact w)
def C3 {ns:am}:Sub (hid (aX N F) H) (hid (aX N (bR ns F)) H):=λb u e=>bg.mpr ⟨λz=>(bg.mp e).1 (mz z),(bg.mp e).2⟩
def t5 {i:Nat}(hp:∀p∈pin,p.1∈io)(h:io.contains i=false):∀p∈pin,p.1≠i:=λp hp' z=>by
 have:=hp p hp';rw[z] at this;simp[this] at h
theorem qU {Dn:Ends}{Q:St->Hp->Prop}{k:Fr->O}(hp:∀p∈pin,p.1∈io)(hQ:∀A F σ,FrF W E0 N pin A σ H F->PostS W E0 N pin E Dn (k A)->Q σ H) :
  ∀{is:am} {vs:aw} {ds:ay} {A:Fr} {σ:St} {F:Nat->aq},Dens W (hid (aX N F) H) vs ds->FrF W E0 N pin A σ H F->PostS W E0 N pin E Dn ((setFs io is (ds.map λd=>(0,d)) A).seq k)->jl is vs σ H Q
 | [],_,_,A,σ,F,.nil,f,h=>⟨rfl,hQ A F σ f h⟩
 | [],_,_,_,_,_,.cons _ _,_,h=>h.elim
 | _::_,_,_,_,_,_,.nil,_,h=>h.elim
 | i::is,_,_,A,σ,F,.cons hd q,f,h=>by
  refine⟨_,_,rfl,?_⟩;show jl is _ (σ.set i (some _)) H Q;simp only[GA,setFs] at h;unfold cH at h;by_cases c:io.contains i=false/\i<A.length
  .rw[if_pos c] at h;exact qU hp hQ (q.mono C3) (f.set0 hd (t5 hp c.1) c.2) h
  .rw[if_neg c] at h; exact h.elim
def tf {tg:Tg}{v:V}{d:D}{Dn:Ends}{Q:St->Hp->Prop}{k:Fr->O}(hK:W.K=X.K)(hp:∀p∈pin,p.1∈io)(hd:Den W (hid (aX N F) H) v d)(f:FrF W E0 N pin A σ H F)(h:PostS W E0 N pin E Dn ((bv io tg d A).seq k))
  (hQ:∀A F σ,FrF W E0 N pin A σ H F->PostS W E0 N pin E Dn (k A)->Q σ H):gT X.K tg v σ H Q:=by
 cases tg with
 | one i=>
  simp only[bv] at h;unfold cH at h;by_cases c:io.contains i=false/\i<A.length
  .rw[if_pos c] at h;exact hQ _ _ _ (f.set0 hd (t5 hp c.1) c.2) h
  .rw[if_neg c] at h; exact h.elim
 | many is=>
  cases hd <;> simp only[bv] at h <;> try (exact h.elim)
  .rename_i a vs ds h1 h2;exact .inr ⟨a,vs,rfl,.inl (Rd.sub bJ h1),h2.length.trans (len_of h),qU hp hQ h2 f h⟩
  .rename_i a vs ds h1 h2;exact .inl ⟨a,vs,rfl,hK ▸ SqT.sub bJ h1,h2.length.trans (len_of h),qU hp hQ h2 f h⟩
where
 len_of {E0:Hp} {Dn:Ends} {k:Fr->O}:∀{is:am} {ds:ay} {A:Fr},PostS W E0 N pin E Dn ((setFs io is (ds.map λd=>(0,d)) A).seq k)->ds.length=is.length
  | [],[],_,_=>rfl
  | [],_::_,_,h=>h.elim
  | _::_,[],_,h=>h.elim
  | i::is,d::ds,A,h=>by
   simp only[GA,setFs] at h;unfold cH at h;by_cases c:io.contains i=false/\i<A.length
   .rw[if_pos c] at h;rw[List.length_cons,List.length_cons,len_of h]
   .rw[if_neg c] at h; exact h.elim
def p9 {is:am}{e:Ex}{Dn:Ends}(hK:W.K=X.K)(h:bX W G n io E (.setT is e) Dn σ H):bm W G (Ip.run G n) e E σ H λv H1=>gT X.K (.many is) v σ H1 Dn.nx:=by
 obtain⟨E0,N,pin,A,F,hp,f,h⟩:=h;rw[Ip.rY] at h;refine oX f h λx ex hk v H' fv=>?_;obtain⟨F',f',dv⟩:=fv.drop;have sq:∀o:O,(o.seq λA=>.nx A)=o:=λo=>by cases o <;> rfl
 have eb:Ip.eT io is e A x=bv io (.many is) x.2 (Ip.settle e.names A x):=by
  obtain⟨k,d⟩:=x;cases d <;> rfl
 rw[eb,<-sq (bv io (.many is) x.2 (Ip.settle e.names A x))] at hk;exact tf hK hp dv f' hk λA F σ f h=>h σ H' F f
def zx {wk:Wk}{it:aG}{R:It->Hp->Prop}{Dn:Ends}{k:ax->O}(f:FrF W E0 N pin A σ H F)(h:PostS W E0 N pin E Dn ((Ip.evals G (Ip.run G n) A.sl it).toO A k))(nb:∀vs,PostS W E0 N pin E Dn (k vs)->∃ds,c7 wk vs=some ds)
  (ok:∀vs ds,c7 wk vs=some ds->PostS W E0 N pin E Dn (k vs)->∀J H',Sub H H'->ItD W (aX N (bR (Ip.Wk.fz wk it) F)) H' J ds->R J H'):fX W G (Ip.run G n) wk it E σ H R:=by
 have f1:=f.frz (Ex.namess it);have hN:NOk (aX N (bR (Ex.namess it) F)) H:=λb z=>z.elim (f.nok b) λ⟨j,q⟩=>f1.dom q;refine⟨aX N (bR (Ex.namess it) F),mask (Ex.namess it) A.sl,hN,λi d hi=>?_,?_⟩
 .obtain⟨h1,h2⟩:=pX hi;obtain⟨k,h3⟩:=oG h2;exact f.see h1 h3
 rw[<-zAF (a:=A.sl) it λi hi=>pR hi];cases q:Ip.evals G (Ip.run G n) A.sl it with
 | bad=>rw[q] at h; exact h
 | exc c fs=>rw[q] at h; exact λa H' r=>h a σ H' (f.excIn r)
 | ok vs=>
  rw[q] at h;obtain⟨ds,e⟩:=nb vs h;simp only[e];refine λJ H' hs hJ hr=>ok vs ds e h J H' hs ?_;unfold Ip.Wk.fz;by_cases hw:wk.rng=true
  .rw[if_pos hw]; exact hr hw _
  .rw[if_neg hw]; exact hJ
def FU {tg:Tg}{wk:Wk}{it:aG}{b:List Ip.S}{Dn:Ends}(hK:W.K=X.K)(h:bX W G n io E (.fo tg wk it b) Dn σ H):gu (fX W G (Ip.run G n) wk it E) (gT X.K tg) (dQ W G n io E b) Dn σ H:=by
 obtain⟨E0,N,pin,A,F,hp,f,h⟩:=h;rw[Ip.sA] at h;unfold gu;have pre:∀vs,PostS W E0 N pin E Dn (kB G (br (fG G (Ip.run G n) io tg b)) wk it A vs)->∃ds,c7 wk vs=some ds/\ds.length<=SL/\PostS W E0 N pin E Dn (br (fG G (Ip.run G n) io tg b) ds (frz (Ip.Wk.fz wk it) A)):=λvs hv=>by
  unfold kB at hv;cases q:c7 wk vs with
  | none=>rw[q] at hv; exact hv.elim
  | some ds=>
   rw[q] at hv;simp only at hv;by_cases hl:ds.length<=SL
   .rw[if_pos hl] at hv; exact⟨ds,rfl,hl,hv⟩
   .rw[if_neg hl] at hv; exact hv.elim
 refine zx f h (λvs hv=>by obtain⟨ds,e,_⟩:=pre vs hv; exact⟨ds,e⟩) λvs ds e hv J H1 hs hJ=>?_;obtain⟨ds',e',hl,hq⟩:=pre vs hv;rw[e] at e';cases e';have f0:=f.frz (Ip.Wk.fz wk it);have f1:FrF W E0 N pin (frz (Ip.Wk.fz wk it) A) σ H1 (bR (Ip.Wk.fz wk it) F):=by
  have g:=f0.grow hs (fp:=[]) λb z=>by simp at z
  have:(λb=>N b\/b∈([]:aq))=N:=funext λb=>propext (by simp);rw[this] at g; exact g
 have hE1:Sub E0 (hid (λb=>∃j,b∈bR (Ip.Wk.fz wk it) F j) H1):=λb o eb=>bg.mpr ⟨(λ⟨j,z⟩=>by rw[(f1.fr j b z).1] at eb; cases eb),f1.sub b o eb⟩;have f2:FrF W (hid (λb=>∃j,b∈bR (Ip.Wk.fz wk it) F j) H1) N pin (frz (Ip.Wk.fz wk it) A) σ H1 (bR (Ip.Wk.fz wk it) F):=
  ⟨bJ,f1.nok,f1.len,f1.pn,f1.nd,f1.dj,λi b hb=>⟨by
   cases q:hid (λb=>∃j,b∈bR (Ip.Wk.fz wk it) F j) H1 b with
   | none=>rfl
   | some o=>exact absurd ⟨i,hb⟩ (bg.mp q).1,(f1.fr i b hb).2⟩,f1.rel,f1.em⟩
 have hvis:∀b o,hid (aX N (bR (Ip.Wk.fz wk it) F)) H1 b=some o->¬N b/\hid (λb=>∃j,b∈bR (Ip.Wk.fz wk it) F j) H1 b=some o:=λb o e=>by
  obtain⟨g1,g2⟩:=bg.mp e;exact⟨λz=>g1 (.inl z),bg.mpr ⟨λz=>g1 (.inr z),g2⟩⟩
 generalize hid (λb=>∃j,b∈bR (Ip.Wk.fz wk it) F j) H1=E1 at hE1 f2 hvis;refine⟨λi m σ H=>i<=ds.length/\m=ds.length - i/\∃A F,FrF W E1 N pin A σ H F/\PostS W E0 N pin E Dn (br (fG G (Ip.run G n) io tg b) (ds.drop i) A),⟨ds.length,GX _,by omega,_,_,f2,by simpa using hq⟩,?_⟩;rintro i m σ1 Hc ⟨hi,rfl,A1,F1,f3,p3⟩;have hsub:Sub (hid (aX N (bR (Ip.Wk.fz wk it) F)) H1) (hid (aX N F1) Hc):=λb o e=>by
  obtain⟨g1,g2⟩:=hvis b o e;refine bg.mpr ⟨λz=>?_,f3.sub b o g2⟩;rcases z with z | ⟨j,z⟩
  .exact g1 z
  .rw[(f3.fr j b z).1] at g2; cases g2
 have hN3:NOk (aX N F1) Hc:=λb z=>z.elim (f3.nok b) λ⟨j,q⟩=>f3.dom q;obtain⟨J1,J2⟩:=hJ (aX N F1) Hc hsub hN3 i;by_cases hlt:i<ds.length
 .have hdrop:ds.drop i=ds[i]::ds.drop (i+1):=GW hlt;rw[hdrop,br] at p3;obtain⟨Jg,Jy⟩:=J1 ds[i] (by simp[hlt]);refine .inr ⟨Jg,λσ H=>∃A F,FrF W E1 N pin A σ H F/\PostS W E0 N pin E Dn (br (fG G (Ip.run G n) io tg b) (ds.drop (i+1)) A),λσ' H' ⟨A',F',f',p'⟩=>⟨ds.length - (i+1),by omega,hlt,rfl,A',F',f',p'⟩,λx H' hy=>?_⟩;obtain⟨s3,dx⟩:=Jy x H' hy;have f4:FrF W E1 N pin A1 σ1 H' F1:=by
   have g:=f3.grow s3 (fp:=[]) λb z=>by simp at z
   have:(λb=>N b\/b∈([]:aq))=N:=funext λb=>propext (by simp);rw[this] at g; exact g
  have turn:PostS W E1 N pin E { Dn with nx:=λσ H=>∃A F,FrF W E1 N pin A σ H F/\PostS W E0 N pin E Dn (br (fG G (Ip.run G n) io tg b) (ds.drop (i+1)) A),ct:=λσ H=>∃A F,FrF W E1 N pin A σ H F/\PostS W E0 N pin E Dn (br (fG G (Ip.run G n) io tg b) (ds.drop (i+1)) A),bk:=Dn.nx }
    (fG G (Ip.run G n) io tg b ds[i] A1):=by
   cases q:fG G (Ip.run G n) io tg b ds[i] A1 with
   | nx A'=>rw[q] at p3; exact λσ H F f=>⟨A',F,f,p3⟩
   | cnt A'=>rw[q] at p3; exact λσ H F f=>⟨A',F,f,p3⟩
   | brk A'=>rw[q] at p3; exact λσ H F f=>p3 σ H F (f.weaken hE1)
   | ret k d A'=>
    rw[q] at p3;exact PostS.strong (Dn:=Dn) (o:=.ret k d A') hE1 p3
   | exc c fs A'=>
    rw[q] at p3;exact PostS.strong (Dn:=Dn) (o:=.exc c fs A') hE1 p3
   | bad=>rw[q] at p3; exact p3
  unfold fG at turn;exact tf hK hp dx f4 turn λA2 F2 σ2 g p=>⟨E1,N,pin,A2,F2,hp,g,p⟩
 .have e:i=ds.length:=by omega
  subst e;rw[Jf (Js _),br] at p3;exact .inl ⟨J2 (bC _),p3 _ _ _ (f3.weaken hE1)⟩
def FrF.unpin {pin':List (Nat×V)}(f:FrF W E0 N pin' A σ H F)(h:∀p∈pin,p∈pin'):FrF W E0 N pin A σ H F:=⟨f.sub,f.nok,f.len,λp hp=>f.pn p (h p hp),f.nd,f.dj,f.fr,f.rel,f.em⟩
def xB {x k:Nat}{xs:ay}{a:Addr}(f:FrF W E0 N pin A σ H F)(hx:A[x]? = some (some (k+1,.lst xs)))(hp:(x,.ref a)∈pin)(hf:D.flats xs=true):∃vs,H a=some (.lst vs)/\Dens W (hid (aX N F) H) vs xs:=by
 obtain⟨v,hv,a',vs,fq,rfl,ha,ol,_⟩:=f.rel x _ hx;have:=f.pn _ hp;rw[hv] at this;cases this;exact⟨vs,ha,(OwnL.flat_inv (λv d f h o=>Own.flat_inv h o) hf ol).2⟩
def FB {is:am}{x y:Nat}{b:List Ip.S}{Dn:Ends}(hK:W.K=X.K)(h:bX W G n io E (.foz (.many is) x y b) Dn σ H):gu (jZ X.K (bZ (cW x) (bZ (cW y) dI))) (gT X.K (.many is)) (dQ W G n (x::y::io) E b) Dn σ H:=by
 obtain⟨E0,N,pin,A,F,hp,f,h⟩:=h;rw[Ip.uj] at h;unfold Ip.iw at h;cases q:(ownL A[x]?).bind λxs=>(ownL A[y]?).map λys=>(xs,ys) with
 | none=>rw[q] at h; exact h.elim
 | some z=>
  rw[q] at h;simp only at h;by_cases c:D.flats z.1=true/\D.flats z.2=true/\z.1.length<=SL
  rotate_left
  .rw[if_neg c] at h; exact h.elim
  rw[if_pos c] at h;obtain⟨xs,e1,r1⟩:=du q;obtain⟨ys,e2,rfl⟩:=cJ r1;obtain⟨k,hx⟩:=md e1;obtain⟨l,hy⟩:=md e2;obtain⟨v,hv,a,vs,fq,rfl,ha,_⟩:=f.rel x _ hx;obtain⟨w,hw,a2,ws,fq2,rfl,ha2,_⟩:=f.rel y _ hy;unfold gu jZ bZ cW dI;refine⟨.ref a,hv,.ref a2,hw,a,a2,vs,ws,rfl,.inl (.inl ha),.inl (.inl ha2),?_⟩;have mem:∀p∈pin,p∈(x,.ref a)::(y,.ref a2)::pin:=λp hp=>bN _ (bN _ hp);have hp':∀p∈(x,V.ref a)::(y,.ref a2)::pin,p.1∈x::y::io:=λp h=>by
   rcases cg h with rfl | h
   .simp
   .rcases cg h with rfl | h
    .simp
    .exact bN _ (bN _ (hp p h))
  have f':FrF W E0 N ((x,.ref a)::(y,.ref a2)::pin) A σ H F:=⟨f.sub,f.nok,f.len,λp h=>by
   rcases cg h with rfl | h
   .exact hv
   .rcases cg h with rfl | h
    .exact hw
    .exact f.pn p h,f.nd,f.dj,f.fr,f.rel,f.em⟩
  have m1:(x,V.ref a)∈(x,V.ref a)::(y,.ref a2)::pin:=bQ;have m2:(y,V.ref a2)∈(x,V.ref a)::(y,.ref a2)::pin:=bN _ bQ;generalize (x,V.ref a)::(y,.ref a2)::pin=pin' at mem hp' f' m1 m2;have hds:∀i (h1:i<xs.length) (h2:i<ys.length),((xs.zip ys).map λp=>D.tup [p.1,p.2])[i]? = some (.tup [xs[i],ys[i]]):=λi h1 h2=>by
   rw[Gw (by simp; omega)];simp
  have hln:((xs.zip ys).map λp=>D.tup [p.1,p.2]).length=min xs.length ys.length:=by simp
  generalize hD:(xs.zip ys).map (λp=>D.tup [p.1,p.2])=ds at h hds hln;obtain⟨bd,eb⟩:∃bd,(λd A'=>iu A x y ((bv (x::y::io) (.many is) d A').seq λA=>Ip.execs G (Ip.run G n) (x::y::io) A b))=bd:=⟨_,rfl⟩
  have q0:∀d A',bd d A'=iu A x y ((bv (x::y::io) (.many is) d A').seq λA=>Ip.execs G (Ip.run G n) (x::y::io) A b):=λd A'=>by rw[<-eb]
  rw[eb] at h;obtain⟨NP,hN⟩:∃NP:Nat->St->Hp->Prop,NP=λi σ H=>∃A' F,FrF W E0 N pin' A' σ H F/\ownL A'[x]? = ownL A[x]?/\ownL A'[y]? = ownL A[y]?/\PostS W E0 N pin E Dn (br bd (ds.drop i) A'):=⟨_,rfl⟩
  refine⟨λi m σ H=>i<=ds.length/\m=ds.length - i/\NP i σ H,⟨ds.length,GX _,by omega,by rw[hN]; exact⟨A,F,f',rfl,rfl,by simpa using h⟩⟩,?_⟩;rintro i m σ1 Hc ⟨hi,rfl,h3⟩;rw[hN] at h3;obtain⟨A1,F1,f3,g1,g2,p3⟩:=h3;obtain⟨_,gx⟩:=md (g1.trans e1);obtain⟨_,gy⟩:=md (g2.trans e2);obtain⟨vs1,h1,d1⟩:=xB f3 gx m1 c.1;obtain⟨ws1,h2,d2⟩:=xB f3 gy m2 c.2.1;have q1:SqL X.K Hc a vs1:=.inl (.inl h1);have q2:SqL X.K Hc a2 ws1:=.inl (.inl h2);by_cases hlt:i<ds.length
  .have hdrop:ds.drop i=ds[i]::ds.drop (i+1):=GW hlt;rw[hdrop,br,q0] at p3;have hx1:xs[i]? = some (xs[i]'(by omega)):=Gw _;have hy1:ys[i]? = some (ys[i]'(by omega)):=Gw _;obtain⟨u1,k1,k2⟩:=d1.get hx1;obtain⟨u2,l1,l2⟩:=d2.get hy1;have ed:ds[i]=.tup [xs[i]'(by omega),ys[i]'(by omega)]:=by
    have:=hds i (by omega) (by omega);rw[Gw hlt] at this;exact cO this
   refine .inr ⟨⟨vs1,ws1,u1,u2,q1,q2,k1,l1⟩,NP (i+1),λσ' H' h=>⟨ds.length - (i+1),by omega,hlt,rfl,h⟩,λv H' hy=>?_⟩;obtain⟨x0,y0,p,rfl,hpn,rfl,z1,z2⟩:=hy;have:=z1 vs1 q1;rw[k1] at this;cases this;have:=z2 ws1 q2;rw[l1] at this;cases this;have sb:=Sub.upd (o:=.tup [u1,u2]) hpn;have f4:FrF W E0 N pin' A1 σ1 (upd Hc p (.tup [u1,u2])) F1:=by
    have g:=f3.grow sb (fp:=[]) λb z=>by simp at z
    have:(λb=>N b\/b∈([]:aq))=N:=funext λb=>propext (by simp);rw[this] at g; exact g
   have dx:Den W (hid (aX N F1) (upd Hc p (.tup [u1,u2]))) (.ref p) ds[i]:=by
    rw[ed];exact .tup (SqT.of (bg.mpr ⟨λz=>z.elim (λy=>f3.nok p y hpn) λ⟨j,y⟩=>f3.dom y hpn,cM⟩)) (.cons (k2.mono (hG sb)) (.cons (l2.mono (hG sb)) .nil))
   have turn:PostS W E0 N pin' E { Dn with nx:=NP (i+1),ct:=NP (i+1),bk:=Dn.nx } ((bv (x::y::io) (.many is) ds[i] A1).seq λA=>Ip.execs G (Ip.run G n) (x::y::io) A b):=by
    rw[hN];cases q:(bv (x::y::io) (.many is) ds[i] A1).seq λA=>Ip.execs G (Ip.run G n) (x::y::io) A b with
    | nx A'=>
     rw[q] at p3;simp only[iu] at p3;by_cases cc:ownL A'[x]? = ownL A[x]?/\ownL A'[y]? = ownL A[y]?
     .rw[if_pos cc] at p3; exact λσ H F f=>⟨A',F,f,cc.1,cc.2,p3⟩
     .rw[if_neg cc] at p3; exact p3.elim
    | cnt A'=>
     rw[q] at p3;simp only[iu] at p3;by_cases cc:ownL A'[x]? = ownL A[x]?/\ownL A'[y]? = ownL A[y]?
     .rw[if_pos cc] at p3; exact λσ H F f=>⟨A',F,f,cc.1,cc.2,p3⟩
     .rw[if_neg cc] at p3; exact p3.elim
    | brk A'=>rw[q] at p3; exact λσ H F f=>p3 σ H F (f.unpin mem)
    | ret k d A'=>rw[q] at p3; exact λv σ H ⟨fp,F,f,r⟩=>p3 v σ H ⟨fp,F,f.unpin mem,r⟩
    | exc c fs A'=>rw[q] at p3; exact λe σ H ⟨F,f,r⟩=>p3 e σ H ⟨F,f.unpin mem,r⟩
    | bad=>rw[q] at p3; exact p3
   exact tf hK hp' dx f4 turn λA2 F2 σ2 g p=>⟨E0,N,pin',A2,F2,hp',g,p⟩
  .have e:i=ds.length:=by omega
   subst e;rw[Jf (Js _),br] at p3;exact .inl ⟨⟨vs1,ws1,q1,q2,by rw[d1.length,d2.length]; omega⟩,p3 _ _ _ (f3.unpin mem)⟩
end
section
variable {X:Cx}{W:Wd}{G:Pg}{n:Nat}{io:am}{E:St->XK}{E0:Hp}{N:Addr->Prop}{pin:List (Nat×V)}{A:Fr}{σ:St}{H:Hp}{F:Nat->aq}
def FrF.upd {fp fx:aq}{x:Nat}{l:Addr}{v0:V}{y:KD}{H2:Hp}(f:FrF W E0 (λb=>N b\/b∈fp) pin A σ H F)(fr:∀b∈fp,E0 b=none/\¬N b)(hl:l∈F x)(hx:x<A.length)(hσ:σ[x]? = some (some v0))(hfx:fx.Nodup)(hin:∀b∈fx,b∈F x\/b∈fp)
  (h12:∀b,b≠l->∀u,H b=some u->H2 b=some u)(h2l:H2 l≠none)(hy:Own W (hid (aX N λj=>if j=x then fx else F j) H2) H2 y.1 v0 y.2 fx):FrF W E0 N pin (A.set x (some y)) σ H2 λj=>if j=x then fx else F j:=by
 have l0:E0 l=none:=(f.fr x l hl).1;have mem:∀j b,b∈(if j=x then fx else F j)->(j=x/\b∈fx)\/(j≠x/\b∈F j):=λj b h=>by
  by_cases z:j=x
  .rw[if_pos z] at h; exact .inl ⟨z,h⟩
  .rw[if_neg z] at h; exact .inr ⟨z,h⟩
 refine⟨λb u e=>h12 b (λz=>by rw[z,l0] at e; cases e) u (f.sub b u e),λb z=>?_,by rw[G3]; exact f.len,f.pn,λj=>?_,λi j b h1 h2=>?_,λj b h=>?_,λj z hz=>?_,λj hj=>?_⟩
 .by_cases q:b=l
  .rw[q]; exact h2l
  .have:=f.nok b (.inl z);cases e:H b with
   | none=>exact absurd e this
   | some u=>rw[h12 b q u e]; simp
 .by_cases z:j=x
  .simp only[if_pos z]; exact hfx
  .simp only[if_neg z]; exact f.nd j
 .rcases mem i b h1 with ⟨z1,q1⟩ | ⟨z1,q1⟩ <;> rcases mem j b h2 with ⟨z2,q2⟩ | ⟨z2,q2⟩
  .rw[z1,z2]
  .rcases hin b q1 with w | w
   .exact absurd (f.dj j x b q2 w) z2
   .exact absurd (.inr w) (f.fr j b q2).2
  .rcases hin b q2 with w | w
   .exact absurd (f.dj i x b q1 w) z1
   .exact absurd (.inr w) (f.fr i b q1).2
  .exact f.dj i j b q1 q2
 .rcases mem j b h with ⟨z,q⟩ | ⟨z,q⟩
  .rcases hin b q with w | w
   .exact⟨(f.fr x b w).1,λy=>(f.fr x b w).2 (.inl y)⟩
   .exact fr b w
  .exact⟨(f.fr j b q).1,λy=>(f.fr j b q).2 (.inl y)⟩
 .by_cases q:j=x
  .subst q;rw[GM hx] at hz;cases hz;exact⟨_,hσ,by simp only[if_true]; exact hy⟩
  .rw[GI λy=>q y.symm] at hz;obtain⟨w,h1,h2⟩:=f.rel j z hz;refine⟨w,h1,?_⟩;simp only[if_neg q];refine h2.mono (λb u e=>?_) λb hb u e=>h12 b (λy=>q (f.dj j x b hb (y ▸ hl))) u e;obtain⟨g1,g2⟩:=bg.mp e;have bl:b≠l:=λy=>g1 (.inr ⟨x,y ▸ hl⟩);refine bg.mpr ⟨λy=>?_,h12 b bl u g2⟩;rcases y with y | ⟨i,y⟩
   .exact g1 (.inl (.inl y))
   .rcases mem i b y with ⟨z1,q1⟩ | ⟨z1,q1⟩
    .rcases hin b q1 with w | w
     .exact g1 (.inr ⟨x,w⟩)
     .exact g1 (.inl (.inr w))
    .exact g1 (.inr ⟨i,q1⟩)
 .by_cases q:j=x
  .subst q;exact absurd (GM hx) (hj y)
  .simp only[if_neg q];exact f.em j λz w=>hj z (by rw[GI λy=>q y.symm]; exact w)
theorem OwnL.snoc {P:V->D->aq->Prop}{v:V}{d:D}{g:aq}(h:P v d g):∀{vs ds fp},OwnL P vs ds fp->OwnL P (vs++[v]) (ds++[d]) (fp++g)
 | _,_,_,.nil=>by simpa using OwnL.cons h .nil
 | _,_,_,.cons h0 q=>by
  rw[List.cons_append,List.cons_append,HN];exact .cons h0 (OwnL.snoc h q)
def yn {x:Nat}{k:Nat}{xs:ay}{v:KD}{w:V}(fv:FrV W E0 N pin A σ H v w)(hx:A[x]? = some (some (k+1,.lst xs))) :
  ∃l ws,σ[x]? = some (some (.ref l))/\H l=some (.lst ws)/\ws.length=xs.length/\∃F',FrF W E0 N pin (A.set x (some (dA k xs v+1,.lst (xs++[v.2])))) σ (upd H l (.lst (ws++[w]))) F':=by
 obtain⟨fp,F,f,nd,fr,o⟩:=fv;obtain⟨z,hσ,l,ws,fq,rfl,e2,e3,e4⟩:=f.rel x _ hx;have hl:l∈F x:=by rw[e4]; exact bQ
 have hxl:x<A.length:=(dO hx).1;have ndx:=f.nd x;rw[e4] at ndx;obtain⟨lq,ndq⟩:=GP.mp ndx;have lfp:l∉fp:=λz=>(f.fr x l hl).2 (.inr z);have qF:∀b∈fq,b∈F x:=λb hb=>by rw[e4]; exact bN _ hb
 have h12:∀b,b≠l->∀u,H b=some u->(L2.upd H l (.lst (ws++[w]))) b=some u:=λb nb u e=>by rw[ca nb]; exact e
 refine⟨l,ws,hσ,e2,e3.length,?_⟩;have deep:∀j,bt j v=true->(xs.all λd=>bt j (k,d))=true->∃F',FrF W E0 N pin (A.set x (some (j+1,.lst (xs++[v.2])))) σ (L2.upd H l (.lst (ws++[w]))) F':=λj h1 h2=>by
  refine⟨_,f.upd (fx:=l::(fq++fp)) (y:=(j+1,.lst (xs++[v.2]))) fr hl hxl hσ ?_ (λb hb=>?_) h12 (by rw[cM]; simp) ⟨l,_,fq++fp,rfl,cM,?_,rfl⟩⟩
  .refine GP.mpr ⟨λz=>(dm z).elim lq lfp,GK.mpr ⟨ndq,nd,λb hb c hc z=>?_⟩⟩;subst z;exact (f.fr x b (qF b hb)).2 (.inr hc)
  .rcases cg hb with z | z
   .rw[z]; exact .inl hl
   .exact (dm z).imp (qF b) id
  .have sub:Sub (hid (aX (λb=>N b\/b∈fp) F) H) (hid (aX N λi=>if i=x then l::(fq++fp) else F i) (L2.upd H l (.lst (ws++[w])))):=λb u e=>by
    obtain⟨g1,g2⟩:=bg.mp e;have bl:b≠l:=λy=>g1 (.inr ⟨x,y ▸ hl⟩);refine bg.mpr ⟨λy=>?_,h12 b bl u g2⟩;rcases y with y | ⟨i,y⟩
    .exact g1 (.inl (.inl y))
    .by_cases z:i=x
     .simp only[if_pos z] at y;rcases cg y with q | q
      .exact bl q
      .rcases dm q with q | q
       .exact g1 (.inr ⟨x,qF b q⟩)
       .exact g1 (.inl (.inr q))
     .simp only[if_neg z] at y;exact g1 (.inr ⟨i,y⟩)
   refine OwnL.snoc ((o.at h1).mono sub λb hb u e=>h12 b (λz=>lfp (z ▸ hb)) u e) ?_;have e5:=e3.re (Q:=Own W (hid (aX (λb=>N b\/b∈fp) F) H) H j) (b:=λd=>bt j (k,d)) (λv d g hb o=>Own.at hb o) h2;exact e5.imp λv d g hg o=>o.mono sub λb hb u e=>h12 b (λz=>lq (z ▸ hg b hb)) u e
 unfold dA;by_cases c1:bt k v=true
 .rw[if_pos c1];refine deep k c1 (List.all_eq_true.mpr λd _=>?_);unfold bt;simp
 .rw[if_neg c1];by_cases c2:(xs.all λd=>bt v.1 (k,d))=true
  .rw[if_pos c2];refine deep v.1 ?_ c2;unfold bt;simp
  .rw[if_neg c2];refine⟨_,f.upd (fx:=[l]) (y:=(1,.lst (xs++[v.2]))) fr hl hxl hσ (by simp) (λb hb=>by rw[Gz.mp hb]; exact .inl hl) h12 (by rw[cM]; simp) ⟨l,_,[],rfl,cM,OwnL.zero ?_,rfl⟩⟩;have sub:Sub (hid (aX (λb=>N b\/b∈fp) F) H) (hid (aX N λi=>if i=x then [l] else F i) (L2.upd H l (.lst (ws++[w])))):=λb u e=>by
    obtain⟨g1,g2⟩:=bg.mp e;have bl:b≠l:=λy=>g1 (.inr ⟨x,y ▸ hl⟩);refine bg.mpr ⟨λy=>?_,h12 b bl u g2⟩;rcases y with y | ⟨i,y⟩
    .exact g1 (.inl (.inl y))
    .by_cases z:i=x
     .simp only[if_pos z] at y; exact bl (Gz.mp y)
     .simp only[if_neg z] at y;exact g1 (.inr ⟨i,y⟩)
   have see:∀b,(b∈fq\/b∈fp)->∀u,H b=some u->hid (aX N λi=>if i=x then [l] else F i) (L2.upd H l (.lst (ws++[w]))) b=some u:=λb hb u e=>by
    have bl:b≠l:=λz=>hb.elim (λy=>lq (z ▸ y)) λy=>lfp (z ▸ y);refine bg.mpr ⟨λy=>?_,h12 b bl u e⟩;rcases y with y | ⟨i,y⟩
    .rcases hb with q | q
     .exact (f.fr x b (qF b q)).2 (.inl y)
     .exact (fr b q).2 y
    .by_cases z:i=x
     .simp only[if_pos z] at y; exact bl (Gz.mp y)
     .simp only[if_neg z] at y;rcases hb with q | q
      .exact z (f.dj i x b y (qF b q))
      .exact (f.fr i b y).2 (.inr q)
   exact (e3.dens λv d g hg o=>o.den sub λb hb u e=>see b (.inl (hg b hb)) u e).append (.cons (o.den sub λb hb u e=>see b (.inr hb) u e) .nil)
def zA {x:Nat}{e:Ex}{Dn:Ends}(hK:W.K=X.K)(h:bX W G n io E (.mut x [] .append [e]) Dn σ H):cY (ig X.K "list" fV (cW x) (bZ (bm W G (Ip.run G n) e E) dI)) Dn σ H:=by
 obtain⟨E0,N,pin,A,F,hp,f,h⟩:=h;rw[iG] at h;by_cases c:cm A[x]? = true
 rotate_left
 .rw[if_neg c] at h; exact h.elim
 rw[if_pos c] at h;have hs:∃k xs,A[x]? = some (some (k,.lst xs)):=by
  cases q:A[x]? with
  | none=>rw[q] at c; cases c
  | some o=>
   rw[q] at c;cases o with
   | none=>cases c
   | some y=>
    obtain⟨k,d⟩:=y;cases d <;> first | exact⟨k,_,rfl⟩ | cases c
 obtain⟨k,xs,hx⟩:=hs;obtain⟨v,hv,ow⟩:=f.rel x _ hx;have dv:Den W H v (.lst xs):=ow.den bJ λ_ _ _ e=>e;unfold cY ig;refine⟨v,hv,?_,?_⟩
 .cases dv with | @lst l ws _ h1 h2=>?_
  exact .inl ⟨rfl,ws,.inl h1⟩
 simp only[de,bP,Ip.R.toO,Ip.R.bind] at h;unfold bZ;refine iM f ?_;cases q:Ip.eval G (Ip.run G n) A.sl e with
 | bad=>rw[q] at h; exact h
 | exc c fs=>rw[q] at h; exact λa H' r=>h a σ H' r
 | ok y=>
  rw[q] at h;simp only[dG] at h;have e1:(if ([y].all λv=>v.2.fb v.1)=true then A else frz (Ex.namess [e]) A)=Ip.settle e.names A y:=by
   unfold Ip.settle;simp
  rw[e1] at h;intro w H1 fv;cases q2:(Ip.settle e.names A y)[x]? with
  | none=>rw[q2] at h; exact h.elim
  | some o=>
   rw[q2] at h;cases o with
   | none=>exact h.elim
   | some z=>
    obtain⟨k',d⟩:=z;cases k' with
    | zero=>cases d <;> exact h.elim
    | succ k'=>
     cases d <;> try (exact h.elim)
     rename_i ys;simp only[dS,Ip.tP] at h;by_cases hl:ys.length<SL
     .rw[if_pos hl] at h;obtain⟨l,ws,g1,g2,g3,F',g4⟩:=yn fv q2;rw[hv] at g1;cases g1;exact⟨l,ws,w,rfl,rfl,g2,by rw[g3]; exact eG hl (by decide),h _ _ _ g4⟩
     .rw[if_neg hl] at h; exact h.elim
end
theorem OwnF.put {att:au}{P:V->D->aq->Prop}(nd:att.Nodup){f:Nat}{n:Str}{v:V}{d:D}{g:aq}(hn:att[f]? = some n)(h:P v d g):∀{vs ds fp},OwnF att P vs ds fp->(fp++g).Nodup ->
  ∃fz:aq,OwnF att P (putF n v vs) (Ip.putF f d ds) fz/\fz.Nodup/\∀b∈fz,b∈fp\/b∈g
 | _,_,_,.nil,hd=>⟨g,by
   have:=OwnF.cons hn h (OwnF.nil (att:=att) (P:=P));rw[Hn] at this;exact this,by simpa using hd,λb hb=>.inr hb⟩
 | _,_,_,.cons (n:=m) (i:=i) (f:=f0) (g:=g0) hi h0 q,hd=>by
  unfold putF Ip.putF;have hd1:=GK.mp hd;have hd2:=GK.mp hd1.1;by_cases e:i=f
  .subst e;have:m=n:=by rw[hn] at hi; exact (cO hi).symm
   subst this;rw[if_pos rfl,if_pos rfl];refine⟨g++g0,.cons hi h q,GK.mpr ⟨hd1.2.1,hd2.2.1,λa ha b hb z=>?_⟩,λb hb=>?_⟩
   .exact hd1.2.2 b (cG _ hb) a ha z.symm
   .rcases dm hb with z | z
    .exact .inr z
    .exact .inl (cG _ z)
  .have nm:m≠n:=λz=>e (qR nd hi (by rw[z]; exact hn));rw[if_neg e,if_neg nm];obtain⟨fz,k1,k2,k3⟩:=q.put nd hn h (GK.mpr ⟨hd2.2.1,hd1.2.1,λa ha b hb z=>hd1.2.2 a (cG _ ha) b hb z⟩);refine⟨f0++fz,.cons hi h0 k1,GK.mpr ⟨hd2.1,k2,λa ha b hb z=>?_⟩,λb hb=>?_⟩
   .rcases k3 b hb with w | w
    .exact hd2.2.2 a ha b w z
    .exact hd1.2.2 a (eI _ ha) b w z
   .rcases dm hb with z | z
    .exact .inl (eI _ z)
    .exact (k3 b z).imp (cG _) id
theorem OwnF.length {att:au}{P:V->D->aq->Prop}:∀{vs ds fp},OwnF att P vs ds fp->vs.length=ds.length
 | _,_,_,.nil=>rfl
 | _,_,_,.cons _ _ q=>by rw[List.length_cons,List.length_cons,q.length]
theorem OwnF.zero {W:Wd}{S H:Hp}:∀{vs ds},DenF W S vs ds->OwnF W.att (Own W S H 0) vs ds []
 | _,_,.nil=>.nil
 | _,_,.cons hf h q=>OwnF.cons (f:=[]) (g:=[]) hf ⟨rfl,h⟩ (OwnF.zero q)
section
variable {X:Cx}{W:Wd}{G:Pg}{n:Nat}{io:am}{E:St->XK}{E0:Hp}{N:Addr->Prop}{pin:List (Nat×V)}{A:Fr}{σ:St}{H:Hp}{F:Nat->aq}
def FE {x k f:Nat}{nm:Str}{l:Addr}{fs:List aJ}{ws:List (Str×V)}{fq fp:aq}{v:KD}{w:V}{H2:Hp}(nda:W.att.Nodup)(hnm:W.att[f]? = some nm)(fr0:FrF W E0 (λb=>N b\/b∈fp) pin A σ H F)(nd:fp.Nodup)(fr:∀b∈fp,E0 b=none/\¬N b)
  (o:Own W (hid (aX (λb=>N b\/b∈fp) F) H) H v.1 w v.2 fp)(hxl:x<A.length)(hσ:σ[x]? = some (some (.ref l)))(e4:F x=l::fq)(e3:OwnF W.att (Own W (hid (aX (λb=>N b\/b∈fp) F) H) H k) ws fs fq)
  (h12:∀b,b≠l->∀u,H b=some u->H2 b=some u)(h2l:H2 l≠none){dd:D}
  (own:∀j fz S,OwnF W.att (Own W S H2 j) (putF nm w ws) (Ip.putF f v.2 fs) fz->Own W S H2 (j+1) (.ref l) dd (l::fz)) :
  ∃F',FrF W E0 N pin (A.set x (some (dA k (fs.map (·.2)) v+1,dd))) σ H2 F':=by
 have hl:l∈F x:=by rw[e4]; exact bQ
 have ndx:=fr0.nd x;rw[e4] at ndx;obtain⟨lq,ndq⟩:=GP.mp ndx;have lfp:l∉fp:=λz=>(fr0.fr x l hl).2 (.inr z);have qF:∀b∈fq,b∈F x:=λb hb=>by rw[e4]; exact bN _ hb
 have ndc:(fq++fp).Nodup:=GK.mpr ⟨ndq,nd,λb hb c hc z=>by subst z; exact (fr0.fr x b (qF b hb)).2 (.inr hc)⟩;have sub:∀fz:aq,(∀b∈fz,b∈fq\/b∈fp)->Sub (hid (aX (λb=>N b\/b∈fp) F) H) (hid (aX N λi=>if i=x then l::fz else F i) H2):=λfz hz b u e=>by
  obtain⟨g1,g2⟩:=bg.mp e;have bl:b≠l:=λy=>g1 (.inr ⟨x,y ▸ hl⟩);refine bg.mpr ⟨λy=>?_,h12 b bl u g2⟩;rcases y with y | ⟨i,y⟩
  .exact g1 (.inl (.inl y))
  .by_cases z:i=x
   .simp only[if_pos z] at y;rcases cg y with q | q
    .exact bl q
    .rcases hz b q with q | q
     .exact g1 (.inr ⟨x,qF b q⟩)
     .exact g1 (.inl (.inr q))
   .simp only[if_neg z] at y;exact g1 (.inr ⟨i,y⟩)
 have deep:∀j,bt j v=true->((fs.map (·.2)).all λd=>bt j (k,d))=true->∃F',FrF W E0 N pin (A.set x (some (j+1,dd))) σ H2 F':=λj h1 h2=>by
  have e5:=e3.re (Q:=Own W (hid (aX (λb=>N b\/b∈fp) F) H) H j) (b:=λd=>bt j (k,d)) (λv d g hb o=>Own.at hb o) (by rw[List.all_map] at h2; exact h2);obtain⟨fz,k1,k2,k3⟩:=e5.put nda hnm (o.at h1) ndc;have lz:l∉fz:=λz=>(k3 l z).elim lq lfp;refine⟨_,fr0.upd (fx:=l::fz) (y:=(j+1,dd)) fr hl hxl hσ (GP.mpr ⟨lz,k2⟩) (λb hb=>?_) h12 h2l (own j fz _ (k1.imp λv d g hg o=>o.mono (sub fz k3) λb hb u e=>h12 b (λz=>lz (z ▸ hg b hb)) u e))⟩;rcases cg hb with z | z
  .rw[z]; exact .inl hl
  .exact (k3 b z).imp (qF b) id
 unfold dA;by_cases c1:bt k v=true
 .rw[if_pos c1];refine deep k c1 (List.all_eq_true.mpr λd _=>?_);unfold bt;simp
 .rw[if_neg c1];by_cases c2:((fs.map (·.2)).all λd=>bt v.1 (k,d))=true
  .rw[if_pos c2];refine deep v.1 ?_ c2;unfold bt;simp
  .rw[if_neg c2];have sub0:=sub [] (λb z=>by simp at z);have see:∀b,(b∈fq\/b∈fp)->∀u,H b=some u->hid (aX N λi=>if i=x then [l] else F i) H2 b=some u:=λb hb u e=>by
    have bl:b≠l:=λz=>hb.elim (λy=>lq (z ▸ y)) λy=>lfp (z ▸ y);refine bg.mpr ⟨λy=>?_,h12 b bl u e⟩;rcases y with y | ⟨i,y⟩
    .rcases hb with q | q
     .exact (fr0.fr x b (qF b q)).2 (.inl y)
     .exact (fr b q).2 y
    .by_cases z:i=x
     .simp only[if_pos z] at y; exact bl (Gz.mp y)
     .simp only[if_neg z] at y;rcases hb with q | q
      .exact z (fr0.dj i x b y (qF b q))
      .exact (fr0.fr i b y).2 (.inr q)
   have dn:DenF W (hid (aX N λi=>if i=x then [l] else F i) H2) (putF nm w ws) (Ip.putF f v.2 fs):=
    (e3.dens λv d g hg o=>o.den sub0 λb hb u e=>see b (.inl (hg b hb)) u e).put nda hnm (o.den sub0 λb hb u e=>see b (.inr hb) u e)
   exact⟨_,fr0.upd (fx:=[l]) (y:=(1,dd)) fr hl hxl hσ (by simp) (λb hb=>by rw[Gz.mp hb]; exact .inl hl) h12 h2l (own 0 [] _ (OwnF.zero dn))⟩
def Ei {x k:Nat}{nm:Str}{e:Ex}{Dn:Ends}{fl:am}(hK:W.K=X.K)(cf:CF W fl)(hk:k∈fl)(hnm:W.att[k]? = some nm)(h:bX W G n io E (.sfld x k e) Dn σ H) :
  gG X.K (cW x) (bm W G (Ip.run G n) e E) nm Dn σ H:=by
 obtain⟨E0,N,pin,A,F,hp,f,h⟩:=h;rw[Ip.zT] at h;cases q:Ip.eval G (Ip.run G n) A.sl e with
 | bad=>rw[q] at h; exact h.elim
 | exc c fs=>
  skip
  unfold gG;refine iM f ?_;rw[q] at h ⊢;exact λa H' r=>h a σ H' r
 | ok v=>
  rw[q] at h;simp only[Ip.R.toO] at h;cases q2:(Ip.settle e.names A v)[x]? with
  | none=>rw[q2] at h; exact h.elim
  | some oo=>
   rw[q2] at h;cases oo with
   | none=>exact h.elim
   | some z=>
    obtain⟨k',d⟩:=z;have hxl:x<(Ip.settle e.names A v).length:=(dO q2).1;cases k' with
    | zero=>cases d <;> exact h.elim
    | succ k'=>
     cases d <;> try (exact h.elim)
     .rename_i c fs;simp only[Ip.fO] at h;by_cases hl:fs.length<50
      rotate_left
      .rw[if_neg hl] at h; exact h.elim
      rw[if_pos hl] at h
      skip
      unfold gG;refine iM f ?_;rw[q];rintro w H1 ⟨fp,F1,f1,nd,fr,o⟩;obtain⟨z,hσ,a,C,dx,ws,fq,rfl,e2,hC,e3,e4⟩:=f1.rel x _ q2;obtain⟨ic,na⟩:=cf.ins c C hC;refine⟨_,hσ,a,C,dx,ws,rfl,e2,hK ▸ ic.cls,hK ▸ na k nm hk hnm,by rw[e3.length]; omega,?_⟩;obtain⟨F',g⟩:=FE (H2:=L2.upd H1 a (.ins C dx (putF nm w ws))) (dd:=.ins c (Ip.putF k v.2 fs)) cf.nd hnm f1 nd fr o hxl hσ e4 e3 (λb nb u e=>by rw[ca nb]; exact e) (by rw[cM]; simp)
       (λj fz S hz=>⟨a,C,dx,_,fz,rfl,cM,hC,hz,rfl⟩)
      exact h _ _ _ g
     .rename_i c fs;simp only[Ip.fO] at h;by_cases hl:fs.length<50
      rotate_left
      .rw[if_neg hl] at h; exact h.elim
      rw[if_pos hl] at h
      skip
      unfold gG;refine iM f ?_;rw[q];rintro w H1 ⟨fp,F1,f1,nd,fr,o⟩;obtain⟨z,hσ,a,C,nw,ws,fq,rfl,e2,hC,e3,e4⟩:=f1.rel x _ q2;have hC1:=hC.1;rw[cf.exc] at hC1;cases hC1
def yi {x:Nat}{Dn:Ends}(h:bX W G n io E (.mut x [] .clear []) Dn σ H):cY (jN X.K "list" gv (cW x)) Dn σ H:=by
 obtain⟨E0,N,pin,A,F,hp,f,h⟩:=h;rw[iG] at h;by_cases c:cm A[x]? = true
 rotate_left
 .rw[if_neg c] at h; exact h.elim
 rw[if_pos c] at h;simp only[de,Ip.R.toO,dG,List.all_nil,if_true] at h;cases q2:A[x]? with
 | none=>rw[q2] at h; exact h.elim
 | some oo=>
  rw[q2] at h;cases oo with
  | none=>exact h.elim
  | some z=>
   obtain⟨k',d⟩:=z;have hxl:x<A.length:=(dO q2).1;cases k' with
   | zero=>cases d <;> exact h.elim
   | succ k'=>
    cases d <;> try (exact h.elim)
    rename_i ys;simp only[dS,Ip.DY] at h;obtain⟨z,hσ,l,ws,fq,rfl,e2,e3,e4⟩:=f.rel x _ q2;have hl:l∈F x:=by rw[e4]; exact bQ
    have eN:(λb=>N b\/b∈([]:aq))=N:=funext λb=>propext (by simp);have f0:FrF W E0 (λb=>N b\/b∈([]:aq)) pin A σ H F:=by rw[eN]; exact f
    unfold cY jN;refine⟨_,hσ,.inl ⟨rfl,ws,.inl (.inl e2)⟩,l,ws,rfl,rfl,e2,?_⟩;exact h _ _ _ (f0.upd (fx:=[l]) (y:=(99,.lst [])) (H2:=L2.upd H l (.lst [])) (λb z=>by simp at z) hl hxl hσ (by simp) (λb hb=>by rw[Gz.mp hb]; exact .inl hl) (λb nb u e=>by rw[ca nb]; exact e) (by rw[cM]; simp) ⟨l,[],[],rfl,cM,.nil,rfl⟩)
end
section
variable {X:Cx}{W:Wd}{G:Pg}{n:Nat}{io:am}{E:St->XK}{E0:Hp}{N:Addr->Prop}{pin:List (Nat×V)}{A:Fr}{σ:St}{H:Hp}{F:Nat->aq}
def pS {x k:Nat}{xs:ay}{v:KD}{w:V}(fv:FrV W E0 N pin A σ H v w)(hx:A[x]? = some (some (k+1,.lst xs))) :
  ∃l ws,σ[x]? = some (some (.ref l))/\H l=some (.lst ws)/\ws.length=xs.length/\Dens W H ws xs/\Den W H w v.2 /\
   ∀ws' ds',(∀S,Dens W S ws xs->Den W S w v.2->Dens W S ws' ds')->∃F',FrF W E0 N pin (A.set x (some (1,.lst ds'))) σ (upd H l (.lst ws')) F':=by
 obtain⟨fp,F,f,nd,fr,o⟩:=fv;obtain⟨z,hσ,l,ws,fq,rfl,e2,e3,e4⟩:=f.rel x _ hx;have hl:l∈F x:=by rw[e4]; exact bQ
 have hxl:x<A.length:=(dO hx).1;have ndx:=f.nd x;rw[e4] at ndx;obtain⟨lq,ndq⟩:=GP.mp ndx;have lfp:l∉fp:=λz=>(f.fr x l hl).2 (.inr z);have qF:∀b∈fq,b∈F x:=λb hb=>by rw[e4]; exact bN _ hb
 refine⟨l,ws,hσ,e2,e3.length,e3.dens λv d g hg o=>o.den bJ λb hb u e=>e,o.den bJ λb hb u e=>e,λws' ds' hd=>?_⟩;have h12:∀b,b≠l->∀u,H b=some u->(L2.upd H l (.lst ws')) b=some u:=λb nb u e=>by rw[ca nb]; exact e
 refine⟨_,f.upd (fx:=[l]) (y:=(1,.lst ds')) fr hl hxl hσ (by simp) (λb hb=>by rw[Gz.mp hb]; exact .inl hl) h12 (by rw[cM]; simp) ⟨l,_,[],rfl,cM,OwnL.zero ?_,rfl⟩⟩;have sub:Sub (hid (aX (λb=>N b\/b∈fp) F) H) (hid (aX N λi=>if i=x then [l] else F i) (L2.upd H l (.lst ws'))):=λb u e=>by
  obtain⟨g1,g2⟩:=bg.mp e;have bl:b≠l:=λy=>g1 (.inr ⟨x,y ▸ hl⟩);refine bg.mpr ⟨λy=>?_,h12 b bl u g2⟩;rcases y with y | ⟨i,y⟩
  .exact g1 (.inl (.inl y))
  .by_cases z:i=x
   .simp only[if_pos z] at y; exact bl (Gz.mp y)
   .simp only[if_neg z] at y;exact g1 (.inr ⟨i,y⟩)
 have see:∀b,(b∈fq\/b∈fp)->∀u,H b=some u->hid (aX N λi=>if i=x then [l] else F i) (L2.upd H l (.lst ws')) b=some u:=λb hb u e=>by
  have bl:b≠l:=λz=>hb.elim (λy=>lq (z ▸ y)) λy=>lfp (z ▸ y);refine bg.mpr ⟨λy=>?_,h12 b bl u e⟩;rcases y with y | ⟨i,y⟩
  .rcases hb with q | q
   .exact (f.fr x b (qF b q)).2 (.inl y)
   .exact (fr b q).2 y
  .by_cases z:i=x
   .simp only[if_pos z] at y; exact bl (Gz.mp y)
   .simp only[if_neg z] at y;rcases hb with q | q
    .exact z (f.dj i x b y (qF b q))
    .exact (f.fr i b y).2 (.inr q)
 exact hd _ (e3.dens λv d g hg o=>o.den sub λb hb u e=>see b (.inl (hg b hb)) u e) (o.den sub λb hb u e=>see b (.inr hb) u e)
theorem Den.scal {S S':Hp}{v:V}{d:D}(hs:d.scal=true)(h:Den W S v d):Den W S' v d:=by
 cases h <;> first | exact .non | exact .bl | exact .int | exact .str | (simp[D.scal] at hs)
theorem Dens.scal {S S':Hp}:∀{vs:aw} {ds:ay},ds.all D.scal=true->Dens W S vs ds->Dens W S' vs ds
 | _,_,_,.nil=>.nil
 | _,_,hs,.cons h q=>by
  rw[List.all_cons,tw] at hs;exact .cons (h.scal hs.1) (q.scal hs.2)
def xq {x:Nat}(c:cm A[x]? = true):∃k xs,A[x]? = some (some (k,.lst xs)):=by
 cases q:A[x]? with
 | none=>rw[q] at c; cases c
 | some o=>
  rw[q] at c;cases o with
  | none=>cases c
  | some y=>
   obtain⟨k,d⟩:=y;cases d <;> first | exact⟨k,_,rfl⟩ | cases c
def BL {x:Nat}{e:Ex}{Dn:Ends}(hK:W.K=X.K)(h:bX W G n io E (.mut x [] .extend [e]) Dn σ H):cY (ig X.K "list" (i6 X.K) (cW x) (bZ (bm W G (Ip.run G n) e E) dI)) Dn σ H:=by
 obtain⟨E0,N,pin,A,F,hp,f,h⟩:=h;rw[iG] at h;by_cases c:cm A[x]? = true
 rotate_left
 .rw[if_neg c] at h; exact h.elim
 rw[if_pos c] at h;obtain⟨k,xs,hx⟩:=xq c;obtain⟨v,hv,ow⟩:=f.rel x _ hx;have dv:Den W H v (.lst xs):=ow.den bJ λ_ _ _ e=>e;unfold cY ig;refine⟨v,hv,?_,?_⟩
 .cases dv with | @lst l ws _ h1 h2=>?_
  exact .inl ⟨rfl,ws,.inl h1⟩
 simp only[de,bP,Ip.R.toO,Ip.R.bind] at h;unfold bZ;refine iM f ?_;cases q:Ip.eval G (Ip.run G n) A.sl e with
 | bad=>rw[q] at h; exact h
 | exc c fs=>rw[q] at h; exact λa H' r=>h a σ H' r
 | ok y=>
  rw[q] at h;simp only[dG] at h;have e1:(if ([y].all λv=>v.2.fb v.1)=true then A else frz (Ex.namess [e]) A)=Ip.settle e.names A y:=by
   unfold Ip.settle;simp
  rw[e1] at h;intro w H1 fv;cases q2:(Ip.settle e.names A y)[x]? with
  | none=>rw[q2] at h; exact h.elim
  | some o=>
   rw[q2] at h;cases o with
   | none=>exact h.elim
   | some z=>
    obtain⟨k',d⟩:=z;cases k' with
    | zero=>cases d <;> exact h.elim
    | succ k'=>
     cases d <;> try (exact h.elim)
     rename_i ys;simp only[dS,Ip.uP] at h;obtain⟨j,dy⟩:=y;cases dy <;> try (exact h.elim)
     rename_i zs;simp only at h;by_cases hl:zs.all D.scal=true/\ys.length+zs.length<=SL
     .rw[if_pos hl] at h;obtain⟨l,ws,g1,g2,g3,g4,g5,g6⟩:=pS fv q2;rw[hv] at g1;cases g1;cases g5 with | @tup b vs _ t1 t2=>?_
      obtain⟨F',g7⟩:=g6 (ws++vs) (ys++zs) λS hS _=>hS.append (t2.scal hl.1);refine⟨l,b,ws,vs,rfl,rfl,g2,hK ▸ t1,by rw[g3,t2.length]; exact jI hl.2,h _ _ _ g7⟩
     .rw[if_neg hl] at h; exact h.elim
theorem Dens.setI {S:Hp}{v:V}{d:D}(h:Den W S v d):∀{vs:aw} {ds:ay} (j:Nat),Dens W S vs ds->Dens W S (vs.set j v) (ds.set j d)
 | _,_,_,.nil=>.nil
 | _,_,0,.cons _ q=>.cons h q
 | _,_,j+1,.cons h0 q=>.cons h0 (q.setI h j)
theorem Dens.erase {S:Hp}:∀{vs:aw} {ds:ay} (j:Nat),Dens W S vs ds->Dens W S (vs.eraseIdx j) (ds.eraseIdx j)
 | _,_,_,.nil=>.nil
 | _,_,0,.cons _ q=>q
 | _,_,j+1,.cons h0 q=>.cons h0 (q.erase j)
theorem Dens.at {S:Hp}{d:D}:∀{vs:aw} {ds:ay} (j:Nat),Dens W S vs ds->ds[j]? = some d->∃v,vs[j]? = some v/\Den W S v d
 | _,_,_,.nil,e=>by simp at e
 | v::_,_,0,.cons h q,e=>by
  cases e;exact⟨v,rfl,h⟩
 | _,_,j+1,.cons h0 q,e=>by
  obtain⟨v,e1,e2⟩:=q.at j (by simpa using e);exact⟨v,by simpa using e1,e2⟩
def yl {x j:Nat}{e:Ex}{Dn:Ends}(h:bX W G n io E (.put x [] (.var j) e) Dn σ H):jC (cW x) (cW j) (bm W G (Ip.run G n) e E) Dn σ H:=by
 obtain⟨E0,N,pin,A,F,hp,f,h⟩:=h;rw[Ip.wm] at h;simp only[List.isEmpty_nil,if_true] at h;unfold jC;refine iM f ?_;cases q:Ip.eval G (Ip.run G n) A.sl e with
 | bad=>rw[q] at h; exact h
 | exc c fs=>rw[q] at h; exact λa H' r=>h a σ H' r
 | ok y=>
  rw[q] at h;simp only[Ip.R.toO,Ip.ko] at h;cases qj:A.sl[j]? with
  | none=>rw[qj] at h; exact h.elim
  | some oj=>
   cases oj with
   | none=>rw[qj] at h; exact h.elim
   | some dj=>
    rw[qj] at h;simp only at h;intro w H1 fv;cases q2:(Ip.settle e.names A y)[x]? with
    | none=>rw[q2] at h; exact h.elim
    | some o=>
     rw[q2] at h;cases o with
     | none=>exact h.elim
     | some z=>
      obtain⟨k',d⟩:=z;cases k' with
      | zero=>cases d <;> exact h.elim
      | succ k'=>
       cases d <;> try (exact h.elim)
       rename_i ys;simp only[Ip.h8] at h;cases dj <;> try (exact h.elim)
       rename_i i;simp only at h;by_cases hl:0<=i/\i<(ys.length:Int)
       .rw[if_pos hl] at h;obtain⟨l,ws,g1,g2,g3,g4,g5,g6⟩:=pS fv q2;obtain⟨F',g7⟩:=g6 (ws.set i.toNat w) (ys.set i.toNat y.2) λS hS hw=>hS.setI hw _;obtain⟨kj,hj⟩:=oG qj;obtain⟨vj,s1,s2⟩:=f.rel j _ hj;have dj:Den W H vj (.int i):=s2.den bJ λ_ _ _ e=>e;cases dj;exact⟨.ref l,g1,.int i,s1,l,ws,i,rfl,rfl,g2,hl.1,by rw[g3]; exact hl.2,h _ _ _ g7⟩
       .rw[if_neg hl] at h; exact h.elim
end
section
variable {X:Cx}{W:Wd}{G:Pg}{n:Nat}{io:am}{E:St->XK}{E0:Hp}{N:Addr->Prop}{pin:List (Nat×V)}{A:Fr}{σ:St}{H:Hp}{F:Nat->aq}
theorem Dens.isI {S:Hp}:∀{vs:aw} {ds:ay},Dens W S vs ds->ds.all D.isI=true->vs.all fM=true/\ds.all D.scal=true
 | _,_,.nil,_=>⟨rfl,rfl⟩
 | _,_,.cons (d:=d) h q,hs=>by
  rw[List.all_cons,tw] at hs;obtain⟨i1,i2⟩:=q.isI hs.2;cases d with
  | int i=>
   rw[h.int_inv,List.all_cons,List.all_cons,i1,i2];exact⟨rfl,rfl⟩
  | _=>cases hs.1
def AN {x:Nat}{e:Ex}{Dn:Ends}(h:bX W G n io E (.mut x [] .remove [e]) Dn σ H):cY (ig X.K "list" fS (cW x) (bZ (bm W G (Ip.run G n) e E) dI)) Dn σ H:=by
 obtain⟨E0,N,pin,A,F,hp,f,h⟩:=h;rw[iG] at h;by_cases c:cm A[x]? = true
 rotate_left
 .rw[if_neg c] at h; exact h.elim
 rw[if_pos c] at h;obtain⟨k,xs,hx⟩:=xq c;obtain⟨v,hv,ow⟩:=f.rel x _ hx;have dv:Den W H v (.lst xs):=ow.den bJ λ_ _ _ e=>e;unfold cY ig;refine⟨v,hv,?_,?_⟩
 .cases dv with | @lst l ws _ h1 h2=>?_
  exact .inl ⟨rfl,ws,.inl h1⟩
 simp only[de,bP,Ip.R.toO,Ip.R.bind] at h;unfold bZ;refine iM f ?_;cases q:Ip.eval G (Ip.run G n) A.sl e with
 | bad=>rw[q] at h; exact h
 | exc c fs=>rw[q] at h; exact λa H' r=>h a σ H' r
 | ok y=>
  rw[q] at h;simp only[dG] at h;have e1:(if ([y].all λv=>v.2.fb v.1)=true then A else frz (Ex.namess [e]) A)=Ip.settle e.names A y:=by
   unfold Ip.settle;simp
  rw[e1] at h;intro w H1 fv;cases q2:(Ip.settle e.names A y)[x]? with
  | none=>rw[q2] at h; exact h.elim
  | some o=>
   rw[q2] at h;cases o with
   | none=>exact h.elim
   | some z=>
    obtain⟨k',d⟩:=z;cases k' with
    | zero=>cases d <;> exact h.elim
    | succ k'=>
     cases d <;> try (exact h.elim)
     rename_i ys;simp only[dS,Ip.uH] at h;obtain⟨j,dy⟩:=y;cases dy <;> try (exact h.elim)
     rename_i i;simp only at h;by_cases hl:ys.all D.isI=true
     .rw[if_pos hl] at h;cases hf:D.find (.int i) ys with
      | none=>rw[hf] at h; exact h.elim
      | some j=>
       rw[hf] at h;obtain⟨l,ws,g1,g2,g3,g4,g5,g6⟩:=pS fv q2;rw[hv] at g1;cases g1;obtain⟨i1,i2⟩:=g4.isI hl;have fi:=Dens.find g5 rfl g4 i2;have e5:=g5.int_inv;subst e5;obtain⟨F',g7⟩:=g6 (ws.eraseIdx j) (ys.eraseIdx j) λS hS _=>hS.erase j;exact⟨l,ws,i,j,rfl,rfl,g2,i1,fi.trans hf,h _ _ _ g7⟩
     .rw[if_neg hl] at h; exact h.elim
end
structure Gs (W:Wd)(G:Pg)(T:Tb)(n:Nat)(E:St->XK)(sc:Scope)(N:au)(X:Cx):Prop where
 gd:Gd W G T n E sc N X
 own:PassesOwn (model X.prog X.w) X.A X.env X.xe
 stk:∃L outer,X.stack=X.env::outer/\X.env.frame=some L
 scq:X.env.scope=sc
section
variable {W:Wd}{G:Pg}{T:Tb}{n:Nat}{io:am}{m:Nat}{E:St->XK}{sc:Scope}{N:au}{X:Cx}
def jH {st:Stmt}{i:Nat}:PS X st (bX W G n io E (.set i .bad)):=λpins s σ H Dn I ⟨_,_,_,_,_,_,_,h⟩=>by
 rw[Ip.la,eU] at h; exact h.elim
def CV {st:Stmt}:PS X st (bX W G n io E (.ex .bad)):=λpins s σ H Dn I ⟨_,_,_,_,_,_,_,h⟩=>by
 rw[Ip.rC,eU] at h; exact h.elim
def wo (e:Expr):(∃a b c d,e=.ListComp a b c d)\/(∀T sc N m,cE T sc N m e=.bad)\/∀t l env,swapsWith e t l env=pure false:=by
 cases e <;> first
  | exact .inl ⟨_,_,_,_,rfl⟩
  | exact .inr (.inr λ_ _ _=>rfl)
  | (refine .inr (.inl λT sc N m=>?_); cases m <;> rfl)
def Ak (g:Gs W G T n E sc N X)(x:Str)(p:Pos)(e:Expr)(pos:Pos)(i:Nat)(hl:bK sc x=true)(hi:pos? x N=some i):PS X (.Assign [.Name x p] e pos) (bX W G n io E (.set i (cE T sc N m e))):=by
 obtain⟨l1,l2⟩:=g.gd.loc x hl;have hN:X.N.Nodup:=by rw[g.gd.nm]; exact g.gd.nd
 have hx:X.N[i]? = some x:=by rw[g.gd.nm]; exact pos?_get hi
 rcases wo e with ⟨el,gs,scope,cp,rfl⟩ | hb | hs
 .have hsw:∃b,swapsWith (.ListComp el gs scope cp) (some (.Name x p)) pos.line X.env=pure b:=⟨_,rfl⟩
  obtain⟨b,hsw⟩:=hsw;cases b with
  | false=>exact (um hN hx l1 ((fe m).e g.gd _) hsw l2).mono λDn σ H h=>td h
  | true=>
   cases m with
   | zero=>exact jH
   | succ m=>
    have ih:=fe (W:=W) (G:=G) (T:=T) (n:=n) m;match gs with
    | []=>exact jH
    | ⟨_,_,_,_⟩::_::_=>exact jH
    | [⟨tg,iter,ifs,as⟩]=>
     simp only[Ip.uv];by_cases h:(Ip.c6 sc N (Ip.be scope) (Ip.bn N scope) scope&&as == 0&&decide (ifs.length<=1))=true
     rotate_left
     .rw[if_neg h]; exact jH
     rw[if_pos h];simp only[tw,GC,GV] at h;obtain⟨⟨hb,has⟩,hln⟩:=h;subst has;cases ht:cu scope (Ip.be scope) tg with
     | none=>exact jH
     | some t=>
      by_cases h2:(dP (cI T sc N m iter).1 t&&(Ip.cQ t).all (λi=>(Ip.bn N scope)[i]? == some none))=true
      rotate_left
      .simp only[h2]; exact jH
      simp only[h2,if_true];rw[tw] at h2;rcases qv iter with ⟨a,b,c,rfl⟩ | hs
      .rintro pins s σ H Dn I ⟨_,_,_,_,_,_,_,q⟩;rw[Ip.la,Ip.kF,rG,bP,eU] at q;exact q.elim
      .have cp:=wO (e:=el) ih g.gd hb hln ht h2.1 h2.2;exact (CQ g.gd.calm cp.hS hN hx l1 cp.hi cp.hg cp.ht cp.he hsw l2 (hs X.env)).mono λDn σ H h=>wA g.gd.K cp.hx (td h)
 .rw[hb]; exact jH
 .exact (um hN hx l1 ((fe m).e g.gd e) (hs _ _ _) l2).mono λDn σ H h=>td h
def vc (g:Gs W G T n E sc N X)(e:Expr)(pos:Pos)(hl:∀a b c d,e≠.ListComp a b c d):PS X (.Expr e pos) (bX W G n io E (.ex (cE T sc N m e))):=by
 rcases wo e with ⟨a,b,c,d,rfl⟩ | hb | hs
 .exact absurd rfl (hl a b c d)
 .rw[hb]; exact CV
 .exact (nF ((fe m).e g.gd e) (hs _ _ _)).mono λDn σ H h=>qG h
def CS {o:Expr}{f:Str}{p:Pos}(e:Expr)(l:Nat)(env:Env):swapsWith e (some (.Attribute o f p)) l env=pure false:=by
 cases e <;> rfl
def Ec (g:Gs W G T n E sc N X)(es:av)(k:Nat)(tp:Pos)(e:Expr)(pos:Pos)(is:am)(hc:Ip.fA e=true)(ht:cu sc N (.Tuple es k tp)=some (.many is)):PS X (.Assign [.Tuple es k tp] e pos) (bX W G n io E (.setT is (cE T sc N m e))):=by
 cases e with
 | Call f args kws cp=>exact (rl ((fe m).e g.gd _) (kE g.gd ht)).mono λDn σ H h=>p9 g.gd.K h
 | Name x p=>exact (rl ((fe m).e g.gd _) (kE g.gd ht)).mono λDn σ H h=>p9 g.gd.K h
 | Subscript a i p=>exact (rl ((fe m).e g.gd _) (kE g.gd ht)).mono λDn σ H h=>p9 g.gd.K h
 | _=>cases hc
def yo (g:Gs W G T n E sc N X)(x:Str)(xp:Pos)(f:Str)(ap:Pos)(e:Expr)(pos:Pos)(k j:Nat)(hv:aZ sc x=true)(hok:aU x=true)(hk:pos? x N=some k)(hj:pos? f T.att=some j)(hf:T.fl.contains j=true) :
  PS X (.Assign [.Attribute (.Name x xp) f ap] e pos) (bX W G n io E (.sfld k j (cE T sc N m e))):=by
 unfold aU at hok;simp only[tw,IZ] at hok;have hx:X.N[k]? = some x:=by rw[g.gd.nm]; exact pos?_get hk
 have po:=qY (pos:=xp) hx (g.gd.vis x hv) hok.1 hok.2;have he:=(fe m).e g.gd e;have r1:=yD (f:=f) (pos:=pos) (pos':=ap) po he (CS e _ _);intro pins s σ H Dn I h;have hnm:W.att[j]? = some f:=by rw[g.gd.gf.att]; exact pos?_get hj
 exact r1 pins s σ H Dn I (Ei g.gd.K g.gd.gf.cf (by simpa using hf) hnm h)
end
section
variable {W:Wd}{G:Pg}{T:Tb}{n:Nat}{io:am}{m:Nat}{E:St->XK}{sc:Scope}{N:au}{X:Cx}
def okN {x:Str}(h:aU x=true):(x == ("__debug__" : Str))=false/\(x == ("__classdict__" : Str))=false:=by
 unfold aU at h;simp only[tw,IZ] at h;exact h
def gS (g:Gs W G T n E sc N X){x:Str}{p:Pos}{i:Nat}(hv:aZ sc x=true)(hok:aU x=true)(hi:pos? x N=some i):PE X (.Name x p) (cW i):=
 qY (by rw[g.gd.nm]; exact pos?_get hi) (g.gd.vis x hv) (okN hok).1 (okN hok).2
def D0 (g:Gs W G T n E sc N X)(e:Expr)(pos:Pos)(h:¬oi (cE T sc N m e)=true):PS X (.Return (some e) pos) (bX W G n io E (.ret (cE T sc N m e))):=
 (qZ ((fe m).e g.gd e)).mono λDn σ H=>tU λi z=>h (by rw[z]; rfl)
def Bb (g:Gs W G T n E sc N X)(x:Str)(p pos:Pos)(i:Nat)(hv:aZ sc x=true)(hok:aU x=true)(hi:pos? x N=some i):PS X (.Return (some (.Name x p)) pos) (bX W G n io E (.ret (.var i))):=
 (qZ (gS g hv hok hi)).mono λDn σ H h=>CM h
def zv (g:Gs W G T n E sc N X)(x s:Str)(k1 k3:Nat)(p1 p2 p3 pos:Pos)(i:Nat)(hv:aZ sc x=true)(hok:aU x=true)(hi:pos? x N=some i):PS X (.Return (some (.Tuple [.Constant (.str s) k1 p1,.Name x p2] k3 p3)) pos) (bX W G n io E (.retP s i)):=
 (qZ (w8 (gQ vD (gQ (gS g hv hok hi) jR rfl) rfl))).mono λDn σ H h=>yr h
def FZ (pos:Pos):PS X (.Return none pos) (bX W G n io E (.ret (.cst .non))):=
 Be.mono λDn σ H h=>by
  obtain⟨N0,a,hN,hS,h⟩:=tU (λi=>by simp) h;rw[Ip.lh] at h;exact h _ _ (Res.of_flat (Sub.refl _) rfl .non)
def qX {e:Expr}{es:av}{cp:Pos}{env:Env}(ns:aP (e::es)=true)(hl:es.length<29):((backTo cp (starEach (e::es) env)).all (λx=>!x.1)&&(backToKw cp (keywordEach [] env)).all (λx=>x.1.isSome)
   && decide ((e::es).length+([]:List Keyword).length+(if ([]:List Keyword).isEmpty then 0 else 1)<30))=true:=by
 rw[oh ns];show (true&&true&&decide (es.length+1+0+0<30))=true;rw[GE (by omega)]; rfl
def zR (g:Gs W G T n E sc N X)(x:Str)(xp mp cp pos:Pos)(e:Expr)(i:Nat)(hv:aZ sc x=true)(hok:aU x=true)(hi:pos? x N=some i)(ns:aP [e]=true)(hp:(mp.endLine == cp.line)=true) :
  PS X (.Expr (.Call (.Attribute (.Name x xp) "append" mp) [e] [] cp) pos) (bX W G n io E (.mut i [] .append [cE T sc N m e])):=by
 have s1:=(eD ns).1;exact (nF (o6 HU PySem.F.slot_list_append PySem.F.type_list_append tT (gS g hv hok hi) (gQ ((fe m).e g.gd e) jR (dB s1)) rfl (qX ns (by decide)) hp (dB s1) rfl) rfl).mono λDn σ H h=>zA g.gd.K h
def A7 (g:Gs W G T n E sc N X)(x:Str)(xp mp cp pos:Pos)(e:Expr)(i:Nat)(hv:aZ sc x=true)(hok:aU x=true)(hi:pos? x N=some i)(ns:aP [e]=true)(hp:(mp.endLine == cp.line)=true) :
  PS X (.Expr (.Call (.Attribute (.Name x xp) "extend" mp) [e] [] cp) pos) (bX W G n io E (.mut i [] .extend [cE T sc N m e])):=by
 have s1:=(eD ns).1;exact (nF (o6 HU PySem.F.slot_list_extend PySem.F.type_list_extend Du (gS g hv hok hi) (gQ ((fe m).e g.gd e) jR (dB s1)) rfl (qX ns (by decide)) hp (dB s1) rfl) rfl).mono λDn σ H h=>BL g.gd.K h
def yR (g:Gs W G T n E sc N X)(x j:Str)(xp jp sp pos:Pos)(e:Expr)(i k:Nat)(hv:aZ sc x=true)(hok:aU x=true)(hi:pos? x N=some i)(hv2:aZ sc j=true)(hok2:aU j=true)(hk:pos? j N=some k) :
  PS X (.Assign [.Subscript (.Name x xp) (.Name j jp) sp] e pos) (bX W G n io E (.put i [] (.var k) (cE T sc N m e))):=
 (xX (gS g hv hok hi) (gS g hv2 hok2 hk) ((fe m).e g.gd e) (by cases e <;> rfl)).mono λDn σ H h=>yl h
def Fz (g:Gs W G T n E sc N X)(x:Str)(xp mp cp pos:Pos)(e:Expr)(i:Nat)(hv:aZ sc x=true)(hok:aU x=true)(hi:pos? x N=some i)(ns:aP [e]=true)(hp:(mp.endLine == cp.line)=true) :
  PS X (.Expr (.Call (.Attribute (.Name x xp) "remove" mp) [e] [] cp) pos) (bX W G n io E (.mut i [] .remove [cE T sc N m e])):=by
 have s1:=(eD ns).1;exact (nF (o6 HU PySem.F.slot_list_remove PySem.F.type_list_remove Ci (gS g hv hok hi) (gQ ((fe m).e g.gd e) jR (dB s1)) rfl (qX ns (by decide)) hp (dB s1) rfl) rfl).mono λDn σ H h=>AN h
def E8 (g:Gs W G T n E sc N X)(x:Str)(xp mp cp pos:Pos)(i:Nat)(hv:aZ sc x=true)(hok:aU x=true)(hi:pos? x N=some i)(hp:(mp.endLine == cp.line)=true) :
  PS X (.Expr (.Call (.Attribute (.Name x xp) "clear" mp) [] [] cp) pos) (bX W G n io E (.mut i [] .clear [])):=
 (nF (FK HU PySem.F.slot_list_clear PySem.F.type_list_clear yz (gS g hv hok hi) rfl hp) rfl).mono λDn σ H h=>yi h
def iN (W:Wd)(G:Pg)(T:Tb)(n m:Nat):Prop:=∀{io:am} {E:St->XK} {sc:Scope} {N:au} {X:Cx},Gs W G T n E sc N X->∀st,PS X st (bX W G n io E (cS T sc N m st))
theorem jF (ih:iN W G T n m)(g:Gs W G T n E sc N X):∀sts:aH,PSs X sts (dQ W G n io E (sts.map (cS T sc N m)))
 | []=>AA
 | st::sts=>zg (ih g st) (jF ih g sts)
def p8 (ih:iN W G T n m)(g:Gs W G T n E sc N X)(c:Expr)(a b:aH)(pos:Pos):PS X (.If c a b pos) (bX W G n io E (.iff (cT T sc N m c) (a.map (cS T sc N m)) (b.map (cS T sc N m)))):=
 (FR ((fe m).t g.gd c) (jF ih g a) (jF ih g b)).mono λDn σ H h=>Es h
def FF (ih:iN W G T n m)(g:Gs W G T n E sc N X)(c:Expr)(b:aH)(pos:Pos):PS X (.While c b [] pos) (bX W G n io E (.whl (cT T sc N m c) (b.map (cS T sc N m)))):=
 (ya g.own ((fe m).t g.gd c) (jF ih g b)).mono λDn σ H h=>Bi h
def Fl {st:Stmt}{tg:Tg}{wk:Wk}{b:List Ip.S}:PS X st (bX W G n io E (.fo tg wk [.bad] b)):=λpins s σ H Dn I ⟨_,_,_,_,_,_,_,h⟩=>by
 rw[Ip.sA,bP,eU] at h; exact h.elim
def zk (ih:iN W G T n m)(g:Gs W G T n E sc N X)(tg it:Expr)(b:aH)(pos:Pos)(t:Tg)(ht:cu sc N tg=some t)(hw:dP (cI T sc N m it).1 t=true) :
  PS X (.For tg it b [] pos) (bX W G n io E (.fo t (cI T sc N m it).1 (cI T sc N m it).2 (b.map (cS T sc N m)))):=by
 rcases qv it with ⟨a,b',c,rfl⟩ | hs
 .rw[rG]; exact Fl
 .exact (wM g.own g.gd.calm ((fe m).i g.gd tg it (qV ht hw)) (kE g.gd ht) (jF ih g b) (hs X.env)).mono λDn σ H h=>FU g.gd.K h
def zd (ih:iN W G T n m)(g:Gs W G T n E sc N X)(tg:Expr)(x y:Str)(b:aH)(pos p1 p2 p3 q:Pos)(is:am)(i j:Nat)(ht:cu sc N tg=some (.many is))(hg:bw sc "zip" = true)(hx:aZ sc x=true)(ox:aU x=true)(hy:aZ sc y=true)(oy:aU y=true)(hi:pos? x N=some i)(hj:pos? y N=some j) :
  PS X (.For tg (.Call (.Name "zip" p1) [.Name x p2,.Name y p3] [] q) b [] pos) (bX W G n io E (.foz (.many is) i j (b.map (cS T sc N m)))):=by
 obtain⟨es,k,tp,rfl⟩:=qV (wk:=.zip) ht rfl (.inr rfl);obtain⟨hm,hv⟩:=g.gd.bl (x := "zip") (v:=.type "zip") (bA 9 rfl);exact (wM g.own g.gd.calm (wQ (g.gd.gl _ hg) hm hv (gQ (gS g hx ox hi) (gQ (gS g hy oy hj) jR rfl) rfl)) (kE g.gd ht) (jF ih g b)).mono λDn σ H h=>FB g.gd.K h
def ps?_or {x:Str}{N:au}{f:Nat->Ip.S}:ps? x N f=.bad\/∃i,pos? x N=some i/\ps? x N f=f i:=by
 unfold ps?;cases pos? x N with
 | none=>exact .inl rfl
 | some i=>exact .inr ⟨i,rfl,rfl⟩
def pq {st:Stmt}{x:Str}{N:au}{f:Nat->Ip.S}(h:∀i,pos? x N=some i->PS X st (bX W G n io E (f i))):PS X st (bX W G n io E (ps? x N f)):=by
 rcases ps?_or (x:=x) (N:=N) (f:=f) with q | ⟨i,hi,q⟩
 .rw[q]; exact c9
 .rw[q]; exact h i hi
def z0 (g:Gs W G T n E sc N X)(ts:av)(e:Expr)(pos:Pos):PS X (.Assign ts e pos) (bX W G n io E (cS T sc N (m+1) (.Assign ts e pos))):=by
 rw[Ip.AW];cases ts with
 | nil=>exact c9
 | cons t r=>
  unfold Ip.jT;dsimp only;by_cases hr:r.isEmpty=true
  rotate_left
  .rw[if_neg hr]; exact c9
  rw[if_pos hr];obtain rfl:=Iy.mp hr;cases q1:Ip.bM t with
  | some x=>
   obtain⟨p1,rfl⟩:=Ip.gI q1;dsimp only;by_cases hl:bK sc x=true
   .rw[if_pos hl]; exact pq λi hi=>Ak g _ _ e pos i hl hi
   .rw[if_neg hl]; exact c9
  | none=>
   dsimp only;cases q2:Ip.jV t with
   | some xj=>
    obtain⟨x,j⟩:=xj;obtain⟨p1,p2,p3,rfl⟩:=Ip.At q2;dsimp only;by_cases hl:(aZ sc x&&aU x&&aZ sc j&&aU j)=true
    .rw[if_pos hl];simp only[tw] at hl;obtain⟨⟨⟨h1,h2⟩,h3⟩,h4⟩:=hl;refine pq λk hk=>?_;refine pq λj hj=>?_;exact yR g _ _ _ _ _ pos e k j h1 h2 hk h3 h4 hj
    .rw[if_neg hl]; exact c9
   | none=>
    dsimp only;cases q3:Ip.kf t with
    | none=>
     dsimp only;cases q4:Ip.iF t with
     | none=>exact c9
     | some es=>
      obtain⟨k,tp,rfl⟩:=Ip.v8 q4;dsimp only;by_cases hc:Ip.fA e=true
      rotate_left
      .rw[if_neg hc]; exact c9
      rw[if_pos hc];split
      .rename_i ht;exact Ec g _ _ _ e pos _ hc ht
      .exact c9
    | some xf=>
     obtain⟨x,f⟩:=xf;obtain⟨p1,p2,rfl⟩:=Ip.CP q3;dsimp only;by_cases hl:(aZ sc x&&aU x)=true
     rotate_left
     .rw[if_neg hl]; exact c9
     rw[if_pos hl];rw[tw] at hl;refine pq λk hk=>?_;refine pq λj hj=>?_;by_cases hf:T.fl.contains j=true
     .simp only[hf,if_true];exact yo g _ _ _ _ e pos k j hl.1 hl.2 hk hj hf
     .simp only[hf]; exact c9
def Cp (g:Gs W G T n E sc N X)(e:Expr)(pos:Pos):PS X (.Expr e pos) (bX W G n io E (cS T sc N (m+1) (.Expr e pos))):=by
 rw[Ip.DT];unfold Ip.kg;cases qm:Ip.kh e with
 | some t=>
  obtain⟨x,mm,mp,args,cp⟩:=t;obtain⟨xp,rfl⟩:=Ip.Ce qm;dsimp only;split
  .rename_i hc;simp only[tw,GC] at hc;obtain⟨⟨h1,h2⟩,rfl⟩:=hc;unfold Ip.ng;split
   .split
    .rename_i a hd;rw[tw] at hd;refine pq λk hk=>?_;exact zR g _ _ _ _ _ _ _ h1 h2 hk hd.1 hd.2
    .exact c9
   .exact c9
  .split
   .rename_i hc;simp only[tw,GC] at hc;obtain⟨⟨h1,h2⟩,rfl⟩:=hc;unfold Ip.lJ;split
    .split
     .rename_i hd;rw[tw] at hd;refine pq λk hk=>?_;exact A7 g _ _ _ _ _ _ _ h1 h2 hk hd.1 hd.2
     .exact c9
    .exact c9
   .split
    .rename_i hc;simp only[tw,GC] at hc;obtain⟨⟨h1,h2⟩,rfl⟩:=hc;unfold Ip.l5;split
     .split
      .rename_i hd;refine pq λk hk=>?_;exact E8 g _ _ _ _ _ _ h1 h2 hk hd
      .exact c9
     .exact c9
    .split
     .rename_i hc;simp only[tw,GC] at hc;obtain⟨⟨h1,h2⟩,rfl⟩:=hc;unfold Ip.nG;split
      .split
       .rename_i hd;rw[tw] at hd;refine pq λk hk=>?_;exact Fz g _ _ _ _ _ _ _ h1 h2 hk hd.1 hd.2
       .exact c9
      .exact c9
     .exact vc g _ pos λ_ _ _ _ z=>by cases z
 | none=>
  dsimp only;by_cases hL:Ip.mi e=true
  .rw[if_pos hL]; exact c9
  .rw[if_neg hL]; exact vc g e pos λ_ _ _ _ z=>hL (by rw[z]; rfl)
def A6 (g:Gs W G T n E sc N X)(o:Option Expr)(pos:Pos):PS X (.Return o pos) (bX W G n io E (cS T sc N (m+1) (.Return o pos))):=by
 rw[Ip.xK];cases o with
 | none=>exact FZ pos
 | some e=>
  unfold Ip.ke;dsimp only;cases q1:Ip.bM e with
  | some x=>
   obtain⟨p,rfl⟩:=Ip.gI q1;dsimp only;by_cases hc:(aZ sc x&&aU x)=true
   .rw[if_pos hc];rw[tw] at hc;refine pq λk hk=>?_;exact Bb g _ _ pos k hc.1 hc.2 hk
   .rw[if_neg hc]; exact c9
  | none=>
   dsimp only;cases qs:Ip.oz sc e with
   | none=>
    dsimp only;by_cases hb:oi (cE T sc N m e)=true
    .rw[if_pos hb]; exact c9
    .rw[if_neg hb]; exact D0 g e pos hb
   | some t=>
    obtain⟨s,x⟩:=t;dsimp only;obtain⟨k1,p1,p2,k3,p3,rfl,v1,v2⟩:=Ip.EK qs;refine pq λk hk=>?_;exact zv g x s k1 k3 p1 p2 p3 pos k v1 v2 hk
def Fi (ih:iN W G T n m)(g:Gs W G T n E sc N X)(tg it:Expr)(b els:aH)(pos:Pos):PS X (.For tg it b els pos) (bX W G n io E (cS T sc N (m+1) (.For tg it b els pos))):=by
 simp only[Ip.Aa,Ip.jQ];split
 .exact c9
 .split
  .rename_i t ht;cases qz:Ip.gW sc it with
   | none=>
    dsimp only;split
    .rename_i hw;exact zk ih g tg it b pos _ ht hw
    .exact c9
   | some z=>
    obtain⟨x,y⟩:=z;dsimp only;cases t with
    | one _=>exact c9
    | many is=>
     obtain⟨p1,p2,p3,q,rfl,a1,a2,a3,a4,a5⟩:=Ip.D2 qz;refine pq λi hi=>?_;refine pq λj hj=>?_;exact zd ih g tg x y b pos p1 p2 p3 q is i j ht a1 a2 a3 a4 a5 hi hj
  .exact c9
theorem wD (W:Wd)(G:Pg)(T:Tb)(n:Nat):∀m,iN W G T n m
 | 0=>λg st=>by exact c9
 | m+1=>λg st=>by
  have ih:iN W G T n m:=wD W G T n m;cases st with
  | Assign ts e pos=>exact z0 g ts e pos
  | Expr e pos=>exact Cp g e pos
  | Return o pos=>exact A6 g o pos
  | If c a b pos=>exact p8 ih g c a b pos
  | For tg it b els pos=>exact Fi ih g tg it b els pos
  | While c b els pos=>
   rw[Ip.Fc];by_cases he:els.isEmpty=true
   .rw[if_pos he];obtain rfl:=Iy.mp he;exact FF ih g c b pos
   .rw[if_neg he]; exact c9
  | _=>exact c9
end
section
variable {W:Wd}{G:Pg}{T:Tb}{n:Nat}{P:Program}{w:World}{mg:Str->aB}{base:Heap}
theorem qf {S:Hp}:∀{vs:aw} {ds:ay} {i:Nat} {d:D},Dens W S vs ds->ds[i]? = some d->∃v,vs[i]? = some v/\Den W S v d
 | _,_,_,_,.nil,h=>by simp at h
 | _,_,0,_,.cons h _,e=>by
  simp only[List.getElem?_cons_zero,HS] at e;subst e;exact⟨_,rfl,h⟩
 | _,_,i+1,_,.cons _ q,e=>by
  simp only[List.getElem?_cons_succ] at e ⊢;exact qf q e
def xm {F:Fn}{xs:ax}{i:Nat}{x:KD}(h:(bG F xs)[i]? = some (some x)):∃y,xs[i]? = some y/\x=if F.io.contains i then y else (0,y.2):=by
 unfold bG at h;by_cases hi:i<xs.length
 .rw[IA (by rw[JD]; exact hi),Hi,Gw hi] at h;simp only[Option.map_some,HS] at h;refine⟨xs[i],Gw hi,?_⟩;by_cases c:F.io.contains i=true
  .rw[if_pos c] at h ⊢; exact (cO h).symm
  .rw[if_neg c] at h ⊢; exact (cO h).symm
 .rw[Il (by rw[JD]; omega)] at h;have:=GH h;rw[List.mem_replicate] at this;cases this.2
def wX {F:Fn}{xs:ax}(h:xs.length=F.np)(h2:F.np<=F.ns):(bG F xs).length=F.ns:=by
 unfold bG;rw[GG,JD,Jj];omega
def o7 {N:au}{vs:aw}{i:Nat}{v:V}(h:vs[i]? = some v):(start N vs)[i]? = some (some v):=by
 unfold start;have hi:i<vs.length:=(dO h).1;rw[IA (by rw[Gx]; exact hi),GD,h]; rfl
def Ej {N:au}{vs:aw}(h:vs.length<=N.length):(start N vs).length=N.length:=by
 unfold start;rw[GG,Gx,Jj]; omega
def xR {M:Addr->Prop}:aX M (λ_=>[])=M:=funext λb=>propext ⟨λz=>z.elim id λ⟨_,y⟩=>by simp at y,.inl⟩
def BX {S H:Hp}:Own W S H 99 .non .non []:=⟨rfl,.non⟩
def Bo {S H:Hp}{k:Nat}{v:V}{fp:aq}(h:Own W S H k v .non fp):v=.non:=by
 cases k with
 | zero=>obtain⟨_,h⟩:=h; cases h; rfl
 | succ k=>obtain⟨_,h⟩:=h; cases h; rfl
def FrX.out {E0:Hp}{N:Addr->Prop}{pin:List (Nat×V)}{A:Fr}{σ:St}{H:Hp}{c:Nat}{fs:List aJ}{e:Addr}(h:FrX W E0 N pin A σ H c fs e):ExcR W E0 N H c fs e:=by
 obtain⟨F,f,he,C,vs,h1,h2,h3⟩:=h;exact⟨f.sub,he.1,C,vs,h1,h2,h3.mono λb u z=>bg.mpr ⟨λy=>(bg.mp z).1 (.inl y),(bg.mp z).2⟩⟩
theorem AM {H:Hp}{N:Addr->Prop}{o:O}{Q:VK}{E:XK}(h:match fin [] o with
  | .ret k d []=>∀v H',Res W H N H' (k,d) v->Q v H'
  | .exc c fs []=>∀e H',ExcR W H N H' c fs e->E (.ref e) none H'
  | _=>False):PostS W H N [] (λ_=>E) { nx:=λ_ H'=>Q .non H',rt:=Q } o:=by
 cases o with
 | nx A=>exact λσ H' F f=>h .non H' ⟨f.sub,[],.nil,λ_ z=>by simp at z,BX⟩
 | ret k d A=>
  rintro v σ H' ⟨fp,F,f,nd,fr,o⟩;refine h v H' ⟨f.sub,fp,nd,λb hb=>(fr b hb).1,o.mono (λb u z=>?_) λ_ _ _ e=>e⟩;exact bg.mpr ⟨λy=>(bg.mp z).1 (.inl y),(bg.mp z).2⟩
 | brk A=>exact h.elim
 | cnt A=>exact h.elim
 | exc c fs A=>exact λe σ H' x=>h e H' x.out
 | bad=>exact h.elim
theorem A8 {H:Hp}{N:Addr->Prop}{f0:aq}{v0:V}{o:O}{Q:VK}{E:XK}(h:match fin [0] o with
  | .ret k d [y]=>∀v H' (fp:aq),Sub (hid (λb=>b∈f0) H) H'->fp.Nodup->(∀b∈fp,hid (λb=>b∈f0) H b=none)->Own W (hid (λb=>N b\/b∈fp) H') H' y.1 v0 y.2 fp->(d=.non->v=.non)->Q v H'
  | .exc c fs _=>∀e H',ExcR W (hid (λb=>b∈f0) H) N H' c fs e->E (.ref e) none H'
  | _=>False):PostS W (hid (λb=>b∈f0) H) N [(0,v0)] (λ_=>E) { nx:=λ_ H'=>Q .non H',rt:=Q } o:=by
 have key:∀{N':Addr->Prop} {A:Fr} {σ:St} {H':Hp} {F:Nat->aq} {y:KD},FrF W (hid (λb=>b∈f0) H) N' [(0,v0)] A σ H' F->(∀b,N b->N' b)->A[0]? = some (some y)->Sub (hid (λb=>b∈f0) H) H'/\(F 0).Nodup/\(∀b∈F 0,hid (λb=>b∈f0) H b=none)/\Own W (hid (λb=>N b\/b∈F 0) H') H' y.1 v0 y.2 (F 0):=by
  intro N' A σ H' F y f hN hA;obtain⟨v,h1,h2⟩:=f.rel 0 y hA;have h3:=f.pn (0,v0) (by simp);rw[h1] at h3;cases h3;refine⟨f.sub,f.nd 0,λb hb=>(f.fr 0 b hb).1,h2.mono (λb u z=>?_) λ_ _ _ e=>e⟩;refine bg.mpr ⟨λy=>(bg.mp z).1 ?_,(bg.mp z).2⟩;exact y.elim (λq=>.inl (hN b q)) λq=>.inr ⟨0,q⟩
 cases o with
 | nx A=>
  intro σ H' F f;simp only[fin,outs] at h;cases q:A[0]? with
  | none=>rw[q] at h; exact h.elim
  | some o=>
   cases o with
   | none=>rw[q] at h; exact h.elim
   | some y=>
    rw[q] at h;obtain⟨a1,a2,a3,a4⟩:=key f (λ_ z=>z) q;exact h .non H' _ a1 a2 a3 a4 λ_=>rfl
 | ret k d A=>
  rintro v σ H' ⟨fp,F,f,nd,fr,o⟩;simp only[fin,outs] at h;cases q:A[0]? with
  | none=>rw[q] at h; exact h.elim
  | some o=>
   cases o with
   | none=>rw[q] at h; exact h.elim
   | some y=>
    rw[q] at h;obtain⟨a1,a2,a3,a4⟩:=key f (λ_ z=>.inl z) q;refine h v H' _ a1 a2 a3 a4 λz=>?_;subst z;exact Bo o
 | brk A=>exact h.elim
 | cnt A=>exact h.elim
 | exc c fs A=>
  intro e σ H' x;simp only[fin,outs] at h;cases q:A[0]? with
  | none=>rw[q] at h; exact h.elim
  | some o=>
   cases o with
   | none=>rw[q] at h; exact h.elim
   | some y=>rw[q] at h; exact h e H' x.out
 | bad=>exact h.elim
def zG {k:Nat}{F:Fn}{N:au}{vs:aw}{H:Hp}{Q:VK}{E:XK}(hF:G.fn k=some F)(hns:F.ns=N.length)(hnp:F.np<=F.ns)(h:gn W G (n+1) k F vs H Q E) :
  dQ W G n F.io (λ_=>E) F.body { nx:=λ_ H'=>Q .non H',rt:=Q } (start N vs) H:=by
 have hlen:=sE hF h;have hsl:(start N vs).length=N.length:=Ej (by omega);rcases h with ⟨hio,M,xs,hM,dv,h⟩ | ⟨hio,M,x0,xs,v0,ws,f0,rfl,hM,nd,dj,ow,dv,h⟩
 .have hx:xs.length=F.np:=by rw[dv.length,Gx] at hlen; exact hlen
  rw[Ip.run,hF] at h;simp only[if_pos hx,hio] at h;refine⟨H,M,[],bG F xs,λ_=>[],λp hp=>by simp at hp,⟨λ_ _ e=>e,hM,by rw[hsl,wX hx hnp,hns],λp hp=>by simp at hp,λ_=>.nil,λi j b hb=>by simp at hb,λi b hb=>by simp at hb,λi x e=>?_,λ_ _=>rfl⟩,?_⟩
  .obtain⟨y,e1,e2⟩:=xm e;rw[hio] at e2;simp only[List.contains_nil,GN,if_false] at e2;obtain⟨v,e3,e4⟩:=qf (i:=i) (d:=y.2) dv (by rw[GD,e1]; rfl);refine⟨v,o7 e3,?_⟩;rw[xR,e2];exact⟨rfl,e4⟩
  .rw[hio];exact AM h
 .have hx:(x0::xs).length=F.np:=by rw[List.length_cons,dv.length,Gx] at hlen; rw[List.length_cons]; exact hlen
  rw[Ip.run,hF] at h;simp only[if_pos hx,hio] at h;have hh:aX M (λi=>if i=0 then f0 else [])=λb=>M b\/b∈f0:=funext λb=>propext ⟨λz=>z.imp id λ⟨j,y⟩=>by
   by_cases q:j=0
   .simpa[q] using y
   .simp[q] at y,λz=>z.imp id λy=>⟨0,by simpa using y⟩⟩
  refine⟨hid (λb=>b∈f0) H,M,[(0,v0)],bG F (x0::xs),λi=>if i=0 then f0 else [],λp hp=>by simp at hp; rw[hp,hio]; simp,⟨λb u e=>(bg.mp e).2,hM,by rw[hsl,wX hx hnp,hns],λp hp=>?_,λi=>?_,λi j b h1 h2=>?_,λi b hb=>?_,λi x e=>?_,λi hi=>?_⟩,?_⟩
  .simp only[Gz] at hp;rw[hp];exact o7 rfl
  .split
   .exact nd
   .exact .nil
  .split at h1
   .split at h2
    .omega
    .simp at h2
   .simp at h1
  .split at hb
   .exact⟨by unfold hid; exact if_pos hb,dj b hb⟩
   .simp at hb
  .obtain⟨y,e1,e2⟩:=xm e;rw[hio] at e2;rw[hh];cases i with
   | zero=>
    simp only[List.getElem?_cons_zero,HS] at e1;subst e1;rw[if_pos (by simp)] at e2;subst e2;exact⟨v0,o7 rfl,by simpa using ow⟩
   | succ i=>
    simp only[List.getElem?_cons_succ] at e1;rw[if_neg (by simp)] at e2;obtain⟨v,e3,e4⟩:=qf (i:=i) (d:=y.2) dv (by rw[GD,e1]; rfl);refine⟨v,o7 (by simpa using e3),?_⟩;rw[e2];exact⟨by simp,e4⟩
  .split
   .rename_i z;subst z;exact absurd (show (bG F (x0::xs))[0]? = some (some x0) by simp[bG,hio]) (hi x0)
   .rfl
  .rw[hio];exact A8 h
structure FunD (K:bq)(x qual:Str)(st:Stmt)(f:Addr)(fd:FuncData):Prop where
 ex:∃(oc:Value) (od:aF) (dV kV doc pm:Value) (an:aF) (cdv ct:Value) (osl:Array aB),
  fd=PySem.W.fnOf x qual (ba st) (bo st) (cx st) dV kV doc pm an cdv ct/\K.lookup f=some ⟨oc,od,.func fd,osl⟩/\PySem.W.codeIn K cdv qual=true
def FunD.okX {N:au}{x qual:Str}{st:Stmt}{f:Addr}{fd:FuncData}{ps:au}{k:Nat}{sp:Sp}{K:bq}(F:FunD K x qual st f fd)(S:FnScope N ps (cx st))(len:∀vs H Q E,sp vs H Q E->vs.length=ps.length)
  (hbody:∀(cdv:Value) (A:Around) (outer:List Env) (s:Shared) (H:Hp) (vs:aw) (Q:VK) (E:XK),Room k (A.deeper (envOfC qual (cx st) s.heap.objs.size f cdv))->sp vs H Q E ->
   ∃t,PSs (fF (fQ P w) P w K mg base N qual (cx st) f cdv A outer s H E) (bo st) t/\t { nx:=λ_ H'=>Q .non H',rt:=Q } (start N vs) H):FnOk P w K mg base (fQ P w) (k+1) f fd ps sp:=by
 obtain⟨oc,od,dV,kV,doc,pm,an,cdv,ct,osl,rfl,lk,hcd⟩:=F.ex;exact ze lk hcd S len λA outer s H vs Q E hr hsp=>hbody cdv A outer s H vs Q E hr hsp
structure DefAt (W:Wd)(T:Tb)(F:Fn)(a:Addr):Prop where
 ex:∃(x qual:Str) (st:Stmt) (fd:FuncData) (ps:au) (io:am),FunD W.K x qual st a fd/\FnScope (fN (ba st) (cx st)) ps (cx st)/\cF T io st=some F/\F.np=ps.length /\
  ∀m,m<=F.np->F.np - m<=F.dfl.length->∃(ds:ar) (dvs:aw),Binds W.K fd ps ds/\Vals dvs ds/\∀S,Dens W S dvs (cZ F m)
def AT {io:am}{st:Stmt}{F:Fn}(h:cF T io st=some F):F.io=io/\F.ns=(fN (ba st) (cx st)).length/\F.np=(ba st).args.length/\F.body=(bo st).map (cS T (cx st) (fN (ba st) (cx st)) 60):=by
 unfold cF at h;split at h
 .obtain⟨ds,_,h2⟩:=cJ h;subst h2;exact⟨rfl,rfl,rfl,rfl⟩
 .cases h
def yT {a:Arguments}{sc:Scope}:a.args.length<=(fN a sc).length:=by
 unfold fN;rw[GG,Gx]; omega
def vK {k:Nat}{F:Fn}{a:Addr}{x qual:Str}{st:Stmt}{fd:FuncData}{ps:au}{io:am}(hF:G.fn k=some F)(g:∀m,n=m+1->GF W G T m P w mg base)(fu:FunD W.K x qual st a fd)(S:FnScope (fN (ba st) (cx st)) ps (cx st))(hc:cF T io st=some F)(hnp:F.np=ps.length) :
  FnOk P w W.K mg base (fQ P w) (rm n) a fd ps (gn W G n k F):=by
 obtain⟨c1,c2,c3,c4⟩:=AT hc;cases n with
 | zero=>
  refine fu.okX (k:=0) S (λvs H Q E h=>by rw[sE hF h,hnp]) λcdv A outer s H vs Q E hr h=>?_;rcases h with ⟨_,_,_,_,_,q⟩ | ⟨_,_,_,_,_,_,_,_,_,_,_,_,_,q⟩
  .exact q.elim
  .exact q.elim
 | succ n=>
  refine fu.okX (k:=3 * n+3) S (λvs H Q E h=>by rw[sE hF h,hnp]) λcdv A outer s H vs Q E hr h=>?_;refine⟨_,jF (io:=F.io) (E:=λ_=>E) (wD W G T n 60) (sc:=cx st) (N:=fN (ba st) (cx st)) ?_ (bo st),?_⟩
  .refine⟨⟨g n rfl,rfl,λy hy=>?_,λy hy=>?_,λy hy=>?_,λy hy=>hy,rfl,S.nd,rfl,passF,hr.mono (by unfold rm; omega)⟩,PassesOwn.leaving,⟨_,_,rfl,rfl⟩,rfl⟩
   .unfold aZ at hy;simp only[Hj,GC] at hy;exact hy.elim (λz=>z.elim .inl λz=>.inr (.inl z)) λz=>.inr (.inr z)
   .unfold bK at hy;simp only[Hj,GC] at hy;exact⟨hy,.inl rfl⟩
   .unfold bw at hy;simp only[GC] at hy;exact hy
  .rw[<-c4];exact zG hF c2 (by rw[c3,c2]; exact yT) h
def rQ {k:Nat}{F:Fn}{a:Addr}(hF:G.fn k=some F)(g:∀m,n=m+1->GF W G T m P w mg base)(d:DefAt W T F a):FI W G n P w mg base k F a:=by
 obtain⟨x,qual,st,fd,ps,io,fu,S,hc,hnp,dfl⟩:=d.ex;exact⟨fd,ps,vK hF g fu S hc hnp,dfl⟩
end
structure GF0 (W:Wd)(G:Pg)(T:Tb)(mg:Str->aB):Prop where
 cf:CF W T.fl
 att:W.att=T.att
 blt:∀x v,(x,v)∈ff->mg x=none/\bootBuiltins x=some v
 cst:∀x d,T.cst.lookup x=some d->(x == ("__debug__" : Str))=false/\∃u v,mg x=some u/\RelV v u/\d.flat=true/\∀S,Den W S v d
 fns:∀x k,T.fns.lookup x=some k->(x == ("__debug__" : Str))=false/\∃F a,G.fn k=some F/\mg x=some (.ref a)/\PySem.W.keepIn W.K (.ref a)=true/\DefAt W T F a
 cls:∀x c,T.cls.lookup x=some c->(x == ("__debug__" : Str))=false/\∃C,mg x=some (.ref C)/\∀Cl' f F,G.cl c=some Cl'->Cl'.init=some f->G.fn f=some F ->
  ∃a,DefAt W T F a/\Cl'.isx=false/\W.iA c=some C/\Mk W.K C a
 meth:∀c Cl' m f F,G.cl c=some Cl'->Cl'.meths.lookup m=some f->G.fn f=some F->∀nm,W.att[m]? = some nm->∃C a,W.iA c=some C/\Meth W.K C nm a/\DefAt W T F a
 isB:∀x t,kq.lookup x=some t->mg x=none/\x ≠ "__name__" /\ (x == ("__debug__" : Str))=false/\∃nm,bootBuiltins x=some (.type nm)/\cn W G t (.type nm)
 isC:∀x c,T.cls.lookup x=some c->∃C,mg x=some (.ref C)/\cn W G (.cls c) (.ref C)
def xS {W:Wd}{G:Pg}{T:Tb}{P:Program}{w:World}{mg:Str->aB}{base:Heap}(g0:GF0 W G T mg):∀n,GF W G T n P w mg base:=by
 have step:∀n,(∀m,n=m+1->GF W G T m P w mg base)->GF W G T n P w mg base:=λn ih=>
  ⟨g0.cf,g0.att,g0.blt,g0.cst,λx k h=>by
   obtain⟨h1,F,a,h2,h3,h4,h5⟩:=g0.fns x k h;exact⟨h1,F,a,h2,h3,h4,rQ h2 ih h5⟩,λx c h=>by
   obtain⟨h1,C,h2,h3⟩:=g0.cls x c h;refine⟨h1,C,h2,λCl' f F q1 q2 q3=>?_⟩;obtain⟨a,h4,h5⟩:=h3 Cl' f F q1 q2 q3;exact⟨a,rQ q3 ih h4,h5⟩,λc Cl' m f F q1 q2 q3 nm q4=>by
   obtain⟨C,a,h1,h2,h3⟩:=g0.meth c Cl' m f F q1 q2 q3 nm q4;exact⟨C,a,h1,h2,rQ q3 ih h3⟩,g0.isB,g0.isC⟩
 intro n;induction n with
 | zero=>exact step 0 λm h=>by cases h
 | succ n ih=>exact step (n+1) λm h=>by cases h; exact ih
section
variable {W:Wd}{T:Tb}{F:Fn}{f:Addr}{x qual:Str}{st:Stmt}{oc dV kV doc pm cdv ct:Value}{od an:aF}{osl:Array aB}{ps:au}{io:am}
def AK (l:W.K.lookup f=some ⟨oc,od,.func (PySem.W.fnOf x qual (ba st) (bo st) (cx st) dV kV doc pm an cdv ct),osl⟩)(c:PySem.W.codeIn W.K cdv qual=true)
  (S:FnScope (fN (ba st) (cx st)) ps (cx st))(hc:cF T io st=some F)(hnp:F.np=ps.length)(hd:F.dfl=[])
  (hb:∀us:ar,us.length=ps.length->bindArgs (PySem.W.fnOf x qual (ba st) (bo st) (cx st) dV kV doc pm an cdv ct) ⟨us,[]⟩=pure (ps.zip us)):DefAt W T F f:=by
 refine⟨x,qual,st,_,ps,io,⟨oc,od,dV,kV,doc,pm,an,cdv,ct,osl,rfl,l,c⟩,S,hc,hnp,λm h1 h2=>⟨[],[],Binds.all hb,.nil,λS=>?_⟩⟩;unfold cZ;rw[hd];simp;exact .nil
theorem mem_of_lookup {o:Obj}{a:Addr}:∀{l:ah},l.lookup a=some o->(a,o)∈l
 | [],h=>nomatch h
 | (y,j)::r,h=>by
  rw[List.lookup_cons] at h;cases e:a == y with
  | true=>
   rw[e] at h;rw[GC] at e;cases h;rw[e];exact bQ
  | false=>rw[e] at h; exact bN _ (mem_of_lookup h)
def f7 (K:bq):Sp:=λvs H Q _=>∃(a:Addr) (ns:ao),vs=[.ref a]/\SqL K H a (ns.map V.int)/\ns.length<=63/\∀H',Q (.bl true) H'
def yO {G:Pg}{n k:Nat}(hio:F.io=[])(hno:(W.K.all λp=>!(p.2.cls == Value.type "list"))=true)(hr:∀ns:List Int,ns.length<=63->∃kk,Ip.run G n k [(0,.lst (ns.map D.int))]=.ret kk (.bl true) []) :
  ∀vs H Q E,f7 W.K vs H Q E->gn W G n k F vs H Q E:=by
 rintro vs H Q E ⟨a,ns,e,hS,hl,hq⟩;subst e;obtain⟨kk,hr⟩:=hr ns hl;refine .inl ⟨hio,λ_=>False,[(0,.lst (ns.map D.int))],λ_ z=>z.elim,?_,?_⟩
 .have e:hid (λ_=>False) H=H:=funext λb=>by unfold hid; exact if_neg id
  rw[e];have hR:Rd H a (.lst (ns.map V.int)):=by
   rcases hS with h | ⟨o,its,m,h1,h2,_⟩
   .exact h
   .have:=dR hno (a,o) (mem_of_lookup h1);rw[h2] at this;simp at this
  refine .cons (.lst hR ?_) .nil;clear hr hS hR hl;induction ns with
  | nil=>exact .nil
  | cons i ns ih=>exact .cons .int ih
 .rw[hr];rintro v H' ⟨_,fp,_,_,o⟩;have:v=.bl true:=by
   cases kk with
   | zero=>obtain⟨_,o⟩:=o; cases o; rfl
   | succ kk=>obtain⟨_,o⟩:=o; cases o; rfl
  subst this;exact hq H'
end
section
variable {W:Wd}{G:Pg}{T:Tb}{mg:Str->aB}
def PF (W:Wd)(T:Tb)(G:Pg)(mg:Str->aB)(p:Str×Nat):Prop:=(p.1 == ("__debug__" : Str))=false/\∃F a,G.fn p.2=some F/\mg p.1=some (.ref a)/\PySem.W.keepIn W.K (.ref a)=true/\DefAt W T F a
def FG (W:Wd)(T:Tb)(G:Pg)(mg:Str->aB)(p:Str×Nat):Prop:=(p.1 == ("__debug__" : Str))=false/\∃C,mg p.1=some (.ref C)/\cn W G (.cls p.2) (.ref C)/\∀Cl' f F,G.cl p.2=some Cl'->Cl'.init=some f->G.fn f=some F ->
  ∃a,DefAt W T F a/\Cl'.isx=false/\W.iA p.2=some C/\Mk W.K C a
def PV (W:Wd)(mg:Str->aB)(p:Str×D):Prop:=(p.1 == ("__debug__" : Str))=false/\∃u v,mg p.1=some u/\RelV v u/\p.2.flat=true/\∀S,Den W S v p.2
def PM (W:Wd)(T:Tb)(G:Pg)(C:Addr)(p:Nat×Nat):Prop:=∃F nm a,G.fn p.2=some F/\W.att[p.1]? = some nm/\Meth W.K C nm a/\DefAt W T F a
theorem gj {α β:Type}[BEq α][LawfulBEq α]{a:α}{b:β}:∀{l:List (α×β)},l.lookup a=some b->(a,b)∈l
 | [],h=>nomatch h
 | (y,j)::r,h=>by
  rw[List.lookup_cons] at h;cases e:a == y with
  | true=>
   rw[e] at h;rw[GC] at e;cases h;rw[e];exact bQ
  | false=>rw[e] at h; exact bN _ (gj h)
def Ef (cf:CF W T.fl)(att:W.att=T.att)(blt:∀p∈ff,mg p.1=none/\bootBuiltins p.1=some p.2)(cst:∀p∈T.cst,PV W mg p)(fns:∀p∈T.fns,PF W T G mg p)(cls:∀p∈T.cls,FG W T G mg p)
  (meth:∀c Cl',G.cl c=some Cl'->Cl'.meths≠[]->∃C,W.iA c=some C/\∀p∈Cl'.meths,PM W T G C p)
  (isB:∀p∈kq,mg p.1=none/\p.1 ≠ "__name__" /\ (p.1 == ("__debug__" : Str))=false/\∃nm,bootBuiltins p.1=some (.type nm)/\cn W G p.2 (.type nm)):GF0 W G T mg where
 cf:=cf
 att:=att
 blt:=λx v h=>blt (x,v) h
 cst:=λx d h=>cst (x,d) (gj h)
 fns:=λx k h=>fns (x,k) (gj h)
 cls:=λx c h=>by
  obtain⟨h1,C,h2,_,h3⟩:=cls (x,c) (gj h);exact⟨h1,C,h2,h3⟩
 meth:=λc Cl' m f F h1 h2 h3 nm h4=>by
  have hm:=gj h2;obtain⟨C,e1,e2⟩:=meth c Cl' h1 (λz=>by rw[z] at hm; simp at hm);obtain⟨F',nm',a,e3,e4,e5,e6⟩:=e2 (m,f) hm;rw[h3] at e3; cases e3;rw[h4] at e4; cases e4;exact⟨C,a,e1,e5,e6⟩
 isB:=λx t h=>isB (x,t) (gj h)
 isC:=λx c h=>by
  obtain⟨_,C,h2,h3,_⟩:=cls (x,c) (gj h);exact⟨C,h2,h3⟩
def B7 {t:Ip.Ty}{cv:Value}(h0:PySem.W.kitOne W.K (.type "NoneType") cv=some (bj G .non t))(h1:PySem.W.kitOne W.K (.type "bool") cv=some (bj G (.bl true) t))(h2:PySem.W.kitOne W.K (.type "int") cv=some (bj G (.int 0) t))
  (h3:PySem.W.kitOne W.K (.type "str") cv=some (bj G (.str "") t))(h4:PySem.W.kitOne W.K (.type "list") cv=some (bj G (.lst []) t))(h5:PySem.W.kitOne W.K (.type "tuple") cv=some (bj G (.tup []) t))
  (h6:∀c C,W.iA c=some C->PySem.W.kitOne W.K (.ref C) cv=some (bj G (.ins c []) t))(h7:∀c C,W.xA c=some C->PySem.W.kitOne W.K (.ref C) cv=some (bj G (.exc c []) t)):cn W G t cv:=by
 intro d tv h;cases d with
 | non=>cases h; exact h0
 | bl b=>cases h; rw[h1]; cases t <;> rfl
 | int i=>cases h; rw[h2]; cases t <;> rfl
 | str s=>cases h; rw[h3]; cases t <;> rfl
 | lst xs=>cases h; rw[h4]; cases t <;> rfl
 | tup xs=>cases h; rw[h5]; cases t <;> rfl
 | ins c fs=>
  obtain⟨C,e1,e2⟩:=cJ h;subst e2;rw[h6 c C e1]; cases t <;> rfl
 | exc c fs=>
  obtain⟨C,e1,e2⟩:=cJ h;subst e2;rw[h7 c C e1]; cases t <;> rfl
end
noncomputable def dL (K:bq)(iL xL:List (Nat×Addr))(att:au):Wd:=⟨K,λc=>iL.lookup c,λc=>xL.lookup c,att⟩
def nr {α:Type}{l:List α}(h:l.length=1):∃a,l=[a]:=Jd.mp h
def gY {α:Type}{l:List α}{n:Nat}(h:l.length=n+1):∃a r,l=a::r/\r.length=n:=by
 cases l with
 | nil=>cases h
 | cons a r=>exact⟨a,r,rfl,Nat.succ.inj h⟩
def lG {α:Type}{l:List α}(h:l.length=2):∃a b,l=[a,b]:=by
 obtain⟨a,r,rfl,h2⟩:=gY h;obtain⟨b,rfl⟩:=nr h2;exact⟨a,b,rfl⟩
def nH {α:Type}{l:List α}(h:l.length=3):∃a b c,l=[a,b,c]:=by
 obtain⟨a,r,rfl,h2⟩:=gY h;obtain⟨b,c,rfl⟩:=lG h2;exact⟨a,b,c,rfl⟩
def mD {α:Type}{l:List α}(h:l.length=4):∃a b c d,l=[a,b,c,d]:=by
 obtain⟨a,r,rfl,h2⟩:=gY h;obtain⟨b,c,d,rfl⟩:=nH h2;exact⟨a,b,c,d,rfl⟩
def nq {α:Type}{l:List α}(h:l.length=6):∃a b c d e f,l=[a,b,c,d,e,f]:=by
 match l,h with
 | [a,b,c,d,e,f],_=>exact⟨a,b,c,d,e,f,rfl⟩
def pM {α:Type}{l:List α}(h:l.length=5):∃a b c d e,l=[a,b,c,d,e]:=by
 obtain⟨a,r,rfl,h2⟩:=gY h;obtain⟨b,c,d,e,rfl⟩:=mD h2;exact⟨a,b,c,d,e,rfl⟩
section
variable {K:bq}{iL xL:List (Nat×Addr)}{att:au}{fl:am}{G:Pg}{T:Tb}{mg:Str->aB}
noncomputable def rB (fl:am)(att:au):au:=fl.filterMap λf=>att[f]?
abbrev NoA (K:bq)(C:Addr)(ns:au):Prop:=(ns.map λn=>PySem.W.findIn K (.ref C) n)=ns.map λ_=>some none
def NoA.at {C:Addr}{ns:au}(h:NoA K C ns){n:Str}(hn:n∈ns):NoAttr K C n:=G7.mp h n hn
def xJ (nd:att.Nodup)(hi:∀p∈iL,InsC K p.2/\NoA K p.2 (rB fl att)):CF (dL K iL [] att) fl:=
 ⟨nd,λc C h=>⟨(hi (c,C) (gj h)).1,λf n hf hn=>(hi (c,C) (gj h)).2.at (IG.mpr ⟨f,hf,hn⟩)⟩,
  λ_=>rfl⟩
abbrev mx (K:bq)(G:Pg)(t:Ip.Ty)(cv:Value):Prop:=[PySem.W.kitOne K (.type "NoneType") cv,PySem.W.kitOne K (.type "bool") cv,PySem.W.kitOne K (.type "int") cv,PySem.W.kitOne K (.type "str") cv,PySem.W.kitOne K (.type "list") cv,PySem.W.kitOne K (.type "tuple") cv]=[some (bj G .non t),some (bj G (.bl true) t),some (bj G (.int 0) t),some (bj G (.str "") t),some (bj G (.lst []) t),some (bj G (.tup []) t)]
abbrev rj (K:bq)(iL:List (Nat×Addr))(G:Pg)(t:Ip.Ty)(cv:Value):Prop:=(iL.map λp=>PySem.W.kitOne K (.ref p.2) cv)=iL.map λp=>some (bj G (.ins p.1 []) t)
abbrev pB (K:bq)(xL:List (Nat×Addr))(G:Pg)(t:Ip.Ty)(cv:Value):Prop:=(xL.map λp=>PySem.W.kitOne K (.ref p.2) cv)=xL.map λp=>some (bj G (.exc p.1 []) t)
def Di {t:Ip.Ty}{cv:Value}(hb:mx K G t cv)(hi:rj K iL G t cv)(hx:pB K xL G t cv):cn (dL K iL xL att) G t cv:=by
 unfold mx at hb;injection hb with h0 hb;injection hb with h1 hb;injection hb with h2 hb;injection hb with h3 hb;injection hb with h4 hb;injection hb with h5 hb;exact B7 h0 h1 h2 h3 h4 h5 (λc C h=>G7.mp hi (c,C) (gj h)) λc C h=>G7.mp hx (c,C) (gj h)
def FnAt (K:bq)(x qual:Str)(st:Stmt)(f:Addr):Prop:=∃(oc:Value) (od:aF) (kV doc pm:Value) (an:aF) (cdv ct:Value) (osl:Array aB),
 K.lookup f=some ⟨oc,od,.func (PySem.W.fnOf x qual (ba st) (bo st) (cx st) .none kV doc pm an cdv ct),osl⟩/\PySem.W.codeIn K cdv qual=true
def FnAt.mk {x qual:Str}{st:Stmt}{f:Addr}{oc kV doc pm cdv ct:Value}{od an:aF}{osl:Array aB}(l:K.lookup f=some ⟨oc,od,.func (PySem.W.fnOf x qual (ba st) (bo st) (cx st) .none kV doc pm an cdv ct),osl⟩)(c:PySem.W.codeIn K cdv qual=true):FnAt K x qual st f:=
 ⟨oc,od,kV,doc,pm,an,cdv,ct,osl,l,c⟩
def FnAtD (K:bq)(x qual:Str)(st:Stmt)(v:V)(f:Addr):Prop:=∃(oc:Value) (od:aF) (t:Addr) (kV doc pm:Value) (an:aF) (cdv ct:Value) (osl:Array aB) (u oct:Value) (odt:aF) (n:Nat) (slt:Array aB),
 K.lookup f=some ⟨oc,od,.func (PySem.W.fnOf x qual (ba st) (bo st) (cx st) (.ref t) kV doc pm an cdv ct),osl⟩/\PySem.W.codeIn K cdv qual=true/\K.lookup t=some ⟨oct,odt,.seq #[u] n,slt⟩/\RelV v u
def FnAtD.mk {x qual:Str}{st:Stmt}{v:V}{f t:Addr}{oc kV doc pm cdv ct u oct:Value}{od an odt:aF}{osl slt:Array aB}{n:Nat}(l:K.lookup f=some ⟨oc,od,.func (PySem.W.fnOf x qual (ba st) (bo st) (cx st) (.ref t) kV doc pm an cdv ct),osl⟩)(c:PySem.W.codeIn K cdv qual=true)
  (lt:K.lookup t=some ⟨oct,odt,.seq #[u] n,slt⟩)(r:RelV v u):FnAtD K x qual st v f:=⟨oc,od,t,kV,doc,pm,an,cdv,ct,osl,u,oct,odt,n,slt,l,c,lt,r⟩
def FH {K:bq}{iL xL:List (Nat×Addr)}{P:Program}{w:World}{n:Nat}{F:Fn}{f:Addr}{st:Stmt}{x:Str}(g0:GF0 (dL K iL xL att) G T mg)(hno:(K.all λp=>!(p.2.cls == Value.type "list"))=true)(hF:G.fn 69=some F)(hio:F.io=[])(d:FnAt K "law" "law" st f)
  (S:FnScope (fN (ba st) (cx st)) [x] (cx st))(hc:cF T [] st=some F)(hnp:F.np=1)(hb:∀(kV doc pm:Value) (an:aF) (cdv ct:Value) (u:Value),bindArgs (PySem.W.fnOf "law" "law" (ba st) (bo st) (cx st) .none kV doc pm an cdv ct) ⟨[u],[]⟩=pure [(x,u)])
  (hr:∀ns:ao,ns.length<=63->∃kk,Ip.run G n 69 [(0,.lst (ns.map D.int))]=.ret kk (.bl true) []) :
  ∃fd:FuncData,(∀(s:Shared) (u:Value),BindsTo s fd ⟨[u],[]⟩ [(x,u)])/\∀base:Heap,K.In base->base.Ns mainGlobals mg->FnOk P w K mg base (fQ P w) (rm n) f fd [x] (f7 K):=by
 obtain⟨oc,od,kV,doc,pm,an,cdv,ct,osl,l,c⟩:=d;refine⟨_,λs u=>.of_eq (hb kV doc pm an cdv ct u),λbase _ _=>?_⟩;have fu:FunD (dL K iL xL att).K "law" "law" st f (PySem.W.fnOf "law" "law" (ba st) (bo st) (cx st) .none kV doc pm an cdv ct):=⟨oc,od,.none,kV,doc,pm,an,cdv,ct,osl,rfl,l,c⟩
 exact (vK (n:=n) hF (λm _=>xS g0 m) fu S hc hnp).imp (yO (W:=dL K iL xL att) hio hno hr)
end
end L2
end
section
namespace Hd
open PySem PySem.W PySem.Calls PyProof.Rows
noncomputable def gK (thr ok:Thread->Bool)(stp:SharedT->Thread->Option (SharedT×Thread))(n:Nat):SharedT->Thread->Option SharedT:=
 @Nat.rec (λ_=>SharedT->Thread->Option SharedT) (λ_ _=>none) (λ_ ih s t=>match thr t with
  | true=>some s
  | false=>match ok t with
   | false=>none
   | true=>match stp s t with
    | some (s',t')=>ih s' t'
    | none=>none) n
theorem Fk (thr ok:Thread->Bool)(stp:SharedT->Thread->Option (SharedT×Thread))(n:Nat)(s:SharedT)(t:Thread):gK thr ok stp (n+1) s t=(match thr t with
  | true=>some s
  | false=>match ok t with
   | false=>none
   | true=>match stp s t with
    | some (s',t')=>gK thr ok stp n s' t'
    | none=>none):=rfl
theorem uU {tb:String->Option Builtin}{p:Program}{w:World}{n₀:Nat}{ann:aB}:∀(n:Nat) (s s':SharedT) (t:Thread),gK through (stepOk n₀ ann) (stepT (denote tb) p w) n s t=some s'->topRun tb p w n₀ ann n s.abs t=some s'.abs
 | 0,_,_,_,h=>by cases h
 | n+1,s,s',t,h=>by
  rw[Fk] at h;unfold topRun;cases ht:through t with
  | true=>rw[ht] at h; cases h; rfl
  | false=>
   rw[ht] at h;cases hk:stepOk n₀ ann t with
   | false=>rw[hk] at h; cases h
   | true=>
    rw[hk] at h;cases hs:stepT (denote tb) p w s t with
    | none=>rw[hs] at h; cases h
    | some r=>obtain⟨s₂,t₂⟩:=r; rw[hs] at h; dsimp only; rw[stepT_spec hs]; exact uU n s₂ s' t₂ h
noncomputable def lookG {β α:Type}(mods:au)(so lk:Heap->Heap->Bool)(nb:Heap->Bool)(seen:Shared->β)(Yf:Shared->α)(h₀:Heap)(st:SharedT):Bool×β×α:=
 (so h₀ st.abs.heap&&nb st.abs.heap&&gensDone st.abs&&lk h₀ st.abs.heap,seen st.abs,Yf st.abs)
def C4 {p q:Program}{loose:au}{Xt:Shared->Bool}{α:Type}{Yf:Shared->α}{Ya:World->α}{N m₀:Nat}{ann:aB}{T0:Params->BT}{life:Params->Life}
  (e:opening p=plainProg p.main.scope.names)(hN:Nat.ble 600 N=true)(f:∀s,fenceModules? p s=some s)
  (size:∀w:World,((boot_heap w.params).isNs mainGlobals,(boot_heap w.params).objs.size,(boot_heap w.params).nsMap mainGlobals "__annotations__")=(true,m₀,ann))
  (habs:∀P,absHeap (T0 P) m₀ (life P)=boot_heap P)
  (run:∀(w:World) (os:OsState),(gK through (stepOk m₀ ann) (stepT (denote treeTable) p w) N ⟨T0 w.params,m₀,life w.params,Array.mk [],boot_drawn,boot_toks,os⟩ (topStub p)).map
   (lookG (importedModules p.main.body) (staticsOk (importedModules p.main.body)) laidKept (namesBound p) (openSeen q loose (importedModules p.main.body) Xt true) Yf (boot_heap w.params))=some (true,openGood q loose,Ya w)) :
  LeftO p q loose Xt Yf Ya N:=λw=>by
 obtain⟨⟨h,gs,d,k,os⟩,e1,e'⟩:=cJ (boot_open e hN f w);obtain⟨rfl,rfl,rfl,rfl⟩:h=boot_heap w.params/\gs=Array.mk []/\d=boot_drawn/\k=boot_toks:=by simpa using e'
 obtain⟨z1,z2,z3⟩:_/\_/\_:=by simpa only[Hr] using size w
 obtain⟨st,hr,hl⟩:=cJ (run w os);have r:=uU _ _ _ _ hr;have ha:SharedT.abs ⟨T0 w.params,m₀,life w.params,Array.mk [],boot_drawn,boot_toks,os⟩=⟨boot_heap w.params,Array.mk [],boot_drawn,boot_toks,os⟩:=by
  show Shared.mk _ _ _ _ _=_;rw[habs]
 rw[ha] at r;obtain⟨l1,l2,l3⟩:_/\_/\_:=by simpa only[lookG,Hr] using hl
 have t:topFrom treeTable p w N ⟨boot_heap w.params,Array.mk [],boot_drawn,boot_toks,os⟩=some st.abs:=by
  unfold topFrom;dsimp only;rw[z1,z2,z3];show ((topRun treeTable p w m₀ ann N _ (topStub p)).bind _)=_;rw[r];show (match staticsOk (importedModules p.main.body) (boot_heap w.params) st.abs.heap&&namesBound p st.abs.heap&&gensDone st.abs&&laidKept (boot_heap w.params) st.abs.heap with | true=>_ | false=>_)=_;rw[l1]
 unfold openEnds;rw[e1];show (topFrom treeTable p w N _).map _=_;rw[t];exact congrArg some (Prod.ext l2 l3)
end Hd
end
section
namespace Hd
open PySem PySem.Spec PySem.W PyProof.Rows L2
noncomputable abbrev va:=(Str×Str×Arguments×FuncBody)×Scope×Addr×List (Str×Addr)×Value×Addr×Bool
noncomputable def sY (K:Frag)(f:Addr):Option va:=match K.lookup f with
 | some ⟨_,_,.func fd,_⟩=>some ((fd.name,fd.qualname,fd.params,fd.body),fd.scope,fd.globals,fd.closure,fd.defaults,fd.builtins,codeIn K fd.code fd.qualname)
 | _=>none
noncomputable def sR (K:Frag)(t:Addr):Option ar:=match K.lookup t with
 | some ⟨_,_,.seq xs _,_⟩=>some xs.toList
 | _=>none
def vp {K:Frag}{f:Addr}{x qual:Str}{st:Stmt}(h:sY K f=some ((x,qual,ba st,.stmts (bo st)),cx st,mainGlobals,[],.none,builtinsNs,true)):FnAt K x qual st f:=by
 unfold sY at h;split at h
 .rename_i fd _ hk;obtain⟨a1,a2,a3,a4,a5,a6,a7,a8,a9,a10,a11,a12,a13,a14,a15⟩:=fd;simp only[HS,Hr] at h;obtain⟨⟨rfl,rfl,rfl,rfl⟩,rfl,rfl,rfl,rfl,rfl,hc⟩:=h;exact .mk hk hc
 .cases h
noncomputable def oY (as:aq)(h:Heap):Frag:=as.filterMap λa=>(h.get? a).map λo=>(a,o)
theorem xC (h:Heap):∀as:aq,(oY as h).In h
 | []=>λa o e=>by cases e
 | a::as=>λb o e=>by
  have ih:=xC h as;unfold oY at e ih;rw[List.filterMap_cons] at e;cases q:h.get? a with
  | none=>rw[q] at e; exact ih b o e
  | some x=>
   rw[q] at e;by_cases hb:b=a
   .subst hb;have:some x=some o:=by simpa[List.lookup_cons] using e
    cases this;exact q
   .have:(List.filterMap (λa=>(h.get? a).map λo=>(a,o)) as).lookup b=some o:=by
     have hb':(b == a)=false:=Hu.mpr hb;simpa[List.lookup_cons,hb'] using e
    exact ih b o this
noncomputable def iR {α:Type}(as:aq)(q:Frag->α)(v:α):Hook where
 α:=α
 obs:=λs=>q (oY as s.heap)
 val:=λ_=>v
 says:=λ_ h=>∃K:Frag,K.In h/\q K=v
 of:=λ_ s e=>⟨_,xC s.heap as,e⟩
 keeps:=λ_ _ _ ⟨K,a,b⟩ k=>⟨K,a.keeps k,b⟩
def FT {l:OpenLaw}{n k:Nat}{q:Program}{loose:au}{XP:(Str->aB)->Heap->Prop}{d:DefRec}{α:Type}{as:aq}{qs:Frag->α}{v:α}{CX:World->gk}{sp:World->Frag->Sp}{x:Str}
  (hn:l.most=some n)(hn2:n<=sizeLine)(hdf:d.params.defaults=[])(hr:Room k callerA)
  (F:∀(w:World) (K:Frag) (mg:Str->aB) (fa:Addr) (h:Heap),qs K=v->K.In h->h.Ns mainGlobals mg->mg d.name=some (.ref fa) ->
   ∃fd:FuncData,(∀(s:Shared) (u:Value),BindsTo s fd ⟨[u],[]⟩ [(x,u)]) /\
    ∀base:Heap,K.In base->base.Ns mainGlobals mg->FnOk l.prog w K mg base (CX w) k fa fd [x] (sp w K))
  (hsp:∀(w:World) (K:Frag) (H:Hp) (a:Addr) (ns:ao),ns.length<=n->jD H->SqL K H a (ns.map V.int)->sp w K [.ref a] H (λv _=>v=.bl true) λ_ _ _=>False)
  (hCX:∀(w:World) (H:Hp) (s:Shared) (e:Value) (s':Shared),CX w [] H s (λ_ _ _=>False) e s'->False) :
  WalkO q loose XP (Hook.says (iR as qs v)) l.row.toRowW d [] (λf vs=>PySem.call f vs):=by
 refine Att.attach_call hn hdf λw s₀ s₁ mg mb fa o pm cd doc a vs ns G Y ho hd hcd hmg hobj hints hlen hg=>?_;obtain⟨K,KX,hq⟩:=Y;obtain⟨fd,hb,hF⟩:=F w K mg fa _ hq KX G.T.g hmg;exact Bk KX G.T.g G.T.b G.T.builtins G.T.nolimit hg hobj hints (bH hlen hn2) hr hF hb (λH hO hS=>hsp w K H a ns hlen hO hS) λH e s'=>hCX w H s₁ e s'
def Cn {α:Type}{p:α->Prop}{a:α}{l:List α}(h:p a)(t:∀b∈l,p b):∀b∈a::l,p b:=List.forall_mem_cons.mpr ⟨h,t⟩
def Nl {α:Type}{p:α->Prop}:∀b∈([]:List α),p b:=λ_ h=>nomatch h
structure Fd where
 x:Str
 q:Str
 k:Nat
 f:Addr
 st:Stmt
 d:Option (Addr×Value)
noncomputable abbrev OV:=Option aB
noncomputable abbrev DV:=Option va×Option (Option ar)
noncomputable def rJ (d:Option (Addr×Value)):Value:=match d with
 | none=>.none
 | some p=>.ref p.1
noncomputable def qD (K:Frag)(d:Fd):DV:=(sY K d.f,d.d.map λp=>sR K p.1)
noncomputable def aD (d:Fd):DV:=(some ((d.x,d.q,ba d.st,.stmts (bo d.st)),cx d.st,mainGlobals,[],rJ d.d,builtinsNs,true),d.d.map λp=>some [p.2])
section
variable {W:Wd}{T:Ip.Tb}{G:Ip.Pg}{F:Ip.Fn}{ps:au}{io:am}{d:Fd}{mg:Str->aB}{K:Frag}
noncomputable def uy (N ps:au)(sc:Scope):Bool:=sc.kind == .function&&(sc.isCoroutine == false&&(sc.isGenerator == false&&(decide N.Nodup&&(N.take ps.length == ps&&(ps.all (λx=>sc.names.lookup x == some .local||sc.names.lookup x == some .cell)&&sc.names.all λy=>y.2 != .free)))))
def vo {N ps:au}{sc:Scope}(h:uy N ps sc=true):FnScope N ps sc:=by
 simp only[uy,tw,GC,GV,List.all_eq_true,Hj,bne_iff_ne] at h;obtain⟨h1,h2,h3,h4,h5,h6,h7⟩:=h;exact⟨h1,h2,h3,h4,h5,h6,h7⟩
def cq (h:qD W.K d=aD d)(hd:d.d=none:=by rfl)(S:FnScope (Ip.fN (ba d.st) (cx d.st)) ps (cx d.st):=by exact vo (by kernel_rfl))(hc:Ip.cF T io d.st=some F:=by kernel_rfl)(hnp:F.np=ps.length:=by rfl)(hf:F.dfl=[]:=by rfl)
  (hb:∀(kV doc pm:Value) (an:aF) (cdv ct:Value) (us:ar),us.length=ps.length->bindArgs (fnOf d.x d.q (ba d.st) (bo d.st) (cx d.st) .none kV doc pm an cdv ct) ⟨us,[]⟩=pure (ps.zip us):=by
   intro _ _ _ _ _ _ us hl;first | (obtain⟨_,rfl⟩:=nr hl; rfl) | (obtain⟨_,_,rfl⟩:=lG hl; rfl) | (obtain⟨_,_,_,rfl⟩:=nH hl; rfl) | (obtain⟨_,_,_,_,rfl⟩:=mD hl; rfl) | (obtain⟨_,_,_,_,_,rfl⟩:=pM hl; rfl) | (obtain⟨_,_,_,_,_,_,rfl⟩:=nq hl; rfl)):DefAt W T F d.f:=by
 have h1:=(Im h).1;rw[hd] at h1;obtain⟨oc,od,kV,doc,pm,an,cdv,ct,osl,l,c⟩:=vp h1;exact AK l c S hc hnp hf λus hl=>hb kV doc pm an cdv ct us hl
def sV (W:Wd)(T:Ip.Tb)(G:Ip.Pg)(d:Fd):Prop:=∃F,G.fn d.k=some F/\(qD W.K d=aD d->DefAt W T F d.f)
structure Ic where
 x:Str
 c:Nat
 C:Addr
 d:Fd
noncomputable def qI (K:Frag)(ns:au)(e:Ic):OV×List Bool×List OV×List (Option Bool)×List OV×DV:=
  (nsIn K mainGlobals e.x,[plainGet K e.C Str.empty,hasDictIn K e.C,plainOver K e.C,makesIn K e.C,isFn K (.ref e.d.f),keepIn K (.ref e.C)],
   [findIn K (.ref e.C) "__setattr__",findIn K (.ref e.C) "__class__",specialIn K (.builtin "object.__class__") "__get__",findIn K (.ref e.C) "__init__"],
   [takesIn K (.builtin "object.__class__"),mroIn K e.C (.type "object")],ns.map λn=>findIn K (.ref e.C) n,qD K e.d)
noncomputable def aI (ns:au)(e:Ic):OV×List Bool×List OV×List (Option Bool)×List OV×DV:=
  (some (some (.ref e.C)),[true,true,true,true,true,true],
   [some (some (.builtin "object.__setattr__")),some (some (.builtin "object.__class__")),some (some (.builtin "getset_descriptor.__get__")),some (some (.ref e.d.f))],
   [some true,some true],ns.map λ_=>some none,aD e.d)
def ins_of {ns:au}{e:Ic}(h:qI K ns e=aI ns e):nsIn K mainGlobals e.x=some (some (.ref e.C))/\InsC K e.C/\NoA K e.C ns/\Mk K e.C e.d.f/\qD K e.d=aD e.d:=by
 simp only[qI,aI,Hr,He,and_true] at h;obtain⟨h1,⟨b1,b2,b3,b4,b5,b6⟩,⟨c1,c2,c3,c4⟩,⟨d1,d2⟩,h5,h6⟩:=h;exact⟨h1,⟨⟨b1,b2,b3,c1⟩,c2,c3,d1,d2⟩,h5,⟨b4,c4,b5,b6⟩,h6⟩
noncomputable def qT (K:Frag)(iL xL:List (Nat×Addr))(cv:Value):List (Option Bool)×List (Option Bool)×List (Option Bool):=
 ([kitOne K (.type "NoneType") cv,kitOne K (.type "bool") cv,kitOne K (.type "int") cv,kitOne K (.type "str") cv,kitOne K (.type "list") cv,kitOne K (.type "tuple") cv],iL.map λp=>kitOne K (.ref p.2) cv,xL.map λp=>kitOne K (.ref p.2) cv)
noncomputable def aT (G:Ip.Pg)(iL xL:List (Nat×Addr))(t:Ip.Ty):List (Option Bool)×List (Option Bool)×List (Option Bool):=
 ([some (Ip.bj G .non t),some (Ip.bj G (.bl true) t),some (Ip.bj G (.int 0) t),some (Ip.bj G (.str "") t),some (Ip.bj G (.lst []) t),some (Ip.bj G (.tup []) t)],iL.map λp=>some (Ip.bj G (.ins p.1 []) t),xL.map λp=>some (Ip.bj G (.exc p.1 []) t))
def Eo {iL xL:List (Nat×Addr)}{att:au}{t:Ip.Ty}{cv:Value}(h:qT K iL xL cv=aT G iL xL t):cn (dL K iL xL att) G t cv:=
 Di (Im h).1 (Im (Im h).2).1 (Im (Im h).2).2
end
structure Tl where
 fL:List Fd
 iC:List Ic
 nC:List (Str×Nat×Addr)
 mL:List (Addr×Fd)
 cL:List (Str×Int×Nat)
 tL:List (Str×Addr×List (Str×Nat))
noncomputable def Tl.iL (B:Tl):List (Nat×Addr):=B.iC.map λe=>(e.c,e.C)
noncomputable def tyV:List (Ip.Ty×Value):=[(.int,.type "int"),(.bool,.type "bool"),(.str,.type "str"),(.list,.type "list"),(.tuple,.type "tuple"),(.dict,.type "dict"),(.verr,.type "ValueError")]
noncomputable def Tl.ty (B:Tl):List (Ip.Ty×Value):=tyV++(B.nC.map (λe=>(.cls e.2.1,.ref e.2.2))++B.iC.map λe=>(.cls e.c,.ref e.C))
noncomputable def zL:au:=ff.map (·.1)++Ip.kq.map (·.1)
noncomputable abbrev OB:=List (OV×Bool×DV)×List (OV×List Bool×List OV×List (Option Bool)×List OV×DV)×List OV×List (OV×Bool×Bool×DV) ×
 List (List (Option Bool)×List (Option Bool)×List (Option Bool))×List OV×List OV×Bool×List (OV×Option (Value×Bool×Option ar))
noncomputable def iE (K:Frag)(a:Addr):Option (Value×Bool×Option ar):=(K.lookup a).map λo=>(o.cls,o.dict.isNone,match o.data with
 | .seq its _=>some its.toList
 | _=>none)
noncomputable def Tl.q (B:Tl)(ns:au)(K:Frag):OB:=
  (B.fL.map λd=>(nsIn K mainGlobals d.x,keepIn K (.ref d.f),qD K d),B.iC.map (qI K ns),B.nC.map λe=>nsIn K mainGlobals e.1,
   B.mL.map λe=>(findIn K (.ref e.1) e.2.x,isFn K (.ref e.2.f),keepIn K (.ref e.2.f),qD K e.2),
   B.ty.map λe=>qT K B.iL [] e.2,
   zL.map λx=>nsIn K mainGlobals x,B.cL.map λc=>nsIn K mainGlobals c.1,K.all (λp=>!(p.2.cls == Value.type "list")),B.tL.map λc=>(nsIn K mainGlobals c.1,iE K c.2.1))
noncomputable def Tl.a (B:Tl)(ns:au)(G:Ip.Pg):OB:=
  (B.fL.map λd=>(some (some (.ref d.f)),true,aD d),B.iC.map (aI ns),B.nC.map λe=>some (some (.ref e.2.2)),
   B.mL.map λe=>(some (some (.ref e.2.f)),true,true,aD e.2),
   B.ty.map λe=>aT G B.iL [] e.1,
   zL.map λ_=>some none,B.cL.map λc=>some (some (.int c.2.1 c.2.2)),true,B.tL.map λc=>(some (some (.ref c.2.1)),some (.type "tuple",true,some (c.2.2.map λs=>.str s.1 s.2))))
def zn:∀p∈ff,bootBuiltins p.1=some p.2:=Cn rfl <| Cn rfl <| Cn rfl <| Cn rfl <| Cn rfl <| Cn rfl <| Cn rfl <| Cn rfl <| Cn rfl <| Cn rfl <| Cn rfl <| Cn rfl <| Cn rfl Nl
def BN:∀p∈Ip.kq,p.1 ≠ "__name__" /\ (p.1 == ("__debug__" : Str))=false/\∃nm,bootBuiltins p.1=some (.type nm)/\(p.2,Value.type nm)∈tyV:=
 Cn ⟨by decide +kernel,by decide +kernel,_,rfl,by simp[tyV]⟩ <| Cn ⟨by decide +kernel,by decide +kernel,_,rfl,by simp[tyV]⟩ <| Cn ⟨by decide +kernel,by decide +kernel,_,rfl,by simp[tyV]⟩ <| Cn ⟨by decide +kernel,by decide +kernel,_,rfl,by simp[tyV]⟩ <|
 Cn ⟨by decide +kernel,by decide +kernel,_,rfl,by simp[tyV]⟩ <| Cn ⟨by decide +kernel,by decide +kernel,_,rfl,by simp[tyV]⟩ <| Cn ⟨by decide +kernel,by decide +kernel,_,rfl,by simp[tyV]⟩ Nl
section
variable {T:Ip.Tb}{G:Ip.Pg}{mg:Str->aB}{K:Frag}{h:Heap}{B:Tl}{ns:au}
def r8 {l:au}(s:(l.all λx=>!(x == ("__debug__" : Str)))=true){x:Str}(hx:x∈l):(x == ("__debug__" : Str))=false:=by
 have:=dR s x hx;simpa using this
def xH {p:Str×Nat}(s:(B.nC.any (λe=>e.1 == p.1&&e.2.1 == p.2)||B.iC.any (λe=>e.x == p.1&&e.c == p.2))=true) :
  (∃e∈B.nC,e.1=p.1/\e.2.1=p.2)\/∃e∈B.iC,e.x=p.1/\e.c=p.2:=by
 simp only[Hj,Jp,tw,GC] at s;exact s
structure Ans (B:Tl)(ns:au)(G:Ip.Pg)(K:Frag):Prop where
 f:∀d∈B.fL,nsIn K mainGlobals d.x=some (some (.ref d.f))/\keepIn K (.ref d.f)=true/\qD K d=aD d
 i:∀e∈B.iC,nsIn K mainGlobals e.x=some (some (.ref e.C))/\InsC K e.C/\NoA K e.C ns/\Mk K e.C e.d.f/\qD K e.d=aD e.d
 n:∀e∈B.nC,nsIn K mainGlobals e.1=some (some (.ref e.2.2))
 m:∀e∈B.mL,Meth K e.1 e.2.x e.2.f/\qD K e.2=aD e.2
 t:∀e∈B.ty,∀att,cn (dL K B.iL [] att) G e.1 e.2
 z:∀x∈zL,nsIn K mainGlobals x=some none
 c:∀c∈B.cL,nsIn K mainGlobals c.1=some (some (.int c.2.1 c.2.2))
 l:(K.all λp=>!(p.2.cls == Value.type "list"))=true
 u:∀c∈B.tL,nsIn K mainGlobals c.1=some (some (.ref c.2.1))/\iE K c.2.1=some (.type "tuple",true,some (c.2.2.map λs=>.str s.1 s.2))
def Do (e:B.q ns K=B.a ns G):Ans B ns G K:=by
 simp only[Tl.q,Tl.a,Hr] at e;obtain⟨e1,e2,e4,e5,e7,e8,e9,e10,e11⟩:=e;refine⟨λd hd=>?_,λd hd=>ins_of (G7.mp e2 d hd),λd hd=>G7.mp e4 d hd,λd hd=>?_,λd hd att=>Eo (G7.mp e7 d hd),λx hx=>G7.mp e8 x hx,λc hc=>G7.mp e9 c hc,e10,λc hc=>Hr .. ▸ G7.mp e11 c hc⟩
 .have:=G7.mp e1 d hd;simpa only[Hr] using this
 .have:=G7.mp e5 d hd;simp only[Hr] at this;exact⟨⟨this.1,this.2.1,this.2.2.1⟩,this.2.2.2⟩
def C6 (l:List (Str×Nat)):(Ip.D.tup (l.map λs=>.str s.1)).flat=true:=by
 induction l with
 | nil=>rfl
 | cons x l ih=>simpa[Ip.D.flat,Ip.D.flats] using ih
theorem tV {W:Wd}{S:Hp}:∀l:List (Str×Nat),Dens W S (l.map λs=>V.str s.1) (l.map λs=>Ip.D.str s.1)
 | []=>.nil
 | _::l=>.cons .str (tV l)
theorem uW:∀l:List (Str×Nat),Vals (l.map λs=>V.str s.1) (l.map λs=>Value.str s.1 s.2)
 | []=>.nil
 | _::l=>.cons ⟨_,rfl⟩ (uW l)
def yP {S:Hp}{a:Addr}{l:List (Str×Nat)}(h:iE K a=some (.type "tuple",true,some (l.map λs=>.str s.1 s.2)))(hz:l.length<=6):SqT K S a (l.map λs=>V.str s.1):=by
 unfold iE at h;cases e:K.lookup a with
 | none=>rw[e] at h; cases h
 | some o=>
  rw[e] at h;simp only[Option.map_some,HS,Hr] at h;obtain⟨h1,h2,h3⟩:=h;have hd:o.dict=none:=by
   cases hh:o.dict with
   | none=>rfl
   | some x=>rw[hh] at h2; cases h2
  cases hdt:o.data with
  | seq its n=>
   rw[hdt] at h3;have e3:its.toList=l.map λs=>Value.str s.1 s.2:=cO h3;refine .inr ⟨o,its,n,e,h1,hd,hdt,?_,by rw[e3]; exact uW l⟩;have:its.size=l.length:=by rw[<-Array.length_toList,e3,Gx]
   rw[this];exact bH hz (by decide)
  | _=>rw[hdt] at h3; cases h3
theorem Fy (clL:List (Nat×Ip.Cl))(X:K.In h)(Gl:h.Ns mainGlobals mg)(A:Ans B (rB T.fl T.att) G K)(hcl:∀c,G.cl c=clL.lookup c)
  (s1:T.fns=B.fL.map λd=>(d.x,d.k))
  (s2:(T.cls.all λp=>B.nC.any (λe=>e.1 == p.1&&e.2.1 == p.2)||B.iC.any (λe=>e.x == p.1&&e.c == p.2))=true)
  (s3:((T.fns.map (·.1)++(T.cls.map (·.1)++T.cst.map (·.1))).all λx=>!(x == ("__debug__" : Str)))=true)
  (s4:T.cst=B.cL.map (λc=>(c.1,Ip.D.int c.2.1))++B.tL.map λc=>(c.1,Ip.D.tup (c.2.2.map λs=>.str s.1)))(nd:T.att.Nodup)(s5:(B.tL.all λc=>decide (c.2.2.length<=6))=true)
  (okF:∀d∈B.fL,sV (dL K B.iL [] T.att) T G d)
  (okI:∀e∈B.iC,sV (dL K B.iL [] T.att) T G e.d/\B.iL.lookup e.c=some e.C/\∃Cl,G.cl e.c=some Cl/\Cl.init=some e.d.k/\Cl.isx=false)
  (okN:∀e∈B.nC,∃Cl,G.cl e.2.1=some Cl/\Cl.init=none)
  (okM:∀e∈B.mL,sV (dL K B.iL [] T.att) T G e.2)
  (sM:(clL.all λp=>p.2.meths.isEmpty||(match B.iL.lookup p.1 with
   | some C=>p.2.meths.all λm=>B.mL.any λe=>e.1 == C&&(T.att[m.1]? == some e.2.x&&e.2.k == m.2)
   | none=>false))=true) :
  GF0 (dL K B.iL [] T.att) G T mg:=by
 have d1:∀p∈T.fns,(p.1 == ("__debug__" : Str))=false:=λp hp=>r8 s3 (eI _ (G1 hp));have d2:∀p∈T.cls,(p.1 == ("__debug__" : Str))=false:=λp hp=>r8 s3 (cG _ (eI _ (G1 hp)));have d3:∀p∈T.cst,(p.1 == ("__debug__" : Str))=false:=λp hp=>r8 s3 (cG _ (cG _ (G1 hp)));refine Ef ?cf rfl ?blt ?cst ?fns ?cls ?meth ?isB
 case cf=>
  refine xJ nd λp hp=>?_;obtain⟨e,he,rfl⟩:=dh hp;exact⟨(A.i e he).2.1,(A.i e he).2.2.1⟩
 case blt=>exact λp hp=>⟨mg_none_of X Gl (A.z _ (eI _ (G1 hp))),zn p hp⟩
 case cst=>
  intro p hp;have h0:=d3 p hp;rw[s4] at hp;rcases dm hp with hp | hp
  .obtain⟨c,hc,rfl⟩:=dh hp;exact⟨h0,_,.int c.2.1,mg_of X Gl (A.c c hc),⟨_,rfl⟩,rfl,λ_=>.int⟩
  .obtain⟨c,hc,rfl⟩:=dh hp;obtain⟨a1,a2⟩:=A.u c hc;have hz:c.2.2.length<=6:=Hl (dR s5 c hc);exact⟨h0,_,.ref c.2.1,mg_of X Gl a1,rfl,C6 _,λS=>.tup (yP a2 hz) (tV _)⟩
 case fns=>
  intro p hp;have h0:=d1 p hp;rw[s1] at hp;obtain⟨d,hd,rfl⟩:=dh hp;obtain⟨F,f1,f2⟩:=okF d hd;obtain⟨a1,a2,a3⟩:=A.f d hd;exact⟨h0,F,d.f,f1,mg_of X Gl a1,a2,f2 a3⟩
 case cls=>
  intro p hp;refine⟨d2 p hp,?_⟩;rcases xH (dR s2 p hp) with ⟨e,he,q1,q2⟩ | ⟨e,he,q1,q2⟩
  .obtain⟨Cl,c1,c2⟩:=okN e he;refine⟨e.2.2,by rw[<-q1]; exact mg_of X Gl (A.n e he),by rw[<-q2]; exact A.t (.cls e.2.1,.ref e.2.2) (cG _ (eI _ (G1 (f:=λe:Str×Nat×Addr=>(Ip.Ty.cls e.2.1,Value.ref e.2.2)) he))) _,λCl' f F h1 h2 _=>?_⟩;rw[<-q2,c1] at h1;cases h1;rw[c2] at h2;cases h2
  .obtain⟨⟨F',f1,f2⟩,li,Cl,c1,c2,c3⟩:=okI e he;obtain⟨a1,_,_,a4,a5⟩:=A.i e he;refine⟨e.C,by rw[<-q1]; exact mg_of X Gl a1,by rw[<-q2]; exact A.t (.cls e.c,.ref e.C) (cG _ (cG _ (G1 (f:=λe:Ic=>(Ip.Ty.cls e.c,Value.ref e.C)) he))) _,λCl' f F h1 h2 h3=>?_⟩;rw[<-q2,c1] at h1;cases h1;rw[c2] at h2;cases h2;rw[f1] at h3;cases h3;refine⟨e.d.f,f2 a5,c3,?_⟩;rw[<-q2];exact⟨li,a4⟩
 case meth=>
  intro c Cl' h1 hm;rw[hcl] at h1;have q:=dR sM (c,Cl') (gj h1);have hm':Cl'.meths.isEmpty=false:=by cases hh:Cl'.meths with | nil=>exact absurd hh hm | cons _ _=>rfl
  rw[hm',Bool.false_or] at q;cases hi:B.iL.lookup c with
  | none=>rw[hi] at q; cases q
  | some C=>
   rw[hi] at q;refine⟨C,hi,λp hp=>?_⟩;obtain⟨e,he,q1⟩:=Jp.mp (dR q p hp);simp only[tw,GC] at q1;obtain⟨rfl,q2,q3⟩:=q1;obtain⟨F,f1,f2⟩:=okM e he;obtain⟨a1,a2⟩:=A.m e he;exact⟨F,e.2.x,e.2.f,by rw[<-q3]; exact f1,q2,a1,f2 a2⟩
 case isB=>
  intro p hp;obtain⟨b1,b2,nm,b3,b4⟩:=BN p hp;exact⟨mg_none_of X Gl (A.z _ (cG _ (G1 hp))),b1,b2,nm,b3,A.t (p.2,.type nm) (eI _ b4) _⟩
end
end Hd
end
section
namespace Ip
open PySem (Str)
noncomputable def pj:au:=["__init__", "row", "garment", "over", "place", "first", "second", "moment", "name", "place_count", "covered_places", "spots", "many", "covers", "meet", "wardrobe", "prices", "start", "dressers", "beats", "scenes"]
noncomputable def T_k23:Tb:=⟨.append (α:=Str×Nat) [("is_whole",0),("is_below",1),("is_rising",15),("are_places",16),("check_garment",17),("worn_in",24),("may_lie",34),("check_things",35),("check_lacking",36),("still_under",37),("ring_among",38),("order_of",39),("reason_against",45),("staying_on",46),("may_stay",47),("reasons_why",48),("_law_cell",98),("_law_mix",71),("_law_whole",73),("_law_covers",99),("_law_wears",115),("_law_deed",116),("_law_moved",117),("_law_walk",118),("_law_same_to",123),("_law_worn",124),("_law_kept",125),("_law_reason",126),("_law_right",113),("_law_laid",127)] [("_law_chain",128),("_law_drawn",129),("law",69)],[("Wardrobe",17)], "WardrobeError",pj,[1,2,3,4,5,6,7,8,9,10,15,16,17,18,19,20],[("DEEPEST",(.int (100))),("MOST_PLACES",(.int (6))),("MOST_GARMENTS",(.int (6)))]⟩
noncomputable def lu:Fn:=⟨1,[],1,[],[
  .ret (.and (.op (.isi [.int]) [(.var 0)]) (.op .not [(.op (.isi [.bool]) [(.var 0)])]))]⟩
noncomputable def jt:Fn:=⟨2,[],2,[],[
  .ret (.and (.call 0 [(.var 0)]) (.chain .le .lt (.cst (.int (0))) (.var 0) (.var 1)))]⟩
noncomputable def oq:Fn:=⟨1,[],1,[],[
  .ret (.op .all [(.comp [none,none,none] (.many [1,2]) .zip [(.var 0),(.op .slL [(.var 0),(.cst (.int (1)))])] [] (.op .lt [(.var 1),(.var 2)]))])]⟩
noncomputable def kS:Fn:=⟨2,[],2,[],[
  .iff (.or (.op .not [(.op (.isi [.list]) [(.var 0)])]) (.op .eq [(.op .len [(.var 0)]),(.cst (.int (0)))])) [.ret (.cst (.bl false))] [],
  .ret (.and (.op .all [(.comp [none,none,(some 1)] (.one 1) .seq [(.var 0)] [] (.call 1 [(.var 1),(.var 2)]))]) (.call 15 [(.var 0)]))]⟩
noncomputable def nP:Fn:=⟨2,[],2,[],[
  .iff (.op .not [(.call 1 [(.var 1),(.meth 12 (.var 0) [])])]) [.bad] []]⟩
noncomputable def iX:Fn:=⟨1,[],3,[],[
  .set 1 (.op .lst []),
  .fo (.one 2) .seq [(.var 0)] [.mut 1 [] .extend [(.var 2)]],
  .ret (.op .srtSet [(.var 1)])]⟩
noncomputable def n8:Fn:=⟨3,[],3,[],[
  .ret (.and (.call 1 [(.var 2),(.meth 12 (.var 0) [])]) (.op .isin [(.var 1),(.meth 13 (.var 0) [(.var 2)])]))]⟩
noncomputable def o0:Fn:=⟨2,[],6,[],[
  .fo (.many [2,3]) .enum [(.var 1)] [.fo (.many [4,5]) .enum [(.var 3)] [.iff (.or (.op .not [(.call 34 [(.var 0),(.var 2),(.var 5)])]) (.op .isin [(.var 5),(.op .slH [(.var 3),(.var 4)])])) [.bad] []]]]⟩
noncomputable def nS:Fn:=⟨2,[],4,[],[
  .fo (.one 2) .seq [(.call 24 [(.var 1)])] [.fo (.one 3) .seq [(.meth 13 (.var 0) [(.var 2)])] [.iff (.op .nin [(.var 2),(.op .ix [(.var 1),(.var 3)])]) [.bad] []]]]⟩
noncomputable def l8:Fn:=⟨4,[],7,[],[
  .set 4 (.op .lst []),
  .fo (.one 5) .seq [(.meth 13 (.var 0) [(.var 2)])] [.set 6 (.op .index [(.op .ix [(.var 1),(.var 5)]),(.var 2)]),.iff (.and (.op .gt [(.var 6),(.cst (.int (0)))]) (.op .isin [(.op .ix [(.op .ix [(.var 1),(.var 5)]),(.op .sub [(.var 6),(.cst (.int (1)))])]),(.var 3)])) [.mut 4 [] .append [(.op .tup [(.op .ix [(.op .ix [(.var 1),(.var 5)]),(.op .sub [(.var 6),(.cst (.int (1)))])]),(.var 5)])]] []],
  .ret (.var 4)]⟩
noncomputable def Ew:Fn:=⟨3,[],5,[],[
  .set 3 (.op .lst []),
  .set 4 (.op .ix [(.call 37 [(.var 0),(.var 1),(.op .ix [(.var 2),(.cst (.int (0)))]),(.var 2)]),(.cst (.int (0)))]),
  .whl (.op .nin [(.var 4),(.var 3)]) [.mut 3 [] .append [(.var 4)],.set 4 (.op .ix [(.call 37 [(.var 0),(.var 1),(.op .ix [(.var 4),(.cst (.int (0)))]),(.var 2)]),(.cst (.int (0)))])],
  .ret (.op .list [.bad])]⟩
noncomputable def mw:Fn:=⟨2,[],5,[],[
  .ex (.call 35 [(.var 0),(.var 1)]),
  .ex (.call 36 [(.var 0),(.var 1)]),
  .set 2 (.op .lst []),
  .set 3 (.call 24 [(.var 1)]),
  .whl (.op .gt [(.op .len [(.var 3)]),(.cst (.int (0)))]) [.set 4 (.comp [none,none,(some 3),(some 1),(some 0)] (.one 1) .seq [(.var 3)] [(.op .eq [(.op .len [(.call 37 [(.var 4),(.var 3),(.var 1),(.var 2)])]),(.cst (.int (0)))])] (.var 1)),.iff (.op .eq [(.op .len [(.var 4)]),(.cst (.int (0)))]) [.ret (.op .tup [(.cst (.str "ring")),(.call 38 [(.var 0),(.var 1),(.var 3)])])] [],.mut 2 [] .append [(.op .ix [(.var 4),(.cst (.int (0)))])],.mut 3 [] .remove [(.op .ix [(.var 4),(.cst (.int (0)))])]],
  .retP "order" 2]⟩
noncomputable def lj:Fn:=⟨5,[],9,[],[
  .fo (.one 5) .seq [(.meth 13 (.var 0) [(.var 4)])] [.set 6 (.op .ix [(.var 1),(.var 5)]),.set 7 (.op .index [(.var 6),(.var 4)]),.iff (.op .ne [(.op .slH [(.var 6),(.op .add [(.var 7),(.cst (.int (1)))])]),(.op .slH [(.op .ix [(.var 2),(.var 5)]),(.op .add [(.var 7),(.cst (.int (1)))])])]) [.ret (.op .tup [(.var 5),(.cst .non)])] [],.fo (.one 8) .seq [(.op .slH [(.var 6),(.var 7)])] [.iff (.op .nin [(.var 8),(.var 3)]) [.ret (.op .tup [(.var 5),(.var 8)])] []]],
  .ret (.cst .non)]⟩
noncomputable def lP:Fn:=⟨3,[],5,[],[
  .set 3 (.op .lst []),
  .fo (.one 4) .seq [(.op .ix [(.call 39 [(.var 0),(.var 1)]),(.cst (.int (1)))])] [.iff (.op .isN [(.call 45 [(.var 0),(.var 1),(.var 2),(.var 3),(.var 4)])]) [.mut 3 [] .append [(.var 4)]] []],
  .ret (.var 3)]⟩
noncomputable def jq:Fn:=⟨3,[],7,[],[
  .set 3 (.op .lst []),
  .fo (.many [4,5]) .enum [(.var 1)] [.fo (.one 6) .seq [(.call 46 [(.var 0),(.var 5),(.op .ix [(.var 2),(.var 4)])])] [.mut 3 [] .append [(.op .tup [(.var 4),(.var 6)])]]],
  .ret (.op .srt [(.var 3)])]⟩
noncomputable def mV:Fn:=⟨3,[],10,[],[
  .set 3 (.op .lst []),
  .fo (.many [4,5]) .enum [(.var 1)] [.set 6 (.op .ix [(.var 2),(.var 4)]),.set 7 (.call 46 [(.var 0),(.var 5),(.var 6)]),.fo (.one 8) .seq [(.call 24 [(.var 5)])] [.set 9 (.call 45 [(.var 0),(.var 5),(.var 6),(.var 7),(.var 8)]),.iff (.op .notN [(.var 9)]) [.mut 3 [] .append [(.op .add [(.op .tup [(.var 4),(.var 8)]),(.var 9)])]] []]],
  .ret (.var 3)]⟩
noncomputable def eJ:Fn:=⟨2,[],2,[],[
  .iff (.op .lt [(.var 1),(.op .len [(.var 0)])]) [.ret (.op .ix [(.var 0),(.var 1)])] [],
  .ret (.cst (.int (0)))]⟩
noncomputable def gF:Fn:=⟨3,[],6,[],[
  .iff (.op .gt [(.var 0),(.op .pow [(.cst (.int (10))),(.cst (.int (9)))])]) [.set 3 (.op .fdiv [(.var 0),(.cst (.int (1000)))]),.fo (.one 4) .rng1 [(.op .mod [(.var 1),(.cst (.int (9)))])] [.set 3 (.op .fdiv [(.var 3),(.cst (.int (1000)))])],.ret (.op .mod [(.op .mod [(.var 3),(.cst (.int (1000)))]),(.var 2)])] [],
  .set 5 (.op .add [(.op .add [(.op .mod [(.var 0),(.cst (.int (1000003)))]),(.op .mul [(.cst (.int (31))),(.var 1)])]),(.cst (.int (1)))]),
  .ret (.op .mod [(.op .fdiv [(.op .mod [(.op .add [(.op .add [(.op .mul [(.var 5),(.var 5)]),(.op .mul [(.cst (.int (65537))),(.var 5)])]),(.op .mul [(.cst (.int (977))),(.var 1)])]),(.cst (.int (999983)))]),(.cst (.int (3)))]),(.var 2)])]⟩
noncomputable def kM:Fn:=⟨1,[],1,[],[
  .ret (.and (.op (.isi [.int]) [(.var 0)]) (.op .not [(.op (.isi [.bool]) [(.var 0)])]))]⟩
noncomputable def oZ:Fn:=⟨2,[],7,[],[
  .set 2 (.op .lst []),
  .fo (.one 3) .rng1 [(.op .mod [(.call 98 [(.var 0),(.cst (.int (1)))]),(.cst (.int (7)))])] [.set 4 (.call 98 [(.var 0),(.op .add [(.cst (.int (2))),(.var 3)])]),.set 5 (.op .add [(.cst (.int (1))),(.call 71 [(.var 4),(.cst (.int (1))),(.op .ix [(.op .lst [(.cst (.int (1))),(.cst (.int (3))),(.cst (.int (7))),(.cst (.int (15))),(.cst (.int (31))),(.cst (.int (63)))]),(.op .sub [(.var 1),(.cst (.int (1)))])])])]),.set 6 (.comp [none,none,(some 5)] (.one 1) .rng1 [(.var 1)] [(.op .eq [(.op .mod [(.op .fdiv [(.var 2),(.op .ix [(.op .lst [(.cst (.int (1))),(.cst (.int (2))),(.cst (.int (4))),(.cst (.int (8))),(.cst (.int (16))),(.cst (.int (32)))]),(.var 1)])]),(.cst (.int (2)))]),(.cst (.int (1)))])] (.var 1)),.iff (.op .eq [(.call 71 [(.var 4),(.cst (.int (2))),(.cst (.int (2)))]),(.cst (.int (1)))]) [.set 6 (.op .slH [(.op .slL [(.var 6),(.call 71 [(.var 4),(.cst (.int (3))),(.op .len [(.var 6)])])]),(.cst (.int (1)))])] [],.mut 2 [] .append [(.var 6)]],
  .ret (.var 2)]⟩
noncomputable def o5:Fn:=⟨2,[],3,[],[
  .fo (.one 2) .rng1 [(.op .len [(.var 0)])] [.iff (.op .any [(.comp [none,none,(some 1)] (.one 1) .seq [(.op .ix [(.var 0),(.var 2)])] [] (.op .isin [(.var 2),(.var 1)]))]) [.ret (.var 2)] []],
  .ret (.cst .non)]⟩
noncomputable def nU:Fn:=⟨3,[],5,[],[
  .iff (.op .eq [(.op .len [(.var 2)]),(.cst (.int (0)))]) [.ret (.cst .non)] [],
  .set 3 (.call 71 [(.var 0),(.cst (.int (21))),(.op .len [(.var 2)])]),
  .set 4 (.call 115 [(.var 1),(.var 3)]),
  .iff (.op .isN [(.var 4)]) [.ret (.op .tup [(.call 71 [(.var 0),(.cst (.int (22))),(.op .len [(.var 1)])]),(.cst (.str "on")),(.var 3)])] [],
  .iff (.op .all [(.comp [none,none,(some 3),(some 4),(some 1)] (.one 1) .seq [(.op .ix [(.var 2),(.var 3)])] [] (.op .eq [(.op .ix [(.op .ix [(.op .ix [(.var 4),(.var 3)]),(.var 1)]),(.op .neg [(.cst (.int (1)))])]),(.var 2)]))]) [.ret (.op .tup [(.var 4),(.cst (.str "off")),(.var 3)])] [],
  .ret (.cst .non)]⟩
noncomputable def oE:Fn:=⟨3,[],9,[],[
  .setT [3,4,5] (.var 1),
  .set 6 (.op .lst []),
  .fo (.one 7) .rng1 [(.op .len [(.op .ix [(.var 0),(.var 3)])])] [.set 8 (.op .ix [(.op .ix [(.var 0),(.var 3)]),(.var 7)]),.iff (.op .isin [(.var 7),(.op .ix [(.var 2),(.var 5)])]) [.set 8 (.op .ix [(.op .lst [(.op .slH [(.var 8),(.op .neg [(.cst (.int (1)))])]),(.op .add [(.var 8),(.op .tup [(.var 5)])])]),(.op .toInt [(.op .eq [(.var 4),(.cst (.str "on"))])])])] [],.mut 6 [] .append [(.var 8)]],
  .ret (.op .add [(.op .add [(.op .slH [(.var 0),(.var 3)]),(.op .tup [(.op .tuple [(.var 6)])])]),(.op .slL [(.var 0),(.op .add [(.var 3),(.cst (.int (1)))])])])]⟩
noncomputable def mh:Fn:=⟨3,[],6,[],[
  .set 3 (.op .lst []),
  .fo (.one 4) .seq [(.var 0)] [.set 5 (.call 116 [(.var 4),(.var 1),(.var 2)]),.iff (.op .notN [(.var 5)]) [.mut 3 [] .append [(.var 5)],.set 1 (.call 117 [(.var 1),(.var 5),(.var 2)])] []],
  .ret (.op .tup [(.var 3),(.var 1)])]⟩
noncomputable def lQ:Fn:=⟨5,[],7,[],[
  .set 5 (.op .ix [(.op .ix [(.var 0),(.var 2)]),(.var 4)]),
  .set 6 (.op .add [(.op .index [(.var 5),(.var 3)]),(.cst (.int (1)))]),
  .ret (.op .eq [(.op .slH [(.var 5),(.var 6)]),(.op .slH [(.op .ix [(.op .ix [(.var 1),(.var 2)]),(.var 4)]),(.var 6)])])]⟩
noncomputable def ls:Fn:=⟨2,[],5,[],[
  .set 2 (.op .lst []),
  .fo (.one 3) .rng1 [(.op .len [(.var 0)])] [.fo (.one 4) .rng1 [(.op .len [(.var 1)])] [.iff (.op .isin [(.var 4),(.op .ix [(.op .ix [(.var 0),(.var 3)]),(.op .ix [(.op .ix [(.var 1),(.var 4)]),(.cst (.int (0)))])])]) [.mut 2 [] .append [(.op .tup [(.var 3),(.var 4)])]] []]],
  .ret (.var 2)]⟩
noncomputable def nJ:Fn:=⟨4,[],10,[],[
  .set 4 (.call 124 [(.var 1),(.var 3)]),
  .iff (.or (.op .not [(.op (.isi [.list]) [(.var 0)])]) (.op .ne [(.var 0),(.comp [none,none,(some 0)] (.one 1) .seq [(.var 4)] [(.op .isin [(.var 1),(.var 2)])] (.var 1))])) [.ret (.cst (.bl false))] [],
  .fo (.one 5) .seq [(.var 0)] [.iff (.or (.op .not [(.op (.isi [.tuple]) [(.var 5)])]) (.op .not [(.op .all [(.comp [none,none] (.one 1) .seq [(.var 5)] [] (.call 73 [(.var 1)]))])])) [.ret (.cst (.bl false))] [],.setT [6,7] (.var 5),.fo (.one 8) .seq [(.op .ix [(.var 3),(.var 7)])] [.set 9 (.op .ix [(.op .ix [(.var 1),(.var 6)]),(.var 8)]),.iff (.op .not [(.call 123 [(.var 1),(.var 2),(.var 6),(.var 7),(.var 8)])]) [.ret (.cst (.bl false))] [],.iff (.op .not [(.op .all [(.comp [none,none,(some 6),(some 0)] (.one 1) .seq [(.op .slH [(.var 9),(.op .index [(.var 9),(.var 7)])])] [] (.op .isin [(.op .tup [(.var 2),(.var 1)]),(.var 3)]))])]) [.ret (.cst (.bl false))] []]],
  .ret (.cst (.bl true))]⟩
noncomputable def lA:Fn:=⟨6,[],11,[],[
  .iff (.or (.op .not [(.op (.isi [.tuple]) [(.var 0)])]) (.or (.op .ne [(.op .len [(.var 0)]),(.cst (.int (4)))]) (.or (.op .ne [(.op .slH [(.var 0),(.cst (.int (2)))]),(.var 1)]) (.op .not [(.call 73 [(.op .ix [(.var 0),(.cst (.int (2)))])])])))) [.ret (.cst (.bl false))] [],
  .setT [6,7,8,9] (.var 0),
  .iff (.op .nin [(.var 8),(.op .ix [(.var 5),(.var 7)])]) [.ret (.cst (.bl false))] [],
  .iff (.op .isN [(.var 9)]) [.ret (.op .not [(.call 123 [(.var 3),(.var 4),(.var 6),(.var 7),(.var 8)])])] [],
  .set 10 (.op .ix [(.op .ix [(.var 3),(.var 6)]),(.var 8)]),
  .ret (.and (.call 73 [(.var 9)]) (.and (.op .isin [(.var 9),(.op .slH [(.var 10),(.op .index [(.var 10),(.var 7)])])]) (.op .nin [(.op .tup [(.var 6),(.var 9)]),(.var 2)])))]⟩
noncomputable def kJ:Fn:=⟨4,[],9,[],[
  .set 4 (.call 47 [(.var 0),(.var 1),(.var 2)]),
  .iff (.op .not [(.call 125 [(.var 4),(.var 1),(.var 2),(.var 3)])]) [.ret (.cst (.bl false))] [],
  .set 5 (.call 48 [(.var 0),(.var 1),(.var 2)]),
  .set 7 (.comp [none,none,(some 4)] (.one 1) .seq [(.call 124 [(.var 1),(.var 3)])] [(.op .nin [(.var 1),(.var 2)])] (.var 1)),
  .iff (.or (.op .not [(.op (.isi [.list]) [(.var 5)])]) (.op .ne [(.op .len [(.var 5)]),(.op .len [(.var 7)])])) [.ret (.cst (.bl false))] [],
  .foz (.many [8,6]) 5 7 [.iff (.op .not [(.call 126 [(.var 8),(.var 6),(.var 4),(.var 1),(.var 2),(.var 3)])]) [.ret (.cst (.bl false))] []],
  .mut 4 [] .append [(.op .tup [(.cst (.int (0))),(.cst (.int (0)))])],
  .mut 5 [] .clear [],
  .ret (.cst (.bl true))]⟩
noncomputable def nV:Fn:=⟨3,[],3,[],[
  .ret (.op .tuple [(.comp [none,none,(some 0),(some 2)] (.one 1) .rng1 [(.var 1)] [] (.op .tuple [(.comp [none,none,(some 2),(some 1)] (.one 1) .seq [(.var 3)] [(.op .isin [(.var 3),(.op .ix [(.var 2),(.var 1)])])] (.var 1))]))])]⟩
noncomputable def lv:Fn:=⟨2,[],12,[],[
  .set 2 (.op .add [(.cst (.int (4))),(.op .mod [(.call 98 [(.var 0),(.cst (.int (2)))]),(.cst (.int (3)))])]),
  .set 3 (.op .add [(.op .lst [(.op .lst [(.cst (.int (0)))])]),(.comp [none,none] (.one 1) .rng2 [(.cst (.int (1))),(.var 2)] [] (.op .lst [(.op .sub [(.var 1),(.cst (.int (1)))]),(.var 1)]))]),
  .set 4 (.op .lrng [(.var 2)]),
  .iff (.op .eq [(.op .mod [(.call 98 [(.var 0),(.cst (.int (3)))]),(.cst (.int (3)))]),(.cst (.int (1)))]) [.set 4 (.op .rev [(.var 4)])] [],
  .set 5 (.call 98 [(.var 0),(.cst (.int (4)))]),
  .set 6 (.op .mod [(.op .fdiv [(.var 5),(.cst (.int (3)))]),(.op .sub [(.var 2),(.cst (.int (1)))])]),
  .set 7 (.op .add [(.op .add [(.op .slH [(.var 4),(.var 6)]),(.op .lst [(.op .ix [(.var 4),(.op .add [(.var 6),(.cst (.int (1)))])]),(.op .ix [(.var 4),(.var 6)])])]),(.op .slL [(.var 4),(.op .add [(.var 6),(.cst (.int (2)))])])]),
  .iff (.op .lt [(.op .mod [(.var 5),(.cst (.int (3)))]),(.cst (.int (2)))]) [.set 7 (.op .add [(.op .slH [(.var 4),(.op .mod [(.var 5),(.cst (.int (3)))])]),(.op .slL [(.var 4),(.op .add [(.op .mod [(.var 5),(.cst (.int (3)))]),(.cst (.int (1)))])])])] [],
  .set 8 (.op .mod [(.call 98 [(.var 0),(.cst (.int (5)))]),(.var 1)]),
  .set 9 (.op .lst []),
  .fo (.one 10) .seq [(.op .lst [(.op .lst []),(.var 4),(.var 7)])] [.set 11 (.op .mul [(.op .lst [(.op .lst [])]),(.var 1)]),.put 11 [] (.var 8) (.var 10),.mut 9 [] .append [(.op .tuple [(.comp [none,none,(some 3),(some 2)] (.one 1) .seq [(.var 11)] [] (.call 127 [(.var 2),(.var 3),(.var 1)]))])]],
  .ret (.op .tup [(.var 3),(.var 2),(.var 9)])]⟩
noncomputable def oI:Fn:=⟨1,[],8,[],[
  .set 1 (.op .add [(.cst (.int (1))),(.op .mod [(.call 98 [(.var 0),(.cst (.int (0)))]),(.cst (.int (6)))])]),
  .set 2 (.op .add [(.cst (.int (1))),(.op .mod [(.call 98 [(.var 0),(.cst (.int (8)))]),(.cst (.int (3)))])]),
  .iff (.op .eq [(.op .mod [(.op .fdiv [(.call 98 [(.var 0),(.cst (.int (0)))]),(.cst (.int (6)))]),(.cst (.int (3)))]),(.cst (.int (1)))]) [.ret (.call 128 [(.var 0),(.var 2)])] [],
  .set 3 (.call 99 [(.var 0),(.var 1)]),
  .set 4 (.op .mul [(.op .tup [(.op .mul [(.op .tup [(.op .tup [])]),(.var 1)])]),(.var 2)]),
  .set 5 (.op .add [(.cst (.int (9))),(.call 71 [(.call 98 [(.var 0),(.cst (.int (0)))]),(.cst (.int (34))),(.op .max2 [(.cst (.int (1))),(.op .sub [(.op .len [(.var 0)]),(.cst (.int (9)))])])])]),
  .set 6 (.op .ix [(.call 118 [(.op .slH [(.sl2 (.var 0) (.cst (.int (9))) (.cst (.int (63)))),(.op .sub [(.var 5),(.cst (.int (9)))])]),(.var 4),(.var 3)]),(.cst (.int (1)))]),
  .set 7 (.op .ix [(.call 118 [(.sl2 (.var 0) (.var 5) (.cst (.int (63)))),(.op .ix [(.op .lst [(.var 6),(.var 6),(.var 4)]),(.op .mod [(.op .fdiv [(.call 98 [(.var 0),(.cst (.int (8)))]),(.cst (.int (3)))]),(.cst (.int (3)))])]),(.var 3)]),(.cst (.int (1)))]),
  .ret (.op .tup [(.var 3),(.var 1),(.op .lst [(.var 4),(.var 6),(.var 7)])])]⟩
noncomputable def ou:Fn:=⟨1,[],7,[],[
  .setT [1,2,3] (.call 129 [(.var 0)]),
  .set 4 (.make 17 [(.var 2),(.comp [none,none] (.one 1) .seq [(.var 1)] [] (.op .list [(.var 1)]))]),
  .setT [5,6] (.op .slL [(.var 3),(.cst (.int (1)))]),
  .iff (.or (.op .not [(.call 113 [(.var 4),(.var 5),(.var 6),(.var 1)])]) (.op .not [(.call 113 [(.var 4),(.var 6),(.var 5),(.var 1)])])) [.ret (.cst (.bl false))] [],
  .iff (.or (.op .not [(.call 113 [(.var 4),(.var 5),(.var 5),(.var 1)])]) (.op .ne [(.call 47 [(.var 4),(.var 5),(.var 5)]),(.call 124 [(.var 5),(.var 1)])])) [.ret (.cst (.bl false))] [],
  .ret (.call 113 [(.var 4),(.var 5),(.var 6),(.var 1)])]⟩
noncomputable def lm:Fn:=⟨3,[0],5,[],[
  .iff (.or (.op .not [(.call 0 [(.var 1)])]) (.op .not [(.chain .le .le (.cst (.int (1))) (.var 1) (.cst (.int (6))))])) [.bad] [],
  .iff (.op .gt [(.op .len [(.var 2)]),(.cst (.int (6)))]) [.bad] [],
  .fo (.many [3,4]) .enum [(.var 2)] [.iff (.op .not [(.call 16 [(.var 4),(.var 1)])]) [.bad] []],
  .sfld 0 9 (.var 1),
  .sfld 0 10 (.comp [none,none] (.one 1) .seq [(.var 2)] [] (.op .tuple [(.var 1)]))]⟩
noncomputable def ku:Fn:=⟨1,[],1,[],[
  .ret (.op .len [(.op (.fld 10) [(.var 0)])])]⟩
noncomputable def ie:Fn:=⟨2,[],2,[],[
  .ex (.call 17 [(.var 0),(.var 1)]),
  .ret (.op .list [(.op .ix [(.op (.fld 10) [(.var 0)]),(.var 1)])])]⟩
noncomputable def fnL_k23:List (Nat×Fn):=[(0,lu),(1,jt),(15,oq),(16,kS),(17,nP),(24,iX),(34,n8),(35,o0),(36,nS),(37,l8),(38,Ew),(39,mw),(45,lj),(46,lP),(47,jq),(48,mV),(98,eJ),(71,gF),(73,kM),(99,oZ),(115,o5),(116,nU),(117,oE),(118,mh),(123,lQ),(124,ls),(125,nJ),(126,lA),(113,kJ),(127,nV),(128,lv),(129,oI),(69,ou),(18,lm),(20,ku),(21,ie)]
noncomputable def clL_k23:List (Nat×Cl):=[(17,⟨(some 18),[(12,20),(13,21)],[],false⟩)]
noncomputable def G_k23:Pg where
 fn:=λi=>fnL_k23.lookup i
 cl:=λi=>clL_k23.lookup i
def gU {α:Type}{e:α->D}{f:D->R aA}{g:α->KD}{xs:List α}(h:∀x∈xs,f (e x)=.ok (some (g x))):bc f (xs.map e)=.ok (xs.map g):=by
 induction xs with
 | nil=>rfl
 | cons x xs ih=>rw[GA,bc,h x G8,R.bind,ih λy hy=>h y (Hh _ hy)]; rfl
def m8 {α:Type}{e:α->D}{f:D->R aA}{p:α->Bool}{g:α->KD}{xs:List α}(h:∀x∈xs,f (e x)=.ok (if p x then some (g x) else none)):bc f (xs.map e)=.ok ((xs.filter p).map g):=by
 induction xs with
 | nil=>rfl
 | cons x xs ih=>
  rw[GA,bc,h x G8,R.bind,ih λy hy=>h y (Hh _ hy)];by_cases q:p x=true
  .simp[q]
  .simp[q]
@[simp] theorem oW {α:Type}(p:α->Bool):∀xs:List α,allB (xs.map λx=>.bl (p x))=some (xs.all p)
 | []=>rfl
 | x::xs=>by rw[GA,allB,oW p xs]; rfl
@[simp] theorem vm {α:Type}(p:α->Bool):∀xs:List α,anyB (xs.map λx=>.bl (p x))=some (xs.any p)
 | []=>rfl
 | x::xs=>by rw[GA,anyB,vm p xs]; rfl
@[simp] theorem BS:∀xs:ao,di (xs.map .int)=some xs
 | []=>rfl
 | x::xs=>by rw[GA,di,BS xs]; rfl
@[simp] theorem BC:∀xs:ao,D.flats (xs.map .int)=true
 | []=>by simp
 | x::xs=>by simp[BC xs]
@[simp] theorem DX:∀xs ys:ao,D.eqs (xs.map .int) (ys.map .int)=decide (xs=ys)
 | [],[]=>by simp[D.eqs]
 | [],_::_=>by simp[D.eqs]
 | _::_,[]=>by simp[D.eqs]
 | x::xs,y::ys=>by simp[D.eqs,D.eq,DX xs ys]
def oJ {xs:ax}(h:∀x∈xs,x.2.flat=true):bf xs=98:=by
 have:xs.find? (λx=>!x.2.flat)=none:=by
  rw[List.find?_eq_none];intro x hx;simp[h x hx]
 rw[bf,this]
@[simp] theorem flat_int (i:Int):(D.int i).flat=true:=rfl
@[simp] theorem joinK_int (k:Nat)(i:Int)(xs:ax):bf ((k,.int i)::xs)=bf xs:=o4 rfl
@[simp] theorem joinK_bl (k:Nat)(i:Bool)(xs:ax):bf ((k,.bl i)::xs)=bf xs:=o4 rfl
@[simp] theorem joinK_non (k:Nat)(xs:ax):bf ((k,.non)::xs)=bf xs:=o4 rfl
@[simp] theorem joinK_str (k:Nat)(i:Str)(xs:ax):bf ((k,.str i)::xs)=bf xs:=o4 rfl
@[simp] theorem B3 (k:Nat)(i:Int):D.fb k (.int i)=true:=by cases k <;> rfl
@[simp] theorem fb_bl (k:Nat)(i:Bool):D.fb k (.bl i)=true:=by cases k <;> rfl
@[simp] theorem fb_non (k:Nat):D.fb k .non=true:=by cases k <;> rfl
@[simp] theorem fb_str (k:Nat)(i:Str):D.fb k (.str i)=true:=by cases k <;> rfl
def k7 {α:Type}(xs:List α)(k:Nat):cutD xs none (some (k:Int))=xs.take k:=by
 simp only[cutD,dH];simp
def nk {α:Type}(xs:List α)(k:Nat):cutD xs (some (k:Int)) none=xs.drop k:=by
 simp only[cutD,dH];by_cases h:k<=xs.length
 .skip
  simp only[if_pos (II k),Int.toNat_natCast,Nat.min_eq_left h];exact HC (by simp)
 .have h':xs.length<=k:=by omega
  simp[Nat.min_eq_right h',Jf h']
@[simp] theorem wk_seq (k:Nat)(x:D):c7 .seq [(k,x)]=x.seq:=rfl
@[simp] theorem wk_enum (k:Nat)(xs:ay):c7 .enum [(k,.lst xs)]=some (xs.mapIdx λn d=>.tup [.int n,d]):=rfl
@[simp] theorem wk_zip (k k':Nat)(xs ys:ay):c7 .zip [(k,.lst xs),(k',.lst ys)]=some ((xs.zip ys).map λp=>.tup [p.1,p.2]):=rfl
def wk_rng1 {k p:Nat}(h:p<=SL):c7 .rng1 [(k,.int p)]=some ((List.range p).map λ(n:Nat)=>.int n):=by
 have h2:p<=1000000:=h;have:cN (p:Int)=true:=dY.mpr (by omega);show (if cN (p:Int)=true then _ else none)=_;rw[if_pos this];rfl
def wk_rng2 {k k':Nat}{i j:Int}(hi : -1000000<=i/\i<=1000000)(hj : -1000000<=j/\j<=1000000):c7 .rng2 [(k,.int i),(k',.int j)]=some ((List.range (j - i).toNat).map λ(n:Nat)=>.int (i+n)):=by
 have h1:cN i=true:=dY.mpr (by omega);have h2:cN j=true:=dY.mpr (by omega);show (if cN i=true/\cN j=true then _ else none)=_;rw[if_pos ⟨h1,h2⟩]
def xU {n:Nat}(h:0<n):d6 n (-1)=some (n - 1):=by
 have h1:¬(0:Int) <= -1:=by decide
 have h2 : -(n:Int) <= -1:=by omega
 simp only[d6,h1,if_false,h2,if_true];congr 1
 omega
theorem ur {body:D->Fr->O}{I:Fr->Prop}:∀{xs:ay} {A:Fr},I A->(∀x∈xs,∀A,I A->∃A',body x A=.nx A'/\I A')->∃A',br body xs A=.nx A'/\I A'
 | [],A,h,_=>⟨A,rfl,h⟩
 | x::xs,A,h,k=>by
  obtain⟨A1,e1,h1⟩:=k x bQ A h;obtain⟨A2,e2,h2⟩:=ur (xs:=xs) h1 λy hy=>k y (bN _ hy);exact⟨A2,by rw[br,e1]; exact e2,h2⟩
noncomputable def RelK:aA->aA->Prop
 | none,none=>True
 | some x,some y=>x.2=y.2/\y.1<=x.1
 | _,_=>False
inductive RelF:Fr->Fr->Prop
 | nil:RelF [] []
 | cons {x y:aA} {A a:Fr} (h:RelK x y) (t:RelF A a):RelF (x::A) (y::a)
theorem RelK.refl:∀x:aA,RelK x x
 | none=>trivial
 | some _=>⟨rfl,bC _⟩
theorem RelF.refl:∀A:Fr,RelF A A
 | []=>.nil
 | x::A=>.cons (.refl x) (.refl A)
theorem RelF.sl {A a:Fr}(h:RelF A a):A.sl=a.sl:=by
 induction h with
 | nil=>rfl
 | @cons x y A a h t ih=>
  have:x.map (·.2)=y.map (·.2):=by
   cases x <;> cases y <;> first | rfl | exact h.elim | (simp only[Option.map]; exact congrArg some h.1)
  simp only[Fr.sl,GA] at ih ⊢;rw[this,ih]
def RelF.len {A a:Fr}(h:RelF A a):A.length=a.length:=by
 induction h with
 | nil=>rfl
 | cons _ _ ih=>simp[ih]
theorem RelF.set {A a:Fr}(h:RelF A a){x y:aA}(k:RelK x y):∀i,RelF (A.set i x) (a.set i y):=by
 induction h with
 | nil=>intro i; exact .nil
 | cons q t ih=>
  intro i;cases i with
  | zero=>exact .cons k t
  | succ i=>exact .cons q (ih i)
def RelF.get {A a:Fr}(h:RelF A a):∀i:Nat,(A[i]? = none/\a[i]? = none)\/∃x y,A[i]? = some x/\a[i]? = some y/\RelK x y:=by
 induction h with
 | nil=>intro i; exact .inl ⟨rfl,rfl⟩
 | @cons x y _ _ q t ih=>
  intro i;cases i with
  | zero=>exact .inr ⟨x,y,rfl,rfl,q⟩
  | succ i=>simpa using ih i
theorem RelF.frz1 {A a:Fr}(h:RelF A a)(i:Nat):RelF (frz1 A i) (frz1 a i):=by
 simp only[Ip.frz1];rcases h.get i with ⟨e1,e2⟩ | ⟨x,y,e1,e2,q⟩
 .rw[e1,e2]; exact h
 .rw[e1,e2];cases x <;> cases y
  .exact h
  .exact q.elim
  .exact q.elim
  .next x y=>exact h.set (x:=some (0,x.2)) (y:=some (0,y.2)) ⟨q.1,bC _⟩ i
theorem RelF.frz {ns:am}:∀{A a:Fr},RelF A a->RelF (frz ns A) (frz ns a):=by
 induction ns with
 | nil=>exact λh=>h
 | cons n ns ih=>exact λh=>ih (h.frz1 n)
theorem RelF.trans {A a b:Fr}(h:RelF A a)(k:RelF a b):RelF A b:=by
 induction h generalizing b with
 | nil=>exact k
 | @cons x y _ _ q t ih=>
  cases k with
  | @cons _ z _ _ q' t'=>
   refine .cons ?_ (ih t');cases x <;> cases y <;> cases z <;> first | trivial | exact q.elim | exact q'.elim | exact⟨q.1.trans q'.1,bH q'.2 q.2⟩
def RelF.low1 (a:Fr)(i:Nat):RelF a (Ip.frz1 a i):=by
 simp only[Ip.frz1];cases e:a[i]? with
 | none=>exact .refl a
 | some x=>
  cases x with
  | none=>exact .refl a
  | some x=>
   have:a=a.set i (some x):=by
    refine (Hz λj=>?_);rw[List.getElem?_set];by_cases hj:i=j
    .subst hj;have:=(dO e).1;rw[e]; simp[this]
    .simp[hj]
   conv=>lhs; rw[this]
   exact (RelF.refl a).set (x:=some x) (y:=some (0,x.2)) ⟨rfl,GX _⟩ i
def RelF.low (ns:am):∀a:Fr,RelF a (Ip.frz ns a):=by
 induction ns with
 | nil=>exact .refl
 | cons n ns ih=>exact λa=>(RelF.low1 a n).trans (ih _)
theorem RelF.settle {A a:Fr}(h:RelF A a)(ns:am)(x:KD):RelF (settle ns A x) (Ip.frz ns a):=by
 simp only[Ip.settle];split
 .exact h.trans (.low ns a)
 .exact h.frz
def RelF.settleK {A a:Fr}(h:RelF A a)(ns:am){x:KD}(hx:x.2.fb x.1=true):RelF (Ip.settle ns A x) a:=by
 simp only[Ip.settle,hx,if_true]; exact h
section
variable (G:Pg)(cl:Nat->ax->Run)(io:am)
def Ou (a:Fr)(ss:az)(N:Fr->Prop)(V:D->Prop)(X:Nat->List aJ->Fr->Prop):Prop:=∀A,RelF A a->match execs G cl io A ss with
 | .nx A'=>∃a',RelF A' a'/\N a'
 | .ret _ d _=>V d
 | .exc c fs A'=>∃a',RelF A' a'/\X c fs a'
 | _=>False
variable {G cl io}{a:Fr}{ss:az}{N:Fr->Prop}{V:D->Prop}{X:Nat->List aJ->Fr->Prop}
def Ou.nil (h:N a):Ou G cl io a [] N V X:=λA r=>by
 simp only[qK,ji]; exact⟨a,r,h⟩
def Ou.low {a':Fr}(l:RelF a a')(h:Ou G cl io a' ss N V X):Ou G cl io a ss N V X:=λA r=>h A (r.trans l)
def Ou.mono {N':Fr->Prop}{V':D->Prop}{X':Nat->List aJ->Fr->Prop}(h:Ou G cl io a ss N V X)(n:∀a,N a->N' a)(r:∀d,V d->V' d)(x:∀c fs a,X c fs a->X' c fs a):Ou G cl io a ss N' V' X':=λA q=>by
 have:=h A q;revert this
 cases execs G cl io A ss with
 | nx A=>exact λ⟨a,h1,h2⟩=>⟨a,h1,n a h2⟩
 | ret k d A=>exact r d
 | exc c fs A=>exact λ⟨a,h1,h2⟩=>⟨a,h1,x c fs a h2⟩
 | _=>exact id
theorem Ou.step {s:S}(h:∀A,RelF A a->match exec G cl io A s with
  | .nx A'=>∃a',RelF A' a'/\Ou G cl io a' ss N V X
  | .ret _ d _=>V d
  | .exc c fs A'=>∃a',RelF A' a'/\X c fs a'
  | _=>False):Ou G cl io a (s::ss) N V X:=λA r=>by
 have:=h A r;simp only[qK,ji];revert this
 cases exec G cl io A s with
 | nx A'=>exact λ⟨a',h1,h2⟩=>h2 A' h1
 | ret k d A=>exact id
 | exc c fs A=>exact id
 | _=>exact id
def okI {io:am}{i n:Nat}(h:(!io.contains i&&Nat.blt i n)=true):io.contains i=false/\i<n:=by
 rw[tw] at h;exact⟨by simpa using h.1,Ih h.2⟩
def sZ {io is:am}{m n:Nat}(h:(m == is.length&&is.all λi=>!io.contains i&&Nat.blt i n)=true):m=is.length/\∀i∈is,io.contains i=false/\i<n:=by
 rw[tw,List.all_eq_true] at h;exact⟨by simpa using h.1,λi hi=>okI (h.2 i hi)⟩
theorem Ou.set {i:Nat}{e:Ex}{x:KD}(h:eval G cl a.sl e=.ok x)(k:Ou G cl io ((frz e.names a).set i (some (0,x.2))) ss N V X)(hi:(!io.contains i&&Nat.blt i a.length)=true:=by rfl):Ou G cl io a (.set i e::ss) N V X:=
 .step λA r=>by
  obtain⟨hio,hi⟩:=okI hi;have l:(settle e.names A x).length=a.length:=by
   rw[<-r.len];have:=(r.settle e.names x).len;rw[this,<-(RelF.low e.names a).len,r.len]
  simp only[la,r.sl,h,R.toO,cH,hio,l,hi,and_self,if_true];exact⟨_,(r.settle e.names x).set (x:=some x) (y:=some (0,x.2)) ⟨rfl,GX _⟩ i,k⟩
def Ou.setE {i:Nat}{e:Ex}{d:D}(h:∃j,eval G cl a.sl e=.ok (j,d))(k:Ou G cl io ((frz e.names a).set i (some (0,d))) ss N V X)(hi:(!io.contains i&&Nat.blt i a.length)=true:=by rfl):Ou G cl io a (.set i e::ss) N V X:=by
 obtain⟨j,h⟩:=h;exact Ou.set h k hi
def Ou.setK {i:Nat}{e:Ex}{x:KD}(h:eval G cl a.sl e=.ok x)(hx:x.2.fb x.1=true)(k:Ou G cl io (a.set i (some x)) ss N V X)(hi:(!io.contains i&&Nat.blt i a.length)=true:=by rfl):Ou G cl io a (.set i e::ss) N V X:=
 .step λA r=>by
  obtain⟨hio,hi⟩:=okI hi;have l:(settle e.names A x).length=a.length:=(r.settleK e.names hx).len;simp only[la,r.sl,h,R.toO,cH,hio,l,hi,and_self,if_true];exact⟨_,(r.settleK e.names hx).set (.refl _) i,k⟩
theorem Ou.ex {e:Ex}{x:KD}(h:eval G cl a.sl e=.ok x)(k:Ou G cl io (frz e.names a) ss N V X):Ou G cl io a (.ex e::ss) N V X:=
 .step λA r=>by
  simp only[rC,r.sl,h,R.toO];exact⟨_,r.settle e.names x,k⟩
theorem Ou.ret {e:Ex}{x:KD}(h:eval G cl a.sl e=.ok x)(k:V x.2):Ou G cl io a (.ret e::ss) N V X:=
 .step λA r=>by
  rw[lL,r.sl,h];cases e with
  | var i=>
   rw[ko,<-r.sl] at h;rcases r.get i with ⟨e1,e2⟩ | ⟨x',y',e1,e2,q⟩
   .simp[Fr.sl,e1] at h
   .cases x' with
    | none=>simp[Fr.sl,e1] at h
    | some x'=>
     simp[Fr.sl,e1] at h;subst h;rw[wJ,e1];exact k
  | _=>exact k
def Ou.retE {e:Ex}{d:D}(h:∃j,eval G cl a.sl e=.ok (j,d))(k:V d):Ou G cl io a (.ret e::ss) N V X:=by
 obtain⟨j,h⟩:=h;exact Ou.ret h k
theorem Ou.iff {c:Ex}{t e:az}{b:Bool}{j:Nat}(h:eval G cl a.sl c=.ok (j,.bl b))(k:if b then Ou G cl io a t (λa'=>Ou G cl io a' ss N V X) V X else Ou G cl io a e (λa'=>Ou G cl io a' ss N V X) V X):Ou G cl io a (.iff c t e::ss) N V X:=
 .step λA r=>by
  simp only[xu,r.sl,h,R.bl,R.bind,R.toO];cases b with
  | true=>exact k A r
  | false=>exact k A r
def Ou.iffT {c:Ex}{t e:az}{j:Nat}(h:eval G cl a.sl c=.ok (j,.bl true))(k:Ou G cl io a t (λa'=>Ou G cl io a' ss N V X) V X):Ou G cl io a (.iff c t e::ss) N V X:=.iff h k
def Ou.iffF {c:Ex}{t e:az}{j:Nat}(h:eval G cl a.sl c=.ok (j,.bl false))(k:Ou G cl io a e (λa'=>Ou G cl io a' ss N V X) V X):Ou G cl io a (.iff c t e::ss) N V X:=.iff h k
def Ou.iffN {c:Ex}{t:az}{j:Nat}(h:eval G cl a.sl c=.ok (j,.bl false))(k:Ou G cl io a ss N V X):Ou G cl io a (.iff c t []::ss) N V X:=Ou.iffF h (Ou.nil k)
theorem RelF.setFs {io:am}:∀{is:am} {ds:ay} {k:Nat} {A a:Fr},RelF A a->ds.length=is.length->(∀i∈is,io.contains i=false/\i<a.length)->∃A',setFs io is (ds.map λd=>(k,d)) A=.nx A'/\RelF A' (bD (λd=>(0,d)) is ds a)
 | [],[],_,A,a,r,_,_=>⟨A,rfl,r⟩
 | i::is,d::ds,k,A,a,r,hl,h=>by
  have hi:=h i bQ;have hl':i<A.length:=by rw[r.len]; exact hi.2
  obtain⟨A',e,r'⟩:=RelF.setFs (is:=is) (ds:=ds) (k:=k) (r.set (x:=some (k,d)) (y:=some (0,d)) ⟨rfl,GX _⟩ i) (by simpa using hl) λj hj=>⟨(h j (bN _ hj)).1,by simpa using (h j (bN _ hj)).2⟩
  refine⟨A',?_,r'⟩;simp only[GA,Ip.setFs,cH,hi.1,hl',and_self,if_true,O.seq];exact e
theorem Ou.setT {is:am}{e:Ex}{j:Nat}{ds:ay}(h:eval G cl a.sl e=.ok (j,.tup ds))(k:Ou G cl io (bD (λd=>(0,d)) is ds (frz e.names a)) ss N V X)(hi:(ds.length == is.length&&is.all λi=>!io.contains i&&Nat.blt i a.length)=true:=by rfl):Ou G cl io a (.setT is e::ss) N V X:=
 .step λA r=>by
  obtain⟨hl,hi⟩:=sZ hi;obtain⟨A',q1,q2⟩:=RelF.setFs (io:=io) (is:=is) (ds:=ds) (k:=0) (r.settle e.names (j,.tup ds)) hl λi hm=>⟨(hi i hm).1,by rw[<-(RelF.low e.names a).len]; exact (hi i hm).2⟩
  simp only[rY,r.sl,h,R.toO,eT,q1];exact⟨_,q2,k⟩
theorem Ou.fo {tg:Tg}{wk:Wk}{it:aG}{b:az}{vs:ax}{xs:ay}(I:ay->Fr->Prop)(h:evals G cl a.sl it=.ok vs)(hw:c7 wk vs=some xs)(hx:xs.length<=SL)(h0:I xs (frz (wk.fz it) a))
  (step:∀x r a',I (x::r) a'->∃a'',(∀A,RelF A a'->∃A',bv io tg x A=.nx A'/\RelF A' a'')/\Ou G cl io a'' b (I r) V X)(k:∀a',I [] a'->Ou G cl io a' ss N V X):Ou G cl io a (.fo tg wk it b::ss) N V X:=
 .step λA r=>by
  simp only[sA,r.sl,h,R.toO,kB,hw,hx,if_true];have lp:∀(xs:ay) (a':Fr),I xs a'->∀A,RelF A a'->match br (fG G cl io tg b) xs A with
    | .nx A'=>∃a',RelF A' a'/\Ou G cl io a' ss N V X
    | .ret _ d _=>V d
    | .exc c fs A'=>∃a',RelF A' a'/\X c fs a'
    | _=>False:=by
   intro xs;induction xs with
   | nil=>exact λa' hi A r=>⟨a',r,k a' hi⟩
   | cons x xs ih=>
    intro a' hi A r;obtain⟨a'',hb,hO⟩:=step x xs a' hi;obtain⟨A',e,r'⟩:=hb A r;have:=hO A' r';rw[br,fG,e];simp only[O.seq];revert this
    cases execs G cl io A' b with
    | nx A2=>exact λ⟨a2,h1,h2⟩=>ih a2 h2 A2 h1
    | ret k d A2=>exact id
    | exc c fs A2=>exact id
    | _=>exact False.elim
  exact lp xs _ h0 _ r.frz
def dW {i:Nat}{x:D}{a':Fr}(hi:(!io.contains i&&Nat.blt i a'.length)=true):∀A,RelF A a'->∃A',bv io (.one i) x A=.nx A'/\RelF A' (a'.set i (some (0,x))):=λA r=>by
 obtain⟨hio,hi⟩:=okI hi;have:i<A.length:=by rw[r.len]; exact hi
 simp only[bv,cH,hio,this,and_self,if_true];exact⟨_,rfl,r.set (.refl _) i⟩
def lY {is:am}{ds:ay}{a':Fr}(hi:(ds.length == is.length&&is.all λi=>!io.contains i&&Nat.blt i a'.length)=true):∀A,RelF A a'->∃A',bv io (.many is) (.tup ds) A=.nx A'/\RelF A' (bD (λd=>(0,d)) is ds a'):=λA r=>by
 obtain⟨hl,hi⟩:=sZ hi;simp only[bv];exact RelF.setFs r hl hi
end
theorem Ou.run {G:Pg}{n f:Nat}{F:Fn}{vs:ax}{V:D->Prop}(hf:G.fn f=some F)(hn:vs.length=F.np)(hio:F.io=[])(h:Ou G (run G n) [] (bG F vs) F.body (λ_=>V .non) V λ_ _ _=>False):∃k d,Ip.run G (n+1) f vs=.ret k d []/\V d:=by
 rw[Ip.run,hf];simp only[hn,if_true,hio];have:=h _ (.refl _);revert this
 cases execs G (Ip.run G n) [] (bG F vs) F.body with
 | nx A=>exact λ⟨_,_,h⟩=>⟨99,.non,rfl,h⟩
 | ret k d A=>exact λh=>⟨k,d,rfl,h⟩
 | exc c fs A=>exact λ⟨_,_,h⟩=>h.elim
 | _=>exact False.elim
structure Pa (G:Pg):Prop where
 f0:G.fn 0=some lu
 f1:G.fn 1=some jt
 f15:G.fn 15=some oq
 f16:G.fn 16=some kS
 f17:G.fn 17=some nP
 f18:G.fn 18=some lm
 f20:G.fn 20=some ku
 f21:G.fn 21=some ie
 c17:G.cl 17=some ⟨(some 18),[(12,20),(13,21)],[],false⟩
variable {G:Pg}(P:Pa G)
include P
noncomputable def isI:D->Bool
 | .int _=>true
 | _=>false
def pK (n:Nat)(k:Nat)(d:D):run G (n+1) 0 [(k,d)]=.ret 99 (.bl (isI d)) []:=by
 rw[run,P.f0];cases d <;> simp[lu,isI]
noncomputable def isB (b:Int):D->Bool
 | .int i=>decide (0<=i)&&decide (i<b)
 | _=>false
def qC (n:Nat)(k k':Nat)(d:D)(b:Int):run G (n+2) 1 [(k,d),(k',.int b)]=.ret 99 (.bl (isB b d)) []:=by
 rw[run,P.f1];cases d with
 | int i=>by_cases h:0<=i <;> simp[jt,P.f0,pK P,lu,isI,isB,h]
 | _=>simp[jt,P.f0,pK P,lu,isI,isB]
omit P in
noncomputable def db (xs:ao):Bool:=(xs.zip (xs.drop 1)).all λp=>decide (p.1<p.2)
def EL (n k:Nat)(xs:ao)(hl:xs.length<=SL):run G (n+1) 15 [(k,.lst (xs.map .int))]=.ret 99 (.bl (db xs)) []:=by
 rw[run,P.f15];have e:(xs.map D.int).zip (xs.map D.int).tail=(xs.zip xs.tail).map λp=>(.int p.1,.int p.2):=by
  rw[<-List.map_tail,List.zip_map]; rfl
 have c:cutD (xs.map D.int) (some 1) none=(xs.map D.int).drop 1:=nk _ 1;have hl2:xs.length<=SL+1:=by omega
 simp[oq,c,e,Je,hl2];rw[gU (g:=λp:Int×Int=>(99,.bl (decide (p.1<p.2))))]
 .simp[Je,Function.comp_def,db]
 .intro x hx;simp[compF]
def xM (n k k':Nat)(xs:ao)(b:Int)(hl:xs.length<=SL) :
  run G (n+3) 16 [(k,.lst (xs.map .int)),(k',.int b)]=.ret 99 (.bl (decide (xs≠[])&&(xs.all λi=>decide (0<=i)&&decide (i<b))&&db xs)) []:=by
 rw[run,P.f16];have c:bc (compF G (run G (n+2)) [none,none,some (.int b)] (.one 1) [] (.call 1 [.var 1,.var 2])) (xs.map .int)=.ok (xs.map λi=>(99,.bl (decide (0<=i)&&decide (i<b)))):=
  gU λi _=>by simp[compF,P.f1,jt,qC P n,isB]
 have q:=EL P (n+1) 0 xs hl;by_cases hx:xs=[]
 .subst hx;simp[kS,D.eq]
 .by_cases h:(xs.all λi=>decide (0<=i)&&decide (i<b))=true
  .simp[kS,D.eq,hx,hl,c,Function.comp_def,h,P.f15,oq,q]
  .have h':(xs.all λi=>decide (0<=i)&&decide (i<b))=false:=by simpa using h
   simp[kS,D.eq,hx,hl,c,Function.comp_def,h']
noncomputable def wd (p:Int)(cs:ab):D:=.ins 17 [(9,.int p),(10,.lst (cs.map λc=>.tup (c.map .int)))]
noncomputable def aO (cs:ab):D:=.lst (cs.map λc=>.lst (c.map .int))
noncomputable def good (p:Int)(c:ao):Bool:=decide (c≠[])&&(c.all λi=>decide (0<=i)&&decide (i<p))&&db c
def EU (n k k':Nat)(p:Int)(cs:ab)(hp:1<=p/\p<=6)(hn:cs.length<=6)(hc:∀c∈cs,good p c=true)(hl:∀c∈cs,c.length<=SL) :
  run G (n+4) 18 [(1,.ins 17 []),(k,.int p),(k',aO cs)]=.ret 99 .non [(100,wd p cs)]:=by
 rw[run,P.f18];have hw:=pK P (n+2) 0 (.int p);have hS:cs.length<=SL:=bH hn (by decide);have h6:¬((6:Int)<cs.length):=by omega
 have lp:∃A',br (fG G (run G (n+3)) [0] (.many [3,4]) [.iff (.op .not [(.call 16 [(.var 4),(.var 1)])]) [.bad] []]) ((cs.map λc=>D.lst (c.map .int)).mapIdx λn d=>.tup [.int n,d])
   [some (1,.ins 17 []),some (0,.int p),some (0,aO cs),none,none]=.nx A'/\∃a b,A'=[some (1,.ins 17 []),some (0,.int p),some (0,aO cs),a,b]:=by
  refine ur (I:=λA'=>∃a b,A'=[some (1,.ins 17 []),some (0,.int p),some (0,aO cs),a,b]) ⟨_,_,rfl⟩ ?_;rintro x hx A ⟨a,b,hA⟩;obtain⟨i,d,hi,hd⟩:∃(i:Nat) (c:ao),c∈cs/\x=.tup [.int i,.lst (c.map .int)]:=by
   rw[List.mem_mapIdx] at hx;obtain⟨i,hi,e⟩:=hx;rw[List.getElem_map] at e;exact⟨i,_,G5 (by simpa using hi),e.symm⟩
  subst hA hd;have g:=hc d hi;rw[good] at g;have q:=xM P n 0 0 d p (hl d hi);rw[g] at q;refine⟨_,?_,some (0,.int i),some (0,.lst (d.map .int)),rfl⟩;simp[fG,P.f16,kS,q]
 obtain⟨A',e,a,b,rfl⟩:=lp;simp only[aO] at e;have c:bc (compF G (run G (n+3)) [none,none] (.one 1) [] (.op .tuple [.var 1])) (cs.map λc=>D.lst (c.map .int))=.ok (cs.map λc=>(0,.tup (c.map .int))):=
  gU λc _=>by simp[compF]
 have j:bf (cs.map λc=>((0:Nat),D.tup (c.map .int)))=98:=oJ λx hx=>by
  obtain⟨c,_,rfl⟩:=dh hx;simp
 simp[lm,P.f0,lu,hw,isI,hp.1,hp.2,aO,hS,h6,e,c,j,wd,dA,bt,Function.comp_def]
end Ip
end
section
namespace Ip
open PySem (Str)
def EB {d:D}(h:d.scal=true):d.flat=true:=by cases d <;> simp at h ⊢
def BB {d:D}(k:Nat)(h:d.scal=true):d.fb k=true:=by cases d <;> simp at h ⊢ <;> cases k <;> rfl
def tX {ds:ay}(k:Nat)(h:ds.all D.scal=true):D.fb k (.tup ds)=true:=by
 have h':=dR h;cases k with
 | zero=>simp only[D.fb,D.flat,qx,List.all_eq_true]; exact λd hd=>EB (h' d hd)
 | succ k=>simp only[D.fb,List.all_eq_true]; exact λd hd=>BB k (h' d hd)
def RelF.own {A a:Fr}(r:RelF A a){x k:Nat}{d:D}(h:a[x]? = some (some (k+1,d))):∃j,A[x]? = some (some (j+1,d)):=by
 rcases r.get x with ⟨_,e2⟩ | ⟨y,z,e1,e2,q⟩
 .rw[e2] at h; cases h
 .rw[e2] at h;cases h;cases y with
  | none=>exact q.elim
  | some y=>
   obtain⟨j,d'⟩:=y;obtain⟨q1,q2⟩:=q;have q1':d'=d:=q1;have q2':k+1<=j:=q2;subst q1';exact⟨j - 1,by rw[e1]; congr 3; omega⟩
section
variable {G:Pg}{cl:Nat->ax->Run}{io:am}{a:Fr}{ss:az}{N:Fr->Prop}{V:D->Prop}{X:Nat->List aJ->Fr->Prop}
theorem Ou.extend {x k j:Nat}{e:Ex}{xs ys:ay}(hx:a[x]? = some (some (k+1,.lst xs)))(he:eval G cl a.sl e=.ok (j,.tup ys))(hs:ys.all D.scal=true)(hl:xs.length+ys.length<=SL)(h:Ou G cl io (a.set x (some (1,.lst (xs++ys)))) ss N V X) :
  Ou G cl io a (.mut x [] .extend [e]::ss) N V X:=
 .step λA r=>by
  obtain⟨k',hA⟩:=r.own hx;have e1:cm A[x]? = true:=by rw[hA]; rfl
  have e2:([(j,D.tup ys)]:ax).all (λv=>v.2.fb v.1)=true:=by simp only[List.all_cons,List.all_nil,Bool.and_true]; exact tX j hs
  simp only[iG,e1,if_true,de,bP,r.sl,he,R.bind,R.toO,dG,e2,hA,dS,uP,hs,hl,and_self];exact⟨_,r.set (.refl _) x,h⟩
end
section
variable {G:Pg}{cl:Nat->ax->Run}{io:am}{a:Fr}{ss:az}{N:Fr->Prop}{V:D->Prop}{X:Nat->List aJ->Fr->Prop}
theorem Ou.append {x k:Nat}{e:Ex}{xs:ay}{v:KD}(hx:(frz e.names a)[x]? = some (some (k+1,.lst xs)))(he:eval G cl a.sl e=.ok v)(hl:xs.length<SL)(h:Ou G cl io ((frz e.names a).set x (some (1,.lst (xs++[v.2])))) ss N V X) :
  Ou G cl io a (.mut x [] .append [e]::ss) N V X:=
 .step λA r=>by
  obtain⟨k0,h0⟩:=(r.trans (.low e.names a)).own hx;have e1:cm A[x]? = true:=by rw[h0]; rfl
  have nm:Ex.namess [e]=e.names:=by simp
  have r1:RelF (if ([v]:ax).all (λv=>v.2.fb v.1)=true then A else frz (Ex.namess [e]) A) (frz e.names a):=by
   rw[nm];split
   .exact r.trans (.low e.names a)
   .exact r.frz
  obtain⟨k1,h1⟩:=r1.own hx;simp only[iG,e1,if_true,de,bP,r.sl,he,R.bind,R.toO,dG];generalize (if ([v]:ax).all (λv=>v.2.fb v.1)=true then A else frz (Ex.namess [e]) A)=A1 at r1 h1;rw[h1];simp only[dS,tP,hl,if_true];exact⟨_,r1.set (x:=some (dA k1 xs v+1,.lst (xs++[v.2]))) (y:=some (1,.lst (xs++[v.2]))) ⟨rfl,by omega⟩ x,h⟩
end
end Ip
end
section
namespace Ip
def RelF.of_eq {a b:Fr}(h:a=b):RelF a b:=h ▸ .refl a
section
variable {G:Pg}{cl:Nat->ax->Run}{io:am}{a:Fr}{ss:az}{N:Fr->Prop}{V:D->Prop}{X:Nat->List aJ->Fr->Prop}
theorem nM:∀(ss ts:az) (A:Fr),execs G cl io A (ss++ts)=(execs G cl io A ss).seq λA=>execs G cl io A ts
 | [],ts,A=>by simp[O.seq]
 | s::ss,ts,A=>by
  rw[List.cons_append,ji,ji];cases exec G cl io A s with
  | nx A'=>simp only[O.seq]; exact nM ss ts A'
  | _=>rfl
end
def Ou.runE {G:Pg}{n f:Nat}{F:Fn}{vs:ax}{init:az}{e:Ex}{P:KD->Prop}(hf:G.fn f=some F)(hn:vs.length=F.np)(hio:F.io=[])(hb:F.body=init++[.ret e])(hv:∀i,e≠.var i)
  (h:Ou G (Ip.run G n) [] (bG F vs) init (λa=>∃x,eval G (Ip.run G n) a.sl e=.ok x/\P x) (λ_=>False) λ_ _ _=>False):∃x:KD,Ip.run G (n+1) f vs=.ret x.1 x.2 []/\P x:=by
 rw[Ip.run,hf];simp only[hn,if_true,hio];rw[hb,nM];have:=h _ (.refl _);revert this
 cases execs G (Ip.run G n) [] (bG F vs) init with
 | nx A=>
  rintro⟨a,r,x,h1,h2⟩;refine⟨x,?_,h2⟩;have e2:eval G (Ip.run G n) A.sl e=.ok x:=by rw[r.sl]; exact h1
  simp only[O.seq,ji,lL,e2];cases e with
  | var i=>exact absurd rfl (hv i)
  | _=>simp[fin]
 | ret k d A=>exact False.elim
 | exc c fs A=>exact λ⟨_,_,h⟩=>h.elim
 | _=>exact False.elim
end Ip
end
section
namespace Ip
open PySem (Str)
noncomputable def aM (r:am):D:=.tup (aL r)
noncomputable def wrD (rows:af):D:=.tup (rows.map aM)
def j8 (r:am):(aL r).all D.scal=true:=by simp[aL]
theorem pz:∀{ns:am},(∀n∈ns,n<6)->cA (aL ns)=some ns
 | [],_=>rfl
 | n::ns,h=>by
  have h1:=h n bQ;have ih:=pz (ns:=ns) λm hm=>h m (bN _ hm);have h2:(0:Int)<=Int.ofNat n/\Int.ofNat n<6:=⟨II n,by simpa using (show (n:Int)<6 by omega)⟩
  show cA (.int (Int.ofNat n)::aL ns)=_;simp only[cA,h2,and_self,if_true,ih,Option.map];rfl
theorem iS (g:Nat):∀ns:am,D.memb (.int g) (aL ns)=decide (g∈ns)
 | []=>rfl
 | n::ns=>by
  have ih:=iS g ns;have e:D.memb (.int g) (aL (n::ns))=((D.int (Int.ofNat n)).eq (.int g)||D.memb (.int g) (aL ns)):=rfl;rw[e,ih];simp only[D.eq];by_cases h:g=n
  .subst h; simp
  .have:¬(n:Int)=(g:Int):=by omega
   simp[this,h]
def t6 {g:Nat}{ns:am}(h:g<6):g∈aV ns↔g∈ns:=by
 simp[aV,h]
noncomputable def mN (c:ao)(g:Nat)(rows:af):af:=c.foldl (λrs i=>rs.set i.toNat (rs.getD i.toNat []++[g])) rows
def zH {r:am}{g:Nat}(h:r.length<=1000):bI (aM r) (.tup [.int g])=some (0,aM (r++[g])):=by
 have:(aL r).length+[D.int g].length<=SL:=by
  have:1001<=SL:=by decide
  simp[aL];omega
 simp only[aM,bI];rw[if_pos this];simp[aL]
structure Pv (G:Pg):Prop where
 a:Pa G
 f24:G.fn 24=some iX
section
variable {G:Pg}(P:Pa G)
include P
omit P in
theorem i9 (p:Int)(cs:ab):hY 10 (wd p cs)=some (0,.lst (cs.map λc=>.tup (c.map .int))):=rfl
def vP (p:Int)(cs:ab):ck G 12 0 (wd p cs)=some (20,ku):=by
 simp[ck,wd,P.c17,P.f20,ku,List.lookup]
def oP (p:Int)(cs:ab):ck G 13 1 (wd p cs)=some (21,ie):=by
 simp[ck,wd,P.c17,P.f21,ie,List.lookup]
def wt (n k:Nat)(p:Int)(cs:ab):run G (n+1) 20 [(k,wd p cs)]=.ret 99 (.int cs.length) []:=by
 rw[run,P.f20];simp[ku,i9]
def EN (n k k':Nat)(p:Int)(cs:ab)(d:D)(h:isB cs.length d=true):run G (n+4) 17 [(k,wd p cs),(k',d)]=.ret 99 .non []:=by
 rw[run,P.f17];have q:=qC P (n+1) 0 99 d cs.length;have q2:=wt P (n+2) 0 p cs;rw[h] at q;simp[nP,P.f1,jt,vP P,ku,q2,q]
def oO (n k k':Nat)(p:Int)(cs:ab)(j:Nat)(c:ao)(h:cs[j]? = some c):run G (n+5) 21 [(k,wd p cs),(k',.int j)]=.ret 1 (.lst (c.map .int)) []:=by
 rw[run,P.f21];have hj:j<cs.length:=(dO h).1;have hb:isB cs.length (.int j)=true:=by simp[isB,hj]
 have q:=EN P n 0 0 p cs (.int j) hb;have e:cs[j]=c:=(dO h).2;simp[ie,P.f17,nP,q,i9,d6,hj,e]
end
section
variable {G:Pg}(P:Pv G)
include P
def uo (n k:Nat)(rows:af)(h1:rows.length<=6)(h2:rows.flatten.length<=1000)(h3:∀g∈rows.flatten,g<6):∃j,run G (n+1) 24 [(k,wrD rows)]=.ret j (.lst (aL (aV rows.flatten))) []:=by
 have hs:rows.length<=SL:=bH h1 (by decide);have key:Ou G (run G n) [] [some (0,wrD rows),none,none] iX.body (λ_=>False) (λd=>d=.lst (aL (aV rows.flatten))) λ_ _ _=>False:=by
  refine Ou.setK (x:=(99,.lst [])) (by simp) (by simp) ?_;refine Ou.low (a':=[some (0,wrD rows),some (1,.lst []),none]) (.cons (.refl _) (.cons ⟨rfl,by decide⟩ (.cons trivial .nil))) ?_;refine Ou.fo (λr a=>∃(x:aA) (fl:am) (suf:af),a=[some (0,wrD rows),some (1,.lst (aL fl)),x]/\r=suf.map aM/\fl++suf.flatten=rows.flatten) (vs:=[(0,wrD rows)]) (xs:=rows.map aM) (by simp) (by simp[wrD]) (by simpa using hs) ?_ ?_ ?_
  .exact⟨none,[],rows,by simp[aL],rfl,rfl⟩
  .rintro x r a ⟨y,fl,suf,ha,hr,he⟩;cases suf with
   | nil=>simp at hr
   | cons s suf=>
    simp only[GA,He] at hr;obtain⟨rfl,rfl⟩:=hr;subst ha;refine⟨_,dW rfl,?_⟩;refine Ou.extend (k:=0) (j:=0) (xs:=aL fl) (ys:=aL s) (by simp) (by simp[aM]) (j8 s) ?_ ?_
    .have e2:rows.flatten.length=fl.length+(s.length+suf.flatten.length):=by rw[<-he]; simp
     have:1000<=SL:=by decide
     simp only[aL,Gx];omega
    .exact Ou.nil ⟨some (0,aM s),fl++s,suf,by simp[aL],rfl,by simpa using he⟩
  .rintro a ⟨y,fl,suf,ha,hr,he⟩;have:suf=[]:=by simpa using hr.symm
   subst this ha;simp only[List.flatten_nil,Hn] at he;rw[<-he] at h3 ⊢;exact Ou.ret (x:=(1,.lst (aL (aV fl)))) (by simp[pz h3]) rfl
 obtain⟨j,d,e,rfl⟩:=Ou.run (n:=n) (vs:=[(k,wrD rows)]) (V:=λd=>d=.lst (aL (aV rows.flatten))) P.f24 rfl rfl (key.mono (λ_ h=>h.elim) (λ_ h=>h) λ_ _ _ h=>h);exact⟨j,e⟩
end
noncomputable def fc (f:am->am)(c:ao)(rows:af):af:=c.foldl (λrs i=>rs.set i.toNat (f (rs.getD i.toNat []))) rows
theorem vv (c:ao)(g:Nat)(rows:af):mN c g rows=fc (λr=>r++[g]) c rows:=rfl
theorem qN (f:am->am):∀(c:ao) (rows:af),c.Nodup->(∀i∈c,0<=i/\i<rows.length)->∀j:Nat,(fc f c rows)[j]? = rows[j]?.map λr=>if (j:Int)∈c then f r else r
 | [],rows,_,_,j=>by simp[fc]
 | i::c,rows,hn,hi,j=>by
  obtain⟨h1,h2⟩:=GP.mp hn;have hi0:=hi i bQ;have ih:=qN f c (rows.set i.toNat (f (rows.getD i.toNat []))) h2 (λx hx=>by simpa using hi x (bN _ hx)) j;show (fc f c (rows.set i.toNat (f (rows.getD i.toNat []))))[j]? = _;rw[ih,List.getElem?_set];by_cases e:i.toNat=j
  .have e':i=(j:Int):=by omega
   have hj:j<rows.length:=by omega
   subst e';simp[hj,h1]
  .have e':¬(j:Int)=i:=by omega
   simp[e,e']
def Eu {f:am->am}{c:ao}{rows:af}(hn:c.Nodup)(hi:∀i∈c,0<=i/\i<rows.length):fc f c rows=rows.mapIdx λj r=>if (j:Int)∈c then f r else r:=by
 refine Hz λj=>?_;rw[qN f c rows hn hi j,Hi]
def Fv {α:Type}(xs:List α):cutD xs none (some (-1))=xs.dropLast:=by
 rw[List.dropLast_eq_take];simp only[cutD,dH];simp;congr 1
 omega
def fw (r:am):(aL r).length=r.length:=by simp[aL]
def E7 (r:am):(aL r).dropLast=aL r.dropLast:=by simp[aL]
structure Pd (G:Pg):Prop where
 f98:G.fn 98=some eJ
 f71:G.fn 71=some gF
 f99:G.fn 99=some oZ
theorem tx:∀{xs:ao},xs.Pairwise (· < ·)->db xs=true
 | [],_=>rfl
 | [x],_=>rfl
 | x::y::r,h=>by
  have ih:=tx (List.Pairwise.tail h);have hxy:x<y:=by cases h with | cons h _=>exact h y bQ
  unfold db at ih ⊢;simp at ih ⊢;exact⟨hxy,ih⟩
structure OkC (p:Nat)(c:ao):Prop where
 gd:good p c=true
 ne:c≠[]
 rg:∀i∈c,0<=i/\i<p
 nd:c.Nodup
 ln:c.length<=6
def nY {p:Nat}{ns:am}(hp:p<=6)(h1:ns.Pairwise (· < ·))(h2:∀n∈ns,n<p)(h3:ns≠[]):OkC p (ns.map λ(n:Nat)=>(n:Int)):=by
 have pw:(ns.map λ(n:Nat)=>(n:Int)).Pairwise (· < ·):=List.Pairwise.map _ (λa b h=>by simpa using h) h1;have rg:∀i∈ns.map λ(n:Nat)=>(n:Int),0<=i/\i<p:=λi hi=>by
  obtain⟨n,hn,rfl⟩:=dh hi;have:=h2 n hn;omega
 have ne:ns.map (λ(n:Nat)=>(n:Int))≠[]:=by simpa using h3
 have ln:∀(ns:am) (lo:Nat),ns.Pairwise (· < ·)->(∀n∈ns,lo<=n/\n<p)->lo+ns.length<=p\/ns=[]:=by
  intro ns;induction ns with
  | nil=>intro _ _ _; exact .inr rfl
  | cons x r ih=>
   intro lo hp' hr;obtain⟨q1,q2⟩:=JE.mp hp';have hx:=hr x bQ;rcases ih (x+1) q2 (λn hn=>⟨q1 n hn,(hr n (bN _ hn)).2⟩) with h | h
   .simp only[List.length_cons]; omega
   .subst h; simp; omega
 refine⟨?_,ne,rg,pw.imp λh=>by omega,?_⟩
 .simp only[good,tw,GV,List.all_eq_true];exact⟨⟨ne,rg⟩,tx pw⟩
 .rcases ln ns 0 h1 (λn hn=>⟨GX _,h2 n hn⟩) with h | h
  .simp; omega
  .exact absurd h h3
variable {G:Pg}(P:Pd G)
include P
def iP (n k k':Nat)(ns:ao)(j:Nat):∃d,run G (n+1) 98 [(k,.lst (ns.map .int)),(k',.int j)]=.ret d (.int (ns.getD j 0)) []:=by
 rw[run,P.f98];by_cases h:j<ns.length
 .have h':(j:Int)<ns.length:=by omega
  exact⟨0,by simp[eJ,h',d6,h]⟩
 .have h':¬(j:Int)<ns.length:=by omega
  have e:ns[j]? = none:=G0 (by omega);exact⟨99,by simp[eJ,h',e]⟩
def lw (n k k' k'':Nat)(c s m:Int)(hm:0<m)(hs:0<=s/\s<=1000):∃v j,run G (n+1) 71 [(k,.int c),(k',.int s),(k'',.int m)]=.ret j (.int v) []/\0<=v/\v<m:=by
 have b10:cN 10=true:=dY.mpr (by decide);have b31:cN 31=true:=dY.mpr (by decide);have b977:cN 977=true:=dY.mpr (by decide);have b65:cN 65537=true:=dY.mpr (by decide);have fin:∀x:Int,0<=x % m/\x % m<m:=λx=>⟨Jt _ (by omega),IJ _ hm⟩
 have key:Ou G (run G n) [] [some (0,.int c),some (0,.int s),some (0,.int m),none,none,none] gF.body (λ_=>False) (λd=>∃v,d=.int v/\0<=v/\v<m) λ_ _ _=>False:=by
  by_cases h:c > 1000000000
  .refine Ou.iffT (j:=99) (by simp[b10]; omega) ?_;refine Ou.set (x:=(99,.int (c / 1000))) rfl ?_;have hk:0<=s % 9/\s % 9<9:=⟨Jt _ (by decide),IJ _ (by decide)⟩
   obtain⟨q,eq⟩:∃q:Nat,s % 9=(q:Int):=⟨(s % 9).toNat,by omega⟩
   have hq:q<=SL:=by
    have:9<=SL:=by decide
    omega
   refine Ou.fo (λr a=>∃(x4:aA) (y:Int),a=[some (0,.int c),some (0,.int s),some (0,.int m),some (0,.int y),x4,none]) (vs:=[(99,.int (q:Int))]) (xs:=(List.range q).map λ(n:Nat)=>D.int n) (by simp[eq]) (wk_rng1 hq) (by simpa using hq) ⟨none,c / 1000,by simp⟩ ?_ ?_
   .rintro x r a ⟨x4,y,ha⟩;subst ha;refine⟨_,dW rfl,?_⟩;refine Ou.set (x:=(99,.int (y / 1000))) rfl ?_;exact Ou.nil ⟨some (0,x),y / 1000,by simp⟩
   .rintro a ⟨x4,y,ha⟩;subst ha;exact Ou.ret (x:=(99,.int (y % 1000 % m))) (by simp[hm]) ⟨_,rfl,fin _⟩
  .refine Ou.iffN (j:=99) (by simp[b10]; omega) ?_;refine Ou.set (x:=(99,.int (c % 1000003+31 * s+1))) (by simp[b31]) ?_;have hx:cN (c % 1000003+31 * s+1)=true:=dY.mpr (by omega);generalize c % 1000003+31 * s+1=x at hx;exact Ou.ret (x:=(99,.int ((x * x+65537 * x+977 * s) % 999983 / 3 % m))) (by simp[hx,b65,b977,hm]) ⟨_,rfl,fin _⟩
 obtain⟨j,d,e,v,rfl,h1,h2⟩:=Ou.run (n:=n) (vs:=[(k,.int c),(k',.int s),(k'',.int m)]) (V:=λd=>∃v,d=.int v/\0<=v/\v<m) P.f71 rfl rfl (key.mono (λ_ h=>h.elim) (λ_ h=>h) λ_ _ _ h=>h);exact⟨v,j,e,h1,h2⟩
end Ip
end
section
namespace Ip
open PySem (Str)
noncomputable def cU (p:Nat):Int:=([1,3,7,15,31,63]:ao).getD (p - 1) 1
noncomputable def eV (v:Int)(p:Nat):am:=(List.range p).filter λn=>decide (v / (([1,2,4,8,16,32]:ao).getD n 1) % 2=1)
def EV:∀p:Fin 7,∀v:Fin 64,1<=p.1->1<=v.1->(v.1:Int)<=cU p.1->eV (v.1:Int) p.1≠[]:=by decide +kernel
def Fs:∀p:Fin 7,cU p.1<=63:=by decide +kernel
def zK {v:Int}{p:Nat}(hp:1<=p/\p<=6)(hv:1<=v/\v<=cU p):eV v p≠[]:=by
 have hf:=Fs ⟨p,by omega⟩;obtain⟨u,rfl⟩:∃u:Nat,v=(u:Int):=⟨v.toNat,by omega⟩
 exact EV ⟨p,by omega⟩ ⟨u,by dsimp only at hf; omega⟩ hp.1 (by dsimp only; omega) hv.2
def zP {i:Nat}(h:i<6):∃y:Int,([1,2,4,8,16,32]:ao).getD i 1=y/\0<y/\y<1000000000000000000000000000000000000000000000000/\aW (.lst [.int 1,.int 2,.int 4,.int 8,.int 16,.int 32]) (.int (i:Nat))=some (0,.int y):=by
 have hq:i=0\/i=1\/i=2\/i=3\/i=4\/i=5:=by omega
 rcases hq with rfl | rfl | rfl | rfl | rfl | rfl <;> exact⟨_,rfl,by decide,by decide,rfl⟩
def EQ {v:Int}{p:Nat}(hp:1<=p/\p<=6)(hv:1<=v/\v<=cU p):OkC p ((eV v p).map λ(n:Nat)=>(n:Int)):=by
 refine nY hp.2 (List.pairwise_lt_range.filter _) (λn hn=>?_) (zK hp hv);exact GS.mp (GB.mp hn).1
def Ff {p:Nat}(hp:1<=p/\p<=6):aW (.lst [.int 1,.int 3,.int 7,.int 15,.int 31,.int 63]) (.int ((p:Int) - 1))=some (0,.int (cU p)):=by
 have hq:p=1\/p=2\/p=3\/p=4\/p=5\/p=6:=by omega
 rcases hq with rfl | rfl | rfl | rfl | rfl | rfl <;> simp[aW,d6,cU]
def D7 (p:Nat):0<cU p:=by
 unfold cU;by_cases h:p - 1<6
 .have hq:p - 1=0\/p - 1=1\/p - 1=2\/p - 1=3\/p - 1=4\/p - 1=5:=by omega
  rcases hq with e | e | e | e | e | e <;> rw[e] <;> decide
 .have:([1,3,7,15,31,63]:ao)[p - 1]? = none:=G0 (by simpa using by omega);simp[this]
def D1 {α:Type}{xs:List α}{v:Nat}(h:v<xs.length):cutD (cutD xs (some (v:Int)) none) none (some 1)=[xs[v]]:=by
 have e:=k7 (xs.drop v) 1;rw[nk];simp only[Int.natCast_one] at e;rw[e,GW h,List.take_succ_cons,List.take_zero]
def Fj {p:Nat}{c:ao}(hp:p<=6)(h:OkC p c){i:Int}(hi:i∈c):OkC p [i]:=by
 have h1:=h.rg i hi;have:=nY (p:=p) (ns:=[i.toNat]) hp (by simp) (λn hn=>by simp at hn; omega) (by simp);simp only[GA,List.map_nil] at this
 rwa [G2 h1.1] at this
variable {G:Pg}(P:Pd G)
include P
set_option maxHeartbeats 600000 in
def FV (n k k':Nat)(ns:ao)(p:Nat)(hp:1<=p/\p<=6):∃j cs,run G (n+2) 99 [(k,.lst (ns.map .int)),(k',.int p)]=.ret j (aO cs) []/\cs.length<=6/\∀c∈cs,OkC p c:=by
 obtain⟨d1,q1⟩:=iP P n 0 99 ns 1;have hq0:0<=ns.getD 1 0 % 7/\ns.getD 1 0 % 7<7:=⟨Jt _ (by decide),IJ _ (by decide)⟩
 obtain⟨q,eq⟩:∃q:Nat,ns.getD 1 0 % 7=(q:Int):=⟨(ns.getD 1 0 % 7).toNat,by omega⟩
 have hq:q<=6:=by omega
 have hS:q<=SL:=bH hq (by decide);have hpS:p<=SL:=bH hp.2 (by decide);have i2:cN 2=true:=dY.mpr (by decide);have key:Ou G (run G (n+1)) [] [some (0,.lst (ns.map .int)),some (0,.int p),none,none,none,none,none] oZ.body (λ_=>False) (λd=>∃cs,d=aO cs/\cs.length<=6/\∀c∈cs,OkC p c) λ_ _ _=>False:=by
  refine Ou.setK (x:=(99,.lst [])) (by simp) (by simp) ?_;refine Ou.low (a':=[some (0,.lst (ns.map .int)),some (0,.int p),some (1,.lst []),none,none,none,none]) (.cons (.refl _) (.cons (.refl _) (.cons ⟨rfl,by decide⟩ (.refl _)))) ?_;refine Ou.fo (λr a=>∃(x3 x4 x5 x6:aA) (cs:ab) (suf:am),a=[some (0,.lst (ns.map .int)),some (0,.int p),some (1,aO cs),x3,x4,x5,x6]/\r=suf.map (λ(n:Nat)=>D.int n)/\cs.length+suf.length<=6/\∀c∈cs,OkC p c) (vs:=[(99,.int (q:Int))]) (xs:=(List.range q).map λ(n:Nat)=>D.int n) ?_ (wk_rng1 hS) (by simpa using hS) ?_ ?_ ?_
  .simp at q1 eq;simp[P.f98,eJ,q1,eq]
  .exact⟨none,none,none,none,[],List.range q,by simp[aO],rfl,by simpa using hq,by simp⟩
  .rintro x r a ⟨x3,x4,x5,x6,cs,suf,ha,hr,hl,hok⟩;cases suf with
   | nil=>simp at hr
   | cons s suf=>
    simp only[GA,He] at hr;obtain⟨rfl,rfl⟩:=hr;subst ha;simp only[List.length_cons] at hl;refine⟨_,dW rfl,?_⟩;obtain⟨d2,q2⟩:=iP P n 0 99 ns (2+s);have e2:((2+s:Nat):Int)=2+(s:Int):=by omega
    rw[e2] at q2;generalize ns.getD (2+s) 0=c at q2;refine Ou.set (x:=(d2,.int c)) (by simp[P.f98,eJ,q2]) ?_;obtain⟨v,j3,q3,hv0,hv1⟩:=lw P n 0 99 0 c 1 (cU p) (D7 p) (by decide);have im:=Ff hp;refine Ou.set (x:=(99,.int (1+v))) (by simp[-aW,im,P.f71,gF,q3]) ?_;have ok:=EQ (v:=1+v) hp (by omega);have eF:eV (1+v) p=(List.range p).filter λn=>decide ((1+v) / (([1,2,4,8,16,32]:ao).getD n 1) % 2=1):=rfl;generalize eV (1+v) p=F at ok eF;have cc:bc (compF G (run G (n+1)) [none,none,some (.int (1+v))] (.one 1) [(.op .eq [(.op .mod [(.op .fdiv [(.var 2),(.op .ix [(.op .lst [(.cst (.int (1))),(.cst (.int (2))),(.cst (.int (4))),(.cst (.int (8))),(.cst (.int (16))),(.cst (.int (32)))]),(.var 1)])]),(.cst (.int (2)))]),(.cst (.int (1)))])] (.var 1)) ((List.range p).map λ(n:Nat)=>D.int n)=.ok (F.map λ(n:Nat)=>((0:Nat),D.int n)):=by
     rw[eF];refine m8 λi hi=>?_;obtain⟨y,ey,hy,h3,ix⟩:=zP (i:=i) (by have:=GS.mp hi; omega);rw[ey];have hy':¬y=0:=by omega
     simp[-aW,compF,ix,D.eq,hy,hy',h3]; split <;> rfl
    have hj:bf (F.map λ(n:Nat)=>((0:Nat),D.int n))=98:=oJ λx hx=>by
     obtain⟨c,_,rfl⟩:=dh hx;simp
    clear eF;refine Ou.set (x:=(99,.lst (F.map λ(n:Nat)=>D.int n))) (by simp[wk_rng1 hpS,hpS,cc,hj,Function.comp_def]) ?_;obtain⟨c1,ec,oc⟩:∃c1:ao,F.map (λ(n:Nat)=>D.int n)=c1.map .int/\OkC p c1:=⟨F.map λ(n:Nat)=>(n:Int),by simp,ok⟩
    rw[ec];clear ec cc hj ok;have fin:∀(c2:ao) (a:Fr),a=[some (0,.lst (ns.map .int)),some (0,.int p),some (1,aO cs),some (0,.int s),some (0,.int c),some (0,.int (1+v)),some (0,.lst (c2.map .int))]->OkC p c2->Ou G (run G (n+1)) [] a [.mut 2 [] .append [(.var 6)]] (λa=>∃(x3 x4 x5 x6:aA) (cs:ab) (suf':am),a=[some (0,.lst (ns.map .int)),some (0,.int p),some (1,aO cs),x3,x4,x5,x6]/\suf.map (λ(n:Nat)=>D.int n)=suf'.map (λ(n:Nat)=>D.int n)/\cs.length+suf'.length<=6/\∀c∈cs,OkC p c) (λd=>∃cs,d=aO cs/\cs.length<=6/\∀c∈cs,OkC p c) λ_ _ _=>False:=by
     intro c2 a ea o2;subst ea;have hl6:cs.length<SL:=by
      have:7<=SL:=by decide
      omega
     refine Ou.append (k:=0) (xs:=cs.map λc=>.lst (c.map .int)) (v:=(0,.lst (c2.map .int))) (by simp[aO,frz,frz1]) (by simp) (by simpa using hl6) ?_;refine Ou.nil ⟨some (0,.int s),some (0,.int c),some (0,.int (1+v)),some (0,.lst (c2.map .int)),cs++[c2],suf,by simp[aO,frz,frz1],rfl,by simp; omega,?_⟩;intro c hc;rcases dm hc with h | h
     .exact hok c h
     .rw[Gz.mp h]; exact o2
    obtain⟨v4,j4,q4,h40,h41⟩:=lw P n 0 99 99 c 2 2 (by decide) (by decide);by_cases h:v4=1
    .subst h;have hlen:(0:Int)<c1.length:=by
      have:=oc.ne;have:=List.length_pos_iff.mpr this;omega
     obtain⟨v5,j5,q5,h50,h51⟩:=lw P n 0 99 99 c 3 c1.length hlen (by decide);obtain⟨u,rfl⟩:∃u:Nat,v5=(u:Int):=⟨v5.toNat,by omega⟩
     have hu:u<c1.length:=by omega
     have ct:=D1 (xs:=c1.map D.int) (v:=u) (by simpa using hu);refine Ou.iffT (j:=99) (by simp[P.f71,gF,q4,D.eq]) ?_;refine Ou.set (x:=(1,.lst ([c1[u]].map .int))) (by simp[P.f71,gF,q5,ct]) ?_;refine Ou.nil ?_;exact fin _ _ (by simp) (Fj hp.2 oc (G5 hu))
    .refine Ou.iffN (j:=99) (by simp[P.f71,gF,q4,D.eq,h]) ?_;exact fin _ _ (by simp) oc
  .rintro a ⟨x3,x4,x5,x6,cs,suf,ha,hr,hl,hok⟩;subst ha;exact Ou.ret (x:=(0,aO cs)) (by simp) ⟨cs,rfl,by omega,hok⟩
 obtain⟨j,d,e,cs,rfl,h1,h2⟩:=Ou.run (n:=n+1) (vs:=[(k,.lst (ns.map .int)),(k',.int p)]) (V:=λd=>∃cs,d=aO cs/\cs.length<=6/\∀c∈cs,OkC p c) P.f99 rfl rfl (key.mono (λ_ h=>h.elim) (λ_ h=>h) λ_ _ _ h=>h);exact⟨j,cs,e,h1,h2⟩
end Ip
end
section
namespace Ip
noncomputable def covA (cs:ab)(g:Nat):ao:=cs.getD g []
noncomputable def aQ (cs:ab)(j:Nat)(gs:am):am:=gs.filter λg=>decide ((j:Int)∈covA cs g)
def gw (cs:ab)(j:Nat)(A B:am):aQ cs j (A++B)=aQ cs j A++aQ cs j B:=by simp[aQ]
def gX (cs:ab)(j g:Nat)(B:am):aQ cs j (g::B)=if (j:Int)∈covA cs g then g::aQ cs j B else aQ cs j B:=by
 unfold aQ;rw[HG];by_cases h:(j:Int)∈covA cs g <;> simp[h]
noncomputable def aK (cs:ab)(p:Nat)(gs:am):af:=(List.range p).map λj=>aQ cs j gs
def j9 (cs:ab)(p:Nat)(gs:am):(aK cs p gs).length=p:=by simp[aK]
structure Cv (p:Nat)(cs:ab):Prop where
 p1:1<=p
 p6:p<=6
 m6:cs.length<=6
 ne:∀g,g<cs.length->covA cs g≠[]
 rg:∀g,∀i∈covA cs g,0<=i/\i<p
 nd:∀g,(covA cs g).Nodup
 ln:∀g,(covA cs g).length<=6
structure Wn (cs:ab)(gs:am):Prop where
 nd:gs.Nodup
 lt:∀g∈gs,g<cs.length
def gE {gs:am}{m:Nat}(h1:gs.Nodup)(h2:∀g∈gs,g<m):gs.length<=m:=by
 induction m generalizing gs with
 | zero=>
  cases gs with
  | nil=>exact bC _
  | cons x r=>exact absurd (h2 x bQ) (by omega)
 | succ m ih=>
  have:=ih (h1.erase m) λx hx=>by
   have:=(h1.mem_erase_iff).mp hx;have:=h2 x this.2;omega
  rw[List.length_erase] at this;split at this <;> omega
def Wn.len {p:Nat}{cs:ab}{gs:am}(C:Cv p cs)(w:Wn cs gs):gs.length<=6:=bH (gE w.nd w.lt) C.m6
def ju {cs:ab}{p:Nat}{gs:am}{g:Nat}(h:g∈(aK cs p gs).flatten):g∈gs:=by
 obtain⟨r,hr,hg⟩:=Hq.mp h;obtain⟨j,_,rfl⟩:=dh hr;exact (GB.mp hg).1
def uG {p:Nat}{cs:ab}{gs:am}{g:Nat}(C:Cv p cs)(w:Wn cs gs)(h:g∈gs):g∈(aK cs p gs).flatten:=by
 cases e:covA cs g with
 | nil=>exact absurd e (C.ne g (w.lt g h))
 | cons i c=>
  have hi:i∈covA cs g:=by rw[e]; exact bQ
  have rg:=C.rg g i hi;refine Hq.mpr ⟨aQ cs i.toNat gs,IQ.mpr ⟨i.toNat,GS.mpr (by omega),rfl⟩,GB.mpr ⟨h,GE ?_⟩⟩;rw[G2 rg.1]; exact hi
def pA {cs:ab}{gs:am}:∀p:Nat,(aK cs p gs).flatten.length<=p * gs.length:=λp=>by
 have:∀l:am,(l.map λj=>aQ cs j gs).flatten.length<=l.length * gs.length:=by
  intro l;induction l with
  | nil=>simp
  | cons x l ih=>
   have h1:(aQ cs x gs).length<=gs.length:=GJ _ _;rw[GA,List.flatten_cons,GG,List.length_cons,Nat.add_mul,Nat.one_mul];omega
 simpa[aK] using this (List.range p)
def Wn.fl {p:Nat}{cs:ab}{gs:am}(C:Cv p cs)(w:Wn cs gs):(aK cs p gs).flatten.length<=36:=
 bH (pA p) (Nat.mul_le_mul C.p6 (w.len C))
def Wn.f6 {p:Nat}{cs:ab}{gs:am}(C:Cv p cs)(w:Wn cs gs):∀g∈(aK cs p gs).flatten,g<6:=λg h=>by
 have:=w.lt g (ju h);have:=C.m6;omega
def Wn.srt {p:Nat}{cs:ab}{gs:am}(C:Cv p cs)(w:Wn cs gs):aV (aK cs p gs).flatten=aV gs:=by
 unfold aV;refine HR λg _=>?_;rw[Ig];simp only[HI];exact⟨ju,uG C w⟩
def Wn.mS {p:Nat}{cs:ab}{gs:am}(C:Cv p cs)(w:Wn cs gs)(g:Nat):g∈aV gs↔g∈gs:=by
 constructor
 .intro h; simpa using (GB.mp h).2
 .intro h;have:=w.lt g h;have:=C.m6;exact (t6 (by omega)).mpr h
def uD {cs:ab}{p g:Nat}{gs gs':am}{f:am->am}(C:Cv p cs)(h1:∀j:Nat,(j:Int)∈covA cs g->f (aQ cs j gs)=aQ cs j gs')(h2:∀j:Nat,(j:Int)∉covA cs g->aQ cs j gs=aQ cs j gs'):fc f (covA cs g) (aK cs p gs)=aK cs p gs':=by
 rw[Eu (C.nd g) λi hi=>by rw[j9]; exact C.rg g i hi];refine Hz λj=>?_;rw[Hi];unfold aK;rw[GD,GD];by_cases hj:j<p
 .rw[List.getElem?_range hj];simp only[Option.map_some];by_cases h:(j:Int)∈covA cs g
  .rw[if_pos h,h1 j h]
  .rw[if_neg h,h2 j h]
 .rw[G0 (by simp; omega)];rfl
def Au {cs:ab}{p g:Nat}{gs:am}(C:Cv p cs):mN (covA cs g) g (aK cs p gs)=aK cs p (gs++[g]):=by
 rw[vv];refine uD C (λj hj=>?_) λj hj=>?_
 .rw[gw,gX,if_pos hj]; rfl
 .rw[gw,gX,if_neg hj]; exact (Hn _).symm
noncomputable def jv (l:am)(g:Nat):am:=(l.drop (l.idxOf g+1)).take 1
noncomputable def no (cs:ab)(gs:am)(g:Nat)(i:Int):am:=jv (aQ cs i.toNat gs) g
noncomputable def lR (cs:ab)(gs:am)(g:Nat):am:=((covA cs g).map (no cs gs g)).flatten
def kA {g:Nat}{A B:am}(h:g∉A):(A++g::B).idxOf g=A.length:=by
 rw[List.idxOf_append,if_neg h,List.idxOf_cons_self,Nat.zero_add]
def u6 {g:Nat}{A B:am}(h:g∉A):jv (A++g::B) g=B.take 1:=by
 unfold jv;rw[kA h];have:A++g::B=(A++[g])++B:=by simp
 rw[this,show A.length+1=(A++[g]).length by simp,List.drop_left]
def DM {cs:ab}{gs:am}{g j:Nat}(w:gs.Nodup)(hg:g∈gs)(ho:lR cs gs g=[])(hj:(j:Int)∈covA cs g):∃r,aQ cs j gs=r++[g]/\g∉r:=by
 have hgf:g∈aQ cs j gs:=GB.mpr ⟨hg,GE hj⟩;obtain⟨A,B,e⟩:=H0 hgf;have nd:(aQ cs j gs).Nodup:=w.filter _;rw[e] at nd;have hA:g∉A:=λz=>(GK.mp nd).2.2 g z g (by simp) rfl;have hn:no cs gs g (j:Int)=[]:=by
  have:=List.flatten_eq_nil_iff.mp ho (no cs gs g (j:Int)) (IQ.mpr ⟨_,hj,rfl⟩);exact this
 unfold no at hn;rw[Int.toNat_natCast,e,u6 hA] at hn;cases B with
 | nil=>exact⟨A,e,hA⟩
 | cons b B=>cases hn
def BZ {cs:ab}{gs:am}{g:Nat}(hc:∀i∈covA cs g,0<=i)(w:gs.Nodup)(h:∀j:Nat,(j:Int)∈covA cs g->∃r,aQ cs j gs=r++[g]):lR cs gs g=[]:=by
 refine List.flatten_eq_nil_iff.mpr λl hl=>?_;obtain⟨i,hi,rfl⟩:=dh hl;have h0:=hc i hi;obtain⟨j,rfl⟩:∃j:Nat,i=(j:Int):=⟨i.toNat,by omega⟩
 obtain⟨r,e⟩:=h j hi;unfold no;rw[Int.toNat_natCast,e];have nd:(aQ cs j gs).Nodup:=w.filter _;rw[e] at nd;exact u6 λz=>(GK.mp nd).2.2 g z g (by simp) rfl
noncomputable def ja (g:Nat)(gs:am):am:=gs.filter λx=>decide (x≠g)
def Dt {cs:ab}{p g:Nat}{gs:am}(C:Cv p cs)(w:gs.Nodup)(hg:g∈gs)(ho:lR cs gs g=[]):fc List.dropLast (covA cs g) (aK cs p gs)=aK cs p (ja g gs):=by
 have sw:∀j,aQ cs j (ja g gs)=(aQ cs j gs).filter λx=>decide (x≠g):=λj=>by unfold aQ ja; rw[IK,IK]; congr 1; funext x; rw[Bool.and_comm]
 refine uD C (λj hj=>?_) λj hj=>?_
 .obtain⟨r,e,hr⟩:=DM w hg ho hj;rw[sw,e,List.dropLast_concat,Hw];have f1:r.filter (λx=>decide (x≠g))=r:=IE.mpr λx hx=>GE λe=>hr (e ▸ hx);rw[f1]; simp
 .rw[sw];refine (IE.mpr λx hx=>?_).symm;have hxc:(j:Int)∈covA cs x:=Hl (GB.mp hx).2;have:x≠g:=λe=>hj (e ▸ hxc);simpa using this
def cut1 {α:Type}(xs:List α)(a:Nat)(h:a<=xs.length):cutD xs (some (a:Int)) (some ((a:Int)+1))=(xs.drop a).take 1:=by
 have s1:dH xs.length 0 (some (a:Int))=a:=by
  simp only[dH]; rw[if_pos (by omega)]; omega
 have s2:dH xs.length xs.length (some ((a:Int)+1))=min (a+1) xs.length:=by
  simp only[dH]; rw[if_pos (by omega)]; omega
 unfold cutD;rw[s1,s2];by_cases e:a=xs.length
 .subst e; simp
 .rw[show min (a+1) xs.length - a=1 by omega]
theorem jE {g:Nat}:∀{os:am},g∈os->D.find (.int g) (aL os)=some (os.idxOf g)
 | [],h=>by cases h
 | x::os,h=>by
  have e0:D.find (.int g) (aL (x::os))=if (D.int (Int.ofNat x)).eq (.int g) then some 0 else (D.find (.int g) (aL os)).map (·+1):=by
   unfold D.find aL;rw[GA,HZ]
  rw[e0];by_cases hx:x=g
  .subst hx;simp[D.eq]
  .have h1:¬(x:Int)=(g:Int):=by omega
   have h2:=jE (os:=os) ((cg h).resolve_left λe=>hx e.symm);have h3:(x == g)=false:=Hu.mpr hx;rw[h2,List.idxOf_cons,h3];simp[D.eq,h1]
def gz {cs:ab}{p j:Nat}{O:am}(h:j<p):aW (wrD (aK cs p O)) (.int (j:Nat))=some (0,aM (aQ cs j O)):=by
 have h':(j:Int)<p:=by omega
 simp[wrD,aW,d6,aK,h',h]
def Cv.at {cs:ab}{g:Nat}(h:g<cs.length):cs[g]? = some (covA cs g):=by simp[covA,h]
end Ip
end
section
namespace Ip
open PySem (Str)
section
variable {G:Pg}{cl:Nat->ax->Run}{io:am}{a:Fr}{ss:az}{N:Fr->Prop}{V:D->Prop}{X:Nat->List aJ->Fr->Prop}
def Ou.setD {i j:Nat}{e:Ex}{x:KD}(h:eval G cl a.sl e=.ok x)(hj:j<=x.1)(k:Ou G cl io ((frz e.names a).set i (some (j,x.2))) ss N V X)(hi:(!io.contains i&&Nat.blt i a.length)=true:=by rfl):Ou G cl io a (.set i e::ss) N V X:=
 .step λA r=>by
  obtain⟨hio,hi⟩:=okI hi;have l:(settle e.names A x).length=a.length:=by
   rw[<-r.len];have:=(r.settle e.names x).len;rw[this,<-(RelF.low e.names a).len,r.len]
  simp only[la,r.sl,h,R.toO,cH,hio,l,hi,and_self,if_true];exact⟨_,(r.settle e.names x).set (x:=some x) (y:=some (j,x.2)) ⟨rfl,hj⟩ i,k⟩
theorem Ou.remove {x k p jj:Nat}{e:Ex}{xs:ay}{n:Int}(hx:a[x]? = some (some (k+1,.lst xs)))(he:eval G cl a.sl e=.ok (jj,.int n))(hs:xs.all D.isI=true)(hf:D.find (.int n) xs=some p)
  (h:Ou G cl io (a.set x (some (1,.lst (xs.eraseIdx p)))) ss N V X):Ou G cl io a (.mut x [] .remove [e]::ss) N V X:=
 .step λA r=>by
  obtain⟨k',hA⟩:=r.own hx;have e1:cm A[x]? = true:=by rw[hA]; rfl
  have e2:([(jj,D.int n)]:ax).all (λv=>v.2.fb v.1)=true:=by simp only[List.all_cons,List.all_nil,Bool.and_true]; exact B3 jj n
  simp only[iG,e1,if_true,de,bP,r.sl,he,R.bind,R.toO,dG,e2,hA,dS,uH,if_pos hs,hf];exact⟨_,r.set (.refl _) x,h⟩
end
def Ou.runV {G:Pg}{n f i:Nat}{F:Fn}{vs:ax}{init:az}{P:D->Prop}(hf:G.fn f=some F)(hn:vs.length=F.np)(hio:F.io=[])(hb:F.body=init++[.ret (.var i)])
  (h:Ou G (Ip.run G n) [] (bG F vs) init (λa=>∃k d,a[i]? = some (some (k+1,d))/\P d) (λ_=>False) λ_ _ _=>False):∃k d,Ip.run G (n+1) f vs=.ret k d []/\1<=k/\P d:=by
 rw[Ip.run,hf];simp only[hn,if_true,hio];rw[hb,nM];have:=h _ (.refl _);revert this
 cases execs G (Ip.run G n) [] (bG F vs) init with
 | nx A=>
  rintro⟨a,r,k,d,h1,h2⟩;obtain⟨k',hA⟩:=r.own h1;refine⟨k'+1,d,?_,by omega,h2⟩;simp[O.seq,hA,ji,lL,fin]
 | ret k d A=>exact False.elim
 | exc c fs A=>exact λ⟨_,_,h⟩=>h.elim
 | _=>exact False.elim
section
variable {G:Pg}{cl:Nat->ax->Run}{io:am}{a:Fr}{ss:az}{N:Fr->Prop}{V:D->Prop}{X:Nat->List aJ->Fr->Prop}
theorem Ou.whl {c:Ex}{b:az}(I:Nat->Fr->Prop)(m:Nat)(hm:m<10000)(h0:I m a)(step:∀n a',I n a'->(∃j,eval G cl a'.sl c=.ok (j,.bl false)/\Ou G cl io a' ss N V X)\/((∃j,eval G cl a'.sl c=.ok (j,.bl true))/\∃n',n=n'+1/\Ou G cl io a' b (I n') V X)):Ou G cl io a (.whl c b::ss) N V X:=
 .step λA r=>by
  rw[vW];have lp:∀(k n:Nat) (a':Fr),n<k->I n a'->∀A,RelF A a'->match cX (iz G cl c) (kv G cl io b) k A with
    | .nx A'=>∃a',RelF A' a'/\Ou G cl io a' ss N V X
    | .ret _ d _=>V d
    | .exc c fs A'=>∃a',RelF A' a'/\X c fs a'
    | _=>False:=by
   intro k;induction k with
   | zero=>intro n a' h; omega
   | succ k ih=>
    intro n a' hn hI A r;rcases step n a' hI with ⟨j,e,o⟩ | ⟨⟨j,e⟩,n',rfl,o⟩
    .have t:iz G cl c A=.ok false:=by unfold iz; rw[r.sl,e]; rfl
     rw[cX,t];exact⟨a',r,o⟩
    .have t:iz G cl c A=.ok true:=by unfold iz; rw[r.sl,e]; rfl
     rw[cX,t];have:=o A r;simp only[kv];revert this
     cases execs G cl io A b with
     | nx A2=>exact λ⟨a2,h1,h2⟩=>ih n' a2 (by omega) h2 A2 h1
     | ret k d A2=>exact id
     | exc c fs A2=>exact id
     | _=>exact False.elim
  exact lp 10000 m a hm h0 A r
end
def Ou.runP {G:Pg}{n f i:Nat}{s:Str}{F:Fn}{vs:ax}{init:az}{P:D->Prop}(hf:G.fn f=some F)(hn:vs.length=F.np)(hio:F.io=[])(hb:F.body=init++[.retP s i])
  (h:Ou G (Ip.run G n) [] (bG F vs) init (λa=>∃k d,a[i]? = some (some (k+1,d))/\P d) (λ_=>False) λ_ _ _=>False):∃k d,Ip.run G (n+1) f vs=.ret k (.tup [.str s,d]) []/\2<=k/\P d:=by
 rw[Ip.run,hf];simp only[hn,if_true,hio];rw[hb,nM];have:=h _ (.refl _);revert this
 cases execs G (Ip.run G n) [] (bG F vs) init with
 | nx A=>
  rintro⟨a,r,k,d,h1,h2⟩;obtain⟨k',hA⟩:=r.own h1;refine⟨k'+1+1,d,?_,by omega,h2⟩;simp[O.seq,hA,ji,xa,fin]
 | ret k d A=>exact False.elim
 | exc c fs A=>exact λ⟨_,_,h⟩=>h.elim
 | _=>exact False.elim
def gN (cs:ab)(Q:am)(g:Nat):Prop:=∀j:Nat,(j:Int)∈covA cs g->(aQ cs j Q).head? = some g
inductive Topo (cs:ab):am->am->Prop
 | nil:Topo cs [] []
 | cons {g:Nat} {Q1 Q2 es:am} (hg:g∉Q1) (hd:∀j:Nat,(j:Int)∈covA cs g->aQ cs j Q1=[]) (least:∀o,o<g->o∈Q1++g::Q2->¬gN cs (Q1++g::Q2) o) (h:Topo cs (Q1++Q2) es):Topo cs (Q1++g::Q2) (g::es)
def FA {P:Nat->Prop}:∀n,P n->∃m,P m/\∀k,k<m->¬P k:=by
 intro n;induction n using Nat.strongRecOn with
 | _ n ih=>
  intro h;by_cases q:∃k,k<n/\P k
  .obtain⟨k,h1,h2⟩:=q;exact ih k h1 h2
  .exact⟨n,h,λk hk hp=>q ⟨k,hk,hp⟩⟩
def By {cs:ab}{j g:Nat}{A B:am}(hg:g∉A)(h:(aQ cs j (A++g::B)).head? = some g):aQ cs j A=[]:=by
 cases e:aQ cs j A with
 | nil=>rfl
 | cons y t=>
  rw[gw,e] at h;have hy:y∈aQ cs j A:=by rw[e]; exact bQ
  have:y=g:=by simpa using h
  subst this;exact absurd (GB.mp hy).1 hg
def yb {cs:ab}{g:Nat}{Q:am}:gN cs (g::Q) g:=λj hj=>by
 rw[gX,if_pos hj]; rfl
theorem vT {cs:ab}:∀(n:Nat) (Q:am),Q.length=n->Q.Nodup->∃es,Topo cs Q es
 | 0,Q,hl,_=>by
  obtain rfl:=Hy.mp hl;exact⟨[],.nil⟩
 | n+1,Q,hl,hn=>by
  have h0:∃g,g∈Q/\gN cs Q g:=by
   cases Q with
   | nil=>cases hl
   | cons g Q=>exact⟨g,bQ,yb⟩
  obtain⟨g0,hg0⟩:=h0;obtain⟨g,⟨hm,hr⟩,hlst⟩:=FA (P:=λg=>g∈Q/\gN cs Q g) g0 hg0;obtain⟨Q1,Q2,e⟩:=H0 hm;subst e;have hg:g∉Q1:=λz=>(GK.mp hn).2.2 g z g (by simp) rfl;have hp:(Q1++g::Q2).Perm (g::(Q1++Q2)):=Iz;obtain⟨es,he⟩:=vT (cs:=cs) n (Q1++Q2) (by simp at hl ⊢; omega) (GP.mp (hp.nodup_iff.mp hn)).2;exact⟨g::es,.cons hg (λj hj=>By hg (hr j hj)) (λo ho hmo hro=>hlst o ho ⟨hmo,hro⟩) he⟩
def Topo.perm {cs:ab}{Q es:am}(h:Topo cs Q es):Q.Perm es:=by
 induction h with
 | nil=>exact .refl _
 | cons hg hd hl h ih=>exact Iz.trans (ih.cons _)
def Topo.rows {cs:ab}{Q es:am}(h:Topo cs Q es)(j:Nat):aQ cs j es=aQ cs j Q:=by
 induction h with
 | nil=>rfl
 | @cons g Q1 Q2 es hg hd hl h ih=>
  rw[gX,gw,gX];by_cases hj:(j:Int)∈covA cs g
  .rw[if_pos hj,if_pos hj,ih,gw,hd j hj]; rfl
  .rw[if_neg hj,if_neg hj,ih,gw]
def Ac {cs:ab}{g j:Nat}{Q1 Q2:am}(hd:(j:Int)∈covA cs g->aQ cs j Q1=[]):aQ cs j (Q1++g::Q2)=if (j:Int)∈covA cs g then g::aQ cs j (Q1++Q2) else aQ cs j (Q1++Q2):=by
 rw[gw,gX,gw];by_cases hj:(j:Int)∈covA cs g
 .rw[if_pos hj,if_pos hj,hd hj]; rfl
 .rw[if_neg hj,if_neg hj]
structure Pm (G:Pg):Prop where
 v:Pv G
 d:Pd G
 f34:G.fn 34=some n8
 f35:G.fn 35=some o0
 f36:G.fn 36=some nS
 f37:G.fn 37=some l8
 f39:G.fn 39=some mw
 f45:G.fn 45=some lj
 f46:G.fn 46=some lP
 f47:G.fn 47=some jq
 f48:G.fn 48=some mV
 f73:G.fn 73=some kM
 f115:G.fn 115=some o5
 f116:G.fn 116=some nU
 f117:G.fn 117=some oE
 f118:G.fn 118=some mh
 f123:G.fn 123=some lQ
 f124:G.fn 124=some ls
 f125:G.fn 125=some nJ
 f126:G.fn 126=some lA
 f113:G.fn 113=some kJ
 f127:G.fn 127=some nV
 f128:G.fn 128=some lv
 f129:G.fn 129=some oI
 f69:G.fn 69=some ou
def jG (gs:am):(aL gs).all (D.pur 60)=true:=by simp[aL]
def y3 (gs:am):(aL gs).all D.isI=true:=by simp[aL,D.isI]
def s0 (A B:am):aL (A++B)=aL A++aL B:=by simp[aL]
def yh (A B:am)(g:Nat):(aL (A++g::B)).eraseIdx A.length=aL (A++B):=by
 have e:aL (A++g::B)=aL A++(.int (g:Nat)::aL B):=by simp[aL]
 rw[e,<-fw A,List.eraseIdx_append_of_length_le (Js _),Nat.sub_self,List.eraseIdx_cons_zero,s0]
def Bd {A B:am}{a:Nat}:aW (.lst (aL (A++a::B))) (.int (A.length:Nat))=some (0,.int (a:Nat)):=by
 have h1:A.length<(aL (A++a::B)).length:=by rw[fw]; simp
 have h2:((A.length:Nat):Int)<((aL (A++a::B)).length:Nat):=by omega
 have e:(aL (A++a::B))[A.length]? = some (.int (a:Nat)):=by simp[aL]
 simp only[aW,D.seq,d6,II,if_true,h2,Int.toNat_natCast,Option.bind_some,e]
def E3 (A B:am):(aL (A++B)).take A.length=aL A:=by
 rw[s0,List.take_append_of_le_length (by rw[fw]; omega),HC (by rw[fw]; omega)]
variable {G:Pg}(P:Pm G)
include P
def vC (n k:Nat)(x:Int):run G (n+1) 73 [(k,.int x)]=.ret 99 (.bl true) []:=by
 rw[run,P.f73];simp[kM]
end Ip
end
section
namespace Ip
open PySem (Str)
theorem nv (i:Int):∀c:ao,D.memb (.int i) (c.map .int)=decide (i∈c)
 | []=>rfl
 | j::c=>by
  have ih:=nv i c;have e:D.memb (.int i) ((j::c).map .int)=((D.int j).eq (.int i)||D.memb (.int i) (c.map .int)):=rfl;rw[e,ih];simp only[D.eq];by_cases h:i=j
  .subst h; simp
  .have:¬j=i:=λe=>h e.symm;simp[this,h]
def k8 {cs:ab}{g:Nat}(h:g<cs.length):aW (aO cs) (.int (g:Nat))=some (0,.lst ((covA cs g).map .int)):=by
 have h':(g:Int)<cs.length:=by omega
 have e:covA cs g=cs[g]:=by simp[covA,h]
 rw[e];simp[aO,aW,d6,h',h]
def Cr {A B:am}{a:Nat}:aW (aM (A++a::B)) (.int (A.length:Nat))=some (0,.int (a:Nat)):=by
 have h1:A.length<(aL (A++a::B)).length:=by rw[fw]; simp
 have h2:((A.length:Nat):Int)<((aL (A++a::B)).length:Nat):=by omega
 have e:(aL (A++a::B))[A.length]? = some (.int (a:Nat)):=by simp[aL]
 simp only[aM,aW,D.seq,d6,II,if_true,h2,Int.toNat_natCast,Option.bind_some,e]
variable {G:Pg}(P:Pm G)
include P
def Ar (n k k1 k2 k3:Nat)(p:Nat)(cs:ab)(O res Q L:am)(g:Nat)(hp:p<=6)(hm:cs.length<=6)(ok:∀c∈cs,OkC p c)(hg:g<cs.length)(hO:O.Nodup)(hQ:g∈Q)(hL:∀x,x∈L↔x∈Q)(hd:∀x∈res,x∉Q)(hr:∀j,aQ cs j O=aQ cs j res++aQ cs j Q) :
  ∃j us,run G (n+6) 37 [(k,wd p cs),(k1,wrD (aK cs p O)),(k2,.int (g:Nat)),(k3,.lst (aL L))]=.ret j (.lst us) []/\(us=[]↔gN cs Q g)/\us.length<=6:=by
 have hc:cs[g]? = some (covA cs g):=by simp[covA,hg]
 have okc:=ok _ (GH hc);have q3:=oO P.v.a n 0 0 p cs g _ hc;have h100:100<=SL:=by decide
 have hS:(covA cs g).length<=SL:=by have:=okc.ln; omega
 generalize hC:covA cs g=c at hc okc q3 hS;have key:Ou G (run G (n+5)) [] [some (0,wd p cs),some (0,wrD (aK cs p O)),some (0,.int (g:Nat)),some (0,.lst (aL L)),none,none,none] l8.body (λ_=>False) (λd=>∃us,d=.lst us/\(us=[]↔gN cs Q g)/\us.length<=6) λ_ _ _=>False:=by
  refine Ou.setK (x:=(99,.lst [])) (by simp) (by simp) ?_;refine Ou.low (a':=[some (0,wd p cs),some (0,wrD (aK cs p O)),some (0,.int (g:Nat)),some (0,.lst (aL L)),some (99,.lst []),none,none]) (.of_eq (by simp)) ?_;refine Ou.low (a':=[some (0,wd p cs),some (0,wrD (aK cs p O)),some (0,.int (g:Nat)),some (0,.lst (aL L)),some (1,.lst []),none,none]) (.cons (.refl _) (.cons (.refl _) (.cons (.refl _) (.cons (.refl _) (.cons ⟨rfl,by decide⟩ (.refl _)))))) ?_;refine Ou.fo (λr a=>∃(x5 x6:aA) (us:ay) (pre suf:ao),a=[some (0,wd p cs),some (0,wrD (aK cs p O)),some (0,.int (g:Nat)),some (0,.lst (aL L)),some (1,.lst us),x5,x6]/\r=suf.map .int/\pre++suf=c/\(us=[]↔∀i∈pre,(aQ cs i.toNat Q).head? = some g)/\us.length<=pre.length) (vs:=[(1,.lst (c.map .int))]) (xs:=c.map .int) (by simp[oP P.v.a,ie,q3]) (by simp) (by simpa using hS) ⟨none,none,[],[],c,by simp,rfl,rfl,by simp,by simp⟩ ?_ ?_
  .rintro x r a ⟨x5,x6,us,pre,suf,ha,hrr,he,hu,hul⟩;cases suf with
   | nil=>simp at hrr
   | cons s suf=>
    simp only[GA,He] at hrr;obtain⟨rfl,rfl⟩:=hrr;subst ha;have hsc:s∈c:=by rw[<-he]; simp
    have rg:=okc.rg s hsc;obtain⟨j,rfl⟩:∃j:Nat,s=(j:Int):=⟨s.toNat,by omega⟩
    have hjp:j<p:=by omega
    have ixr:=gz (cs:=cs) (O:=O) hjp;have hjc:(j:Int)∈covA cs g:=by rw[hC]; exact hsc
    have hgf:g∈aQ cs j Q:=GB.mpr ⟨hQ,GE hjc⟩;obtain⟨B1,B2,eB⟩:=H0 hgf;have hnod:(aQ cs j O).Nodup:=hO.filter _;have hrj:=hr j;rw[eB] at hrj;have hrow:aQ cs j O=(aQ cs j res++B1)++g::B2:=by rw[hrj]; simp
    have hgn:g∉aQ cs j res++B1:=λz=>by
     rw[hrow] at hnod;exact (GK.mp hnod).2.2 g z g (by simp) rfl
    rw[hrow] at ixr;obtain⟨dd,hdd⟩:∃dd,(aQ cs j res++B1).length=dd:=⟨_,rfl⟩
    have ixe:b8 (aM ((aQ cs j res++B1)++g::B2)) (.int (g:Nat))=some (99,.int (dd:Nat)):=by
     have sc:=j8 ((aQ cs j res++B1)++g::B2);rw[aM,ki,jE (by simp),kA hgn,sc,hdd];rfl
    have hul6:us.length<100:=by
     have:=okc.ln;have:=congrArg List.length he;simp at this;omega
    refine⟨_,dW rfl,?_⟩;generalize hW:wrD (aK cs p O)=WW at ixr;refine Ou.set (x:=(99,.int (dd:Nat))) ?_ ?_
    .generalize aM ((aQ cs j res++B1)++g::B2)=RR at ixr ixe;simp[-aW,-ki,ixr,ixe]
    refine Ou.low (a':=[some (0,wd p cs),some (0,WW),some (0,.int (g:Nat)),some (0,.lst (aL L)),some (1,.lst us),some (0,.int (j:Nat)),some (0,.int (dd:Nat))]) (.of_eq (by simp)) ?_;have scL:=jG L;have done:∀(us':ay) (y5 y6:aA),(us'=[]↔us=[]/\(aQ cs j Q).head? = some g)->us'.length<=us.length+1->∃(x5 x6:aA) (us:ay) (pre' suf':ao),[some (0,wd p cs),some (0,WW),some (0,.int (g:Nat)),some (0,.lst (aL L)),some (1,.lst us'),y5,y6]=[some (0,wd p cs),some (0,WW),some (0,.int (g:Nat)),some (0,.lst (aL L)),some (1,.lst us),x5,x6]/\suf.map D.int=suf'.map .int/\pre'++suf'=c/\(us=[]↔∀i∈pre',(aQ cs i.toNat Q).head? = some g)/\us.length<=pre'.length:=by
     intro us' y5 y6 h1 h2;refine⟨y5,y6,us',pre++[(j:Int)],suf,rfl,rfl,by simpa using he,?_,by simp; omega⟩;rw[h1,hu];constructor
     .rintro⟨a1,a2⟩ i hi;rcases dm hi with hi | hi
      .exact a1 i hi
      .rw[Gz.mp hi]; simpa using a2
     .intro h;exact⟨λi hi=>h i (eI _ hi),by simpa using h (j:Int) (by simp)⟩
    by_cases hE:aQ cs j res++B1=[]
    .have hB:B1=[]:=(List.append_eq_nil_iff.mp hE).2;have hd0:dd=0:=by rw[<-hdd,hE]; rfl
     subst hd0;refine Ou.iffN (j:=99) (by simp) (Ou.nil ?_);exact done us _ _ ⟨λh=>⟨h,by rw[eB,hB]; rfl⟩,λh=>h.1⟩ (by omega)
    .obtain⟨A0,y,eA⟩:∃A0 y,aQ cs j res++B1=A0++[y]:=⟨_,_,(Ie hE).symm⟩
     have ixy:aW (aM ((aQ cs j res++B1)++g::B2)) (.int ((dd:Int) - 1))=some (0,.int (y:Nat)):=by
      have:=Cr (A:=A0) (B:=g::B2) (a:=y);have e1:A0++y::g::B2=(aQ cs j res++B1)++g::B2:=by rw[eA]; simp
      have e2:((A0.length:Nat):Int)=(dd:Int) - 1:=by rw[<-hdd,eA]; simp
      rw[e1,e2] at this;exact this
     have hpos:(0:Int)<(dd:Nat):=by rw[<-hdd,eA]; simp
     have mbL:=iS y L;have hyL:y∈L↔¬(aQ cs j Q).head? = some g:=by
      rw[hL];cases B1 with
      | nil=>
       have hyr:y∈aQ cs j res:=by
        have:y∈aQ cs j res++[]:=by rw[eA]; simp
        simpa using this
       rw[eB];simp only[List.nil_append,List.head?_cons,not_true,iff_false];exact hd y (GB.mp hyr).1
      | cons z B1=>
       have hzg:z≠g:=λe=>hgn (by rw[e]; simp);have hyB:y∈z::B1:=by
        have e1:aQ cs j res++z::B1=A0++[y]:=eA;have:=congrArg List.getLast? e1;rw[List.getLast?_append,List.getLast?_concat] at this;cases hl:(z::B1).getLast? with
        | none=>simp at hl
        | some w=>
         rw[hl] at this;have:w=y:=by simpa using this
         rw[<-this];exact List.mem_of_getLast? hl
       rw[eB];simp only[List.cons_append,List.head?_cons,HS];refine⟨λ_ e=>hzg e,λ_=>?_⟩;have:y∈aQ cs j Q:=by rw[eB]; exact eI _ hyB
       exact (GB.mp this).1
     generalize aM ((aQ cs j res++B1)++g::B2)=RR at ixr ixy;by_cases hy:y∈L
     .refine Ou.iffT (j:=99) ?_ ?_
      .simp[-aW,-List.all_eq_true,ixr,ixy,hpos,scL,mbL,hy];omega
      refine Ou.append (k:=0) (xs:=us) (v:=(bf [(0,.int (y:Nat)),(0,.int (j:Nat))]+1,.tup [.int (y:Nat),.int (j:Nat)])) (by simp[frz,frz1]) (by simp[-aW,ixr,ixy]) (by omega) (Ou.nil (Ou.nil ?_));have:=done (us++[.tup [.int (y:Nat),.int (j:Nat)]]) (some (0,.int (j:Nat))) (some (0,.int (dd:Nat))) ⟨λh=>by simp at h,λh=>absurd h.2 (hyL.mp hy)⟩ (by simp);simpa[frz,frz1] using this
     .refine Ou.iffN (j:=99) ?_ (Ou.nil ?_)
      .simp[-aW,-List.all_eq_true,ixr,ixy,hpos,scL,mbL,hy]
      exact done us _ _ ⟨λh=>⟨h,Classical.byContradiction λz=>hy (hyL.mpr z)⟩,λh=>h.1⟩ (by omega)
  .rintro a ⟨x5,x6,us,pre,suf,ha,hrr,he,hu,hul⟩;have:suf=[]:=by simpa using hrr.symm
   subst this ha;rw[Hn] at he;subst he;refine Ou.ret (x:=(0,.lst us)) (by simp) ⟨us,rfl,?_,by have:=okc.ln; omega⟩;rw[hu];constructor
   .intro h j hj;rw[hC] at hj;simpa using h j hj
   .intro h i hi;have:=okc.rg i hi;obtain⟨j,rfl⟩:∃j:Nat,i=(j:Int):=⟨i.toNat,by omega⟩
    exact h j (by rw[hC]; exact hi)
 obtain⟨j,d,e,us,rfl,h1,h2⟩:=Ou.run (n:=n+5) (vs:=[(k,wd p cs),(k1,wrD (aK cs p O)),(k2,.int (g:Nat)),(k3,.lst (aL L))]) (V:=λd=>∃us,d=.lst us/\(us=[]↔gN cs Q g)/\us.length<=6) P.f37 rfl rfl (key.mono (λ_ h=>h.elim) (λ_ h=>h) λ_ _ _ h=>h);exact⟨j,us,e,h1,h2⟩
end Ip
end
section
namespace Ip
open PySem (Str)
def y9 {xs:ay}{x:D}(h:x∈xs.mapIdx λn d=>D.tup [.int n,d]):∃(A B:ay) (d:D),xs=A++d::B/\x=.tup [.int (A.length:Nat),d]:=by
 rw[List.mem_mapIdx] at h;obtain⟨i,hi,e⟩:=h;refine⟨xs.take i,xs.drop (i+1),xs[i],?_,?_⟩
 .rw[<-GW,Hv]
 .rw[<-e];have:(xs.take i).length=i:=by simp; omega
  rw[this]
def EG {A B:ay}{d:D}:∀{gs:am},aL gs=A++d::B->∃(A' B':am) (g:Nat),gs=A'++g::B'/\A=aL A'/\d=.int (g:Nat)/\A'.length=A.length:=by
 induction A with
 | nil=>
  intro gs h;cases gs with
  | nil=>simp[aL] at h
  | cons g gs=>
   simp only[aL,GA,List.nil_append,He] at h;exact⟨[],gs,g,rfl,rfl,h.1.symm,rfl⟩
 | cons a A ih=>
  intro gs h;cases gs with
  | nil=>simp[aL] at h
  | cons g gs=>
   simp only[aL,GA,List.cons_append,He] at h;obtain⟨A',B',g',e1,e2,e3,e4⟩:=ih h.2;exact⟨g::A',B',g',by rw[e1]; rfl,by rw[<-h.1,e2]; rfl,e3,by simp[e4]⟩
theorem uc (k:Nat)(xs:ay):c7 .enum [(k,.tup xs)]=some (xs.mapIdx λn d=>.tup [.int n,d]):=rfl
variable {G:Pg}(P:Pm G)
include P
def DH (n k k1 k2:Nat)(p j g:Nat)(cs:ab)(hg:g<cs.length):∃i,run G (n+6) 34 [(k,wd p cs),(k1,.int (j:Nat)),(k2,.int (g:Nat))]=.ret i (.bl (decide ((j:Int)∈covA cs g))) []:=by
 have hc:cs[g]? = some (covA cs g):=by simp[covA,hg]
 have q3:=oO P.v.a n 0 0 p cs g _ hc;have q2:=wt P.v.a (n+4) 0 p cs;have qb:=qC P.v.a (n+3) 0 99 (.int (g:Nat)) cs.length;have hb:isB cs.length (.int (g:Nat))=true:=by simp[isB,hg]
 rw[hb] at qb;have mb:=nv j (covA cs g);have sc:((covA cs g).map D.int).all (D.pur 60)=true:=by simp
 refine⟨99,?_⟩;rw[run,P.f34];generalize (covA cs g).map D.int=CC at q3 mb sc;simp[-List.all_eq_true,n8,P.v.a.f1,jt,vP P.v.a,oP P.v.a,ku,ie,q2,qb,q3,mb,sc]
def AS (n k k1:Nat)(p:Nat)(cs:ab)(O:am)(hp:p<=6)(hO:O.Nodup)(hl:O.length<=6)(hg:∀g∈O,g<cs.length):∃j,run G (n+7) 35 [(k,wd p cs),(k1,wrD (aK cs p O))]=.ret j .non []:=by
 have h6:6<=SL:=by decide
 have ew:wrD (aK cs p O)=.tup ((aK cs p O).map aM):=rfl;have key:Ou G (run G (n+6)) [] [some (0,wd p cs),some (0,wrD (aK cs p O)),none,none,none,none] o0.body (λ_=>D.non=.non) (λd=>d=.non) λ_ _ _=>False:=by
  refine Ou.fo (λr a=>∃(x2 x3 x4 x5:aA),a=[some (0,wd p cs),some (0,wrD (aK cs p O)),x2,x3,x4,x5]/\∀x∈r,∃j:Nat,j<p/\x=.tup [.int (j:Nat),aM (aQ cs j O)]) (vs:=[(0,wrD (aK cs p O))]) (by simp) (by rw[ew]; exact uc _ _) (by simp[aK]; omega) ⟨none,none,none,none,by simp,?_⟩ ?_ ?_
  .intro x hx;rw[List.mem_mapIdx] at hx;obtain⟨i,hi,e⟩:=hx;have hip:i<p:=by simpa[aK] using hi
   exact⟨i,hip,by rw[<-e]; simp[aK]⟩
  .rintro x r a ⟨x2,x3,x4,x5,ha,hr⟩;obtain⟨j,hj,rfl⟩:=hr x bQ;subst ha;refine⟨_,lY rfl,?_⟩;refine Ou.low (a':=[some (0,wd p cs),some (0,wrD (aK cs p O)),some (0,.int (j:Nat)),some (0,aM (aQ cs j O)),x4,x5]) (.of_eq (by simp[bD])) ?_;have hfl:(aQ cs j O).length<=6:=bH (GJ _ _) hl;have hfn:(aQ cs j O).Nodup:=hO.filter _;refine Ou.fo (λr a=>∃(x4 x5:aA),a=[some (0,wd p cs),some (0,wrD (aK cs p O)),some (0,.int (j:Nat)),some (0,aM (aQ cs j O)),x4,x5]/\∀x∈r,∃A y B,aQ cs j O=A++y::B/\x=.tup [.int (A.length:Nat),.int (y:Nat)]) (vs:=[(0,aM (aQ cs j O))]) (by simp) (uc _ _) (by simp[aL]; omega) ⟨x4,x5,by simp,?_⟩ ?_ ?_
   .intro x hx;obtain⟨A,B,d,e1,rfl⟩:=y9 hx;obtain⟨A',B',g,e2,e3,rfl,e5⟩:=EG e1;exact⟨A',g,B',e2,by rw[e5]⟩
   .rintro x r' a ⟨x4,x5,ha,hr'⟩;obtain⟨A,y,B,eA,rfl⟩:=hr' x bQ;subst ha;have hyf:y∈aQ cs j O:=by rw[eA]; simp
    have hyO:=(GB.mp hyf)
    obtain⟨i,qm⟩:=DH P n 0 0 0 p j y cs (hg y hyO.1);rw[hyO.2] at qm;have hyA:y∉A:=λz=>by
     rw[eA] at hfn;exact (GK.mp hfn).2.2 y z y (by simp) rfl
    have ct:aY none (some (A.length:Int)) (aM (aQ cs j O))=some (0,.tup (aL A)):=by
     rw[eA,aM];simp only[aY];rw[k7,E3]
    have mb:D.memb (.int (y:Nat)) (aL A)=false:=by rw[iS]; simp[hyA]
    have sc:=jG A;refine⟨_,lY rfl,?_⟩;refine Ou.low (a':=[some (0,wd p cs),some (0,wrD (aK cs p O)),some (0,.int (j:Nat)),some (0,aM (aQ cs j O)),some (0,.int (A.length:Nat)),some (0,.int (y:Nat))]) (.of_eq (by simp[bD])) ?_;refine Ou.iffN (j:=99) ?_ ?_
    .generalize aM (aQ cs j O)=RR at ct;simp[-aY,-List.all_eq_true,P.f34,n8,qm,ct,mb,sc]
    exact Ou.nil ⟨some (0,.int (A.length:Nat)),some (0,.int (y:Nat)),rfl,λx h=>hr' x (bN _ h)⟩
   .rintro a ⟨x4,x5,ha,_⟩;subst ha;exact Ou.nil ⟨some (0,.int (j:Nat)),some (0,aM (aQ cs j O)),x4,x5,rfl,λx h=>hr x (bN _ h)⟩
  .intro a _;exact Ou.nil rfl
 obtain⟨j,d,e,rfl⟩:=Ou.run (n:=n+6) (vs:=[(k,wd p cs),(k1,wrD (aK cs p O))]) (V:=λd=>d=.non) P.f35 rfl rfl key;exact⟨j,e⟩
def BO (n k k1:Nat)(p:Nat)(cs:ab)(O:am)(hp:p<=6)(hm:cs.length<=6)(ok:∀c∈cs,OkC p c)(hl:O.length<=6)(hg:∀g∈O,g<cs.length):∃j,run G (n+6) 36 [(k,wd p cs),(k1,wrD (aK cs p O))]=.ret j .non []:=by
 have h100:100<=SL:=by decide
 have hfl:=pA (cs:=cs) (gs:=O) p;have hfl2:p * O.length<=6 * 6:=Nat.mul_le_mul hp hl;obtain⟨jw,qw⟩:=uo P.v (n+4) 0 (aK cs p O) (by simp[aK]; omega) (by omega) (λx hx=>by have:=hg x (ju hx); omega);have hmem:∀g∈aV (aK cs p O).flatten,g∈O:=λg h=>by
  have h2:=(GB.mp h)
  exact ju (by simpa using h2.2)
 have sl:(aV (aK cs p O).flatten).length<=6:=by
  have:=GJ (λk=>(aK cs p O).flatten.contains k) (List.range 6);simpa[aV] using this
 generalize aV (aK cs p O).flatten=Lw at qw hmem sl;have key:Ou G (run G (n+5)) [] [some (0,wd p cs),some (0,wrD (aK cs p O)),none,none] nS.body (λ_=>D.non=.non) (λd=>d=.non) λ_ _ _=>False:=by
  refine Ou.fo (λr a=>∃(x2 x3:aA) (suf:am),a=[some (0,wd p cs),some (0,wrD (aK cs p O)),x2,x3]/\r=aL suf/\∀g∈suf,g∈O) (vs:=[(jw,.lst (aL Lw))]) (xs:=aL Lw) (by simp[P.v.f24,iX,qw]) (by simp) (by rw[fw]; omega) ⟨none,none,Lw,by simp,rfl,hmem⟩ ?_ ?_
  .rintro x r a ⟨x2,x3,suf,ha,hr,hs⟩;cases suf with
   | nil=>simp[aL] at hr
   | cons g suf=>
    simp only[aL,GA,He] at hr;obtain⟨rfl,rfl⟩:=hr;subst ha;have hgO:=hs g bQ;have hgl:=hg g hgO;have hc:cs[g]? = some (covA cs g):=by simp[covA,hgl]
    have okc:=ok _ (GH hc);have q3:=oO P.v.a n 0 0 p cs g _ hc;refine⟨_,dW rfl,?_⟩;refine Ou.low (a':=[some (0,wd p cs),some (0,wrD (aK cs p O)),some (0,.int (g:Nat)),x3]) (.of_eq (by simp)) ?_;refine Ou.fo (λr a=>∃(x3:aA) (sf:ao),a=[some (0,wd p cs),some (0,wrD (aK cs p O)),some (0,.int (g:Nat)),x3]/\r=sf.map .int/\∀i∈sf,i∈covA cs g) (vs:=[(1,.lst ((covA cs g).map .int))]) (xs:=(covA cs g).map .int) (by simp[oP P.v.a,ie,q3]) (by simp) (by have:=okc.ln; simp; omega) ⟨x3,covA cs g,by simp,rfl,λi h=>h⟩ ?_ ?_
    .rintro x r' a ⟨x3,sf,ha,hr',hsf⟩;cases sf with
     | nil=>simp at hr'
     | cons s sf=>
      simp only[GA,He] at hr';obtain⟨rfl,rfl⟩:=hr';subst ha;have hsc:=hsf s bQ;have rg:=okc.rg s hsc;obtain⟨j,rfl⟩:∃j:Nat,s=(j:Int):=⟨s.toNat,by omega⟩
      have ixr:=gz (cs:=cs) (O:=O) (show j<p by omega);have hgf:g∈aQ cs j O:=GB.mpr ⟨hgO,GE hsc⟩;have mb:=iS g (aQ cs j O);have sc:=jG (aQ cs j O);refine⟨_,dW rfl,?_⟩;refine Ou.iffN (j:=99) ?_ ?_
      .generalize wrD (aK cs p O)=WW at ixr;simp only[aM] at ixr;simp[-aW,-List.all_eq_true,ixr,mb,sc,hgf]
      exact Ou.nil ⟨some (0,.int (j:Nat)),sf,by simp,rfl,λi h=>hsf i (bN _ h)⟩
    .rintro a ⟨x3,sf,ha,_,_⟩;subst ha;exact Ou.nil ⟨some (0,.int (g:Nat)),x3,suf,rfl,rfl,λx h=>hs x (bN _ h)⟩
  .intro a _;exact Ou.nil rfl
 obtain⟨j,d,e,rfl⟩:=Ou.run (n:=n+5) (vs:=[(k,wd p cs),(k1,wrD (aK cs p O))]) (V:=λd=>d=.non) P.f36 rfl rfl key;exact⟨j,e⟩
end Ip
end
section
namespace Ip
open PySem (Str)
theorem xh {P:Nat->Bool}{g:Nat}:∀{L:am},L.Pairwise (· < ·)->g∈L->P g=true->(∀o∈L,o<g->P o=false)->∃t,L.filter P=g::t
 | [],_,h,_,_=>by cases h
 | x::L,hp,hm,hg,hl=>by
  obtain⟨h1,h2⟩:=JE.mp hp;rcases cg hm with rfl | hm
  .exact⟨L.filter P,by rw[HG,hg]; rfl⟩
  .have hx:=hl x bQ (h1 g hm);obtain⟨t,e⟩:=xh h2 hm hg λo ho=>hl o (bN _ ho);exact⟨t,by rw[HG,hx]; exact e⟩
def og (Q:am):(aV Q).Pairwise (· < ·):=List.pairwise_lt_range.filter _
def Bg {g:Nat}{Q1 Q2:am}(h1:g∉Q1++Q2):aV (Q1++Q2)=(aV (Q1++g::Q2)).filter λx=>decide (x≠g):=by
 unfold aV;rw[IK];refine HR λk _=>?_;by_cases hk:k=g
 .subst hk;have h2:k∉Q1/\k∉Q2:=by simpa using h1
  simp[h2.1,h2.2]
 .have:(k == g)=false:=Hu.mpr hk;simp[hk]
def yV {g:Nat}{L:am}(hp:L.Pairwise (· < ·))(hg:g∈L):∃A B,L=A++g::B/\g∉A/\(L.filter λx=>decide (x≠g))=A++B:=by
 obtain⟨A,B,rfl⟩:=H0 hg;have nd:(A++g::B).Nodup:=hp.imp λh=>by omega
 have hA:g∉A:=λz=>(GK.mp nd).2.2 g z g (by simp) rfl;have hB:g∉B:=(GP.mp (GK.mp nd).2.1).1;refine⟨A,B,rfl,hA,?_⟩;have f1:A.filter (λx=>decide (x≠g))=A:=IE.mpr λx hx=>GE λe=>hA (e ▸ hx);have f2:B.filter (λx=>decide (x≠g))=B:=IE.mpr λx hx=>GE λe=>hB (e ▸ hx);rw[Hw,HG,f1,f2];simp
variable {G:Pg}(P:Pm G)
include P
def CW (n k:Nat)(rows:af)(h1:rows.length<=6)(h2:rows.flatten.length<=1000)(h3:∀g∈rows.flatten,g<6):∃j,run G (n+1) 24 [(k,wrD rows)]=.ret j (.lst (aL (aV rows.flatten))) []/\1<=j:=by
 have hs:rows.length<=SL:=bH h1 (by decide);obtain⟨x,e,rfl⟩:=Ou.runE (G:=G) (n:=n) (f:=24) (F:=iX) (vs:=[(k,wrD rows)]) (init:=iX.body.dropLast) (e:=.op .srtSet [(.var 1)]) (P:=λx=>x=(1,.lst (aL (aV rows.flatten)))) P.v.f24 rfl rfl rfl (λ_ h=>nomatch h) (by
  show Ou G (run G n) [] [some (0,wrD rows),none,none] _ _ _ _;refine Ou.setK (x:=(99,.lst [])) (by simp) (by simp) ?_;refine Ou.low (a':=[some (0,wrD rows),some (1,.lst []),none]) (.cons (.refl _) (.cons ⟨rfl,by decide⟩ (.cons trivial .nil))) ?_;refine Ou.fo (λr a=>∃(x:aA) (fl:am) (suf:af),a=[some (0,wrD rows),some (1,.lst (aL fl)),x]/\r=suf.map aM/\fl++suf.flatten=rows.flatten) (vs:=[(0,wrD rows)]) (xs:=rows.map aM) (by simp) (by simp[wrD]) (by simpa using hs) ?_ ?_ ?_
  .exact⟨none,[],rows,by simp[aL],rfl,rfl⟩
  .rintro x r a ⟨y,fl,suf,ha,hr,he⟩;cases suf with
   | nil=>simp at hr
   | cons s suf=>
    simp only[GA,He] at hr;obtain⟨rfl,rfl⟩:=hr;subst ha;refine⟨_,dW rfl,?_⟩;refine Ou.extend (k:=0) (j:=0) (xs:=aL fl) (ys:=aL s) (by simp) (by simp[aM]) (j8 s) ?_ ?_
    .have e2:rows.flatten.length=fl.length+(s.length+suf.flatten.length):=by rw[<-he]; simp
     have:1000<=SL:=by decide
     simp only[aL,Gx];omega
    .exact Ou.nil ⟨some (0,aM s),fl++s,suf,by simp[aL],rfl,by simpa using he⟩
  .rintro a ⟨y,fl,suf,ha,hr,he⟩;have:suf=[]:=by simpa using hr.symm
   subst this ha;simp only[List.flatten_nil,Hn] at he;rw[<-he] at h3 ⊢;exact Ou.nil ⟨(1,.lst (aL (aV fl))),by simp[pz h3],rfl⟩)
 exact⟨1,e,bC _⟩
open Classical in
set_option maxHeartbeats 1000000 in
def Dc (n k k1:Nat)(p:Nat)(cs:ab)(O es:am)(hp:p<=6)(hm:cs.length<=6)(ok:∀c∈cs,OkC p c)(hO:O.Nodup)(hg:∀g∈O,g<cs.length)(hT:Topo cs O es):∃j,run G (n+8) 39 [(k,wd p cs),(k1,wrD (aK cs p O))]=.ret j (.tup [.str "order",.lst (aL es)]) []/\2<=j:=by
 have h100:100<=SL:=by decide
 have hl:O.length<=6:=bH (gE hO hg) hm;have hfl:=pA (cs:=cs) (gs:=O) p;have hfl2:p * O.length<=6 * 6:=Nat.mul_le_mul hp hl;obtain⟨j1,q1⟩:=AS P n 0 0 p cs O hp hO hl hg;obtain⟨j2,q2⟩:=BO P (n+1) 0 0 p cs O hp hm ok hl hg;obtain⟨j3,q3,h3⟩:=CW P (n+6) 0 (aK cs p O) (by simp[aK]; omega) (by omega) (λx hx=>by have:=hg x (ju hx); omega);have eS:aV (aK cs p O).flatten=aV O:=by
  unfold aV;refine HR λg _=>?_;rw[Ig];simp only[HI];refine⟨λh=>ju h,λh=>?_⟩;have hgl:=hg g h;have hc:cs[g]? = some (covA cs g):=by simp[covA,hgl]
  have okc:=ok _ (GH hc);cases ec:covA cs g with
  | nil=>exact absurd ec okc.ne
  | cons i c=>
   have hi:i∈covA cs g:=by rw[ec]; exact bQ
   have rg:=okc.rg i hi;refine Hq.mpr ⟨aQ cs i.toNat O,IQ.mpr ⟨i.toNat,GS.mpr (by omega),rfl⟩,GB.mpr ⟨h,GE ?_⟩⟩;rw[G2 rg.1]; exact hi
 rw[eS] at q3;have hlt:∀{Q:am},(∀x∈Q,x∈O)->∀x∈Q,x<6:=λh x hx=>by have:=hg x (h x hx); omega
 have mS:∀{Q:am},(∀x∈Q,x∈O)->∀x,x∈aV Q↔x∈Q:=λh x=>by
  constructor
  .intro hx; simpa using (GB.mp hx).2
  .intro hx; exact (t6 (hlt h x hx)).mpr hx
 obtain⟨j,d,e,hj,rfl⟩:=Ou.runP (G:=G) (n:=n+7) (f:=39) (i:=2) (s := "order") (F:=mw) (vs:=[(k,wd p cs),(k1,wrD (aK cs p O))]) (init:=mw.body.dropLast) (P:=λd=>d=.lst (aL es)) P.f39 rfl rfl rfl (by
  show Ou G (run G (n+7)) [] [some (0,wd p cs),some (0,wrD (aK cs p O)),none,none,none] _ _ _ _;refine Ou.ex (x:=(j1,.non)) (by simp[P.f35,o0,q1]) ?_;refine Ou.ex (x:=(j2,.non)) (by simp[P.f36,nS,q2]) ?_;refine Ou.setK (x:=(99,.lst [])) (by simp) (by simp) ?_;refine Ou.setD (j:=1) (x:=(j3,.lst (aL (aV O)))) (by simp[P.v.f24,iX,q3]) h3 ?_;refine Ou.low (a':=[some (0,wd p cs),some (0,wrD (aK cs p O)),some (99,.lst []),some (1,.lst (aL (aV O))),none]) (.of_eq (by simp)) ?_;refine Ou.low (a':=[some (0,wd p cs),some (0,wrD (aK cs p O)),some (1,.lst (aL [])),some (1,.lst (aL (aV O))),none]) (.cons (.refl _) (.cons (.refl _) (.cons ⟨rfl,by decide⟩ (.refl _)))) ?_;refine Ou.whl (λn a=>∃(x4:aA) (res Q ee:am),a=[some (0,wd p cs),some (0,wrD (aK cs p O)),some (1,.lst (aL res)),some (1,.lst (aL (aV Q))),x4]/\Topo cs Q ee/\res++ee=es/\(∀j,aQ cs j O=aQ cs j res++aQ cs j Q)/\(∀x∈res,x∉Q)/\(∀x∈Q,x∈O)/\Q.Nodup/\n=Q.length) O.length (by omega) ⟨none,[],O,es,rfl,hT,rfl,λj=>rfl,by simp,λx h=>h,hO,rfl⟩ ?_;rintro m a ⟨x4,res,Q,ee,ha,hTo,he,hr,hdj,hsub,hnd,hm'⟩;subst ha;cases hTo with
  | nil=>
   refine .inl ⟨99,by simp[aV,aL],Ou.nil ⟨0,.lst (aL res),by simp,?_⟩⟩;rw[Hn] at he;rw[he]
  | @cons g Q1 Q2 ee hgn hd least hTo=>
   have hgQ:g∈Q1++g::Q2:=by simp
   have hgS:=(mS hsub g).mpr hgQ;have hne:∃y t,aV (Q1++g::Q2)=y::t:=by
    cases e:aV (Q1++g::Q2) with
    | nil=>rw[e] at hgS; cases hgS
    | cons y t=>exact⟨y,t,rfl⟩
   have hlenS:0<(aL (aV (Q1++g::Q2))).length:=by
    obtain⟨y,t,e⟩:=hne;rw[e,fw]; simp
   have hS6:(aV (Q1++g::Q2)).length<=6:=by
    have:=GJ (λk=>(Q1++g::Q2).contains k) (List.range 6);simpa[aV] using this
   refine .inr ⟨⟨99,by simp; exact hlenS⟩,(Q1++Q2).length,by rw[hm']; simp; omega,?_⟩;have cc:bc (compF G (run G (n+7)) [none,none,some (.lst (aL (aV (Q1++g::Q2)))),some (wrD (aK cs p O)),some (wd p cs)] (.one 1) [(.op .eq [(.op .len [(.call 37 [(.var 4),(.var 3),(.var 1),(.var 2)])]),(.cst (.int (0)))])] (.var 1)) (aL (aV (Q1++g::Q2)))=.ok (((aV (Q1++g::Q2)).filter λa=>decide (gN cs (Q1++g::Q2) a)).map λa=>(0,.int (a:Nat))):=by
    refine m8 (e:=λa:Nat=>D.int (Int.ofNat a)) λa ha=>?_;have haQ:=(mS hsub a).mp ha;obtain⟨js,us,qs,u1,u2⟩:=Ar P (n+1) 0 0 0 0 p cs O res (Q1++g::Q2) (aV (Q1++g::Q2)) a hp hm ok (hg a (hsub a haQ)) hO haQ (mS hsub) hdj hr;generalize wrD (aK cs p O)=WW at qs;generalize D.lst (aL (aV (Q1++g::Q2)))=LL at qs;generalize wd p cs=WD at qs;by_cases hq:gN cs (Q1++g::Q2) a
    .have:us=[]:=u1.mpr hq;subst this;simp[compF,P.f37,l8,qs,D.eq,hq]
    .have hu:¬us=[]:=λz=>hq (u1.mp z);simp[compF,P.f37,l8,qs,D.eq,hq,hu]
   obtain⟨t,et⟩:=xh (P:=λa=>decide (gN cs (Q1++g::Q2) a)) (og _) hgS (GE λj hj=>by rw[gw,hd j hj,gX,if_pos hj]; rfl) λo ho hog=>GQ (least o hog ((mS hsub o).mp ho));rw[et] at cc;obtain⟨A,B,eL,hgA,eE⟩:=yV (og (Q1++g::Q2)) hgS;have hg12:g∉Q1++Q2:=λz=>by
    have hpm:(Q1++g::Q2).Perm (g::(Q1++Q2)):=Iz;exact (GP.mp (hpm.nodup_iff.mp hnd)).1 z
   have eS2:=Bg (Q1:=Q1) (Q2:=Q2) hg12;rw[eE] at eS2;have fd:D.find (.int g) (aL (aV (Q1++g::Q2)))=some A.length:=by rw[eL,jE (by simp),kA hgA]
   have er:(aL (aV (Q1++g::Q2))).eraseIdx A.length=aL (aV (Q1++Q2)):=by rw[eL,yh,eS2]
   have isI:=y3 (aV (Q1++g::Q2));have lS:(aL (aV (Q1++g::Q2))).length<=SL:=by rw[fw]; omega
   generalize aL (aV (Q1++g::Q2))=LS at cc fd er isI lS hlenS;have hrl:res.length<=36:=by
    have h1:=congrArg List.length he;have h2:=hT.perm.length_eq;simp at h1;omega
   have jk:bf (((g::t).map λa=>((0:Nat),D.int (a:Nat))))=98:=oJ λx hx=>by
    obtain⟨c,_,rfl⟩:=dh hx;simp
   refine Ou.setK (x:=(99,.lst (aL (g::t)))) ?_ ?_ ?_
   .simp[cc,lS,aL,Function.comp_def];simpa using jk
   .simp[aL]
   refine Ou.low (a':=[some (0,wd p cs),some (0,wrD (aK cs p O)),some (1,.lst (aL res)),some (1,.lst LS),some (0,.lst (aL (g::t)))]) (.cons (.refl _) (.cons (.refl _) (.cons (.refl _) (.cons (.refl _) (.cons ⟨rfl,GX _⟩ .nil))))) ?_;have i0:aW (.lst (aL (g::t))) (.int 0)=some (0,.int (g:Nat)):=Bd (A:=[]) (B:=t) (a:=g);have hn0:(aL (g::t)).length=t.length+1:=by rw[fw]; rfl
   refine Ou.iffN (j:=99) (by simp[hn0,D.eq]; omega) ?_;generalize D.lst (aL (g::t))=RD at i0;refine Ou.append (k:=0) (xs:=aL res) (v:=(0,.int (g:Nat))) (by simp[frz,frz1]) (by simp[-aW,i0]) (by rw[fw]; omega) ?_;refine Ou.low (a':=[some (0,wd p cs),some (0,wrD (aK cs p O)),some (1,.lst (aL (res++[g]))),some (1,.lst LS),some (0,RD)]) (.of_eq (by simp[frz,frz1,aL])) ?_;refine Ou.remove (k:=0) (p:=A.length) (jj:=0) (n:=(g:Nat)) (xs:=LS) (by simp) (by simp[-aW,i0]) isI fd ?_;rw[er];refine Ou.nil ⟨some (0,RD),res++[g],Q1++Q2,ee,by simp,hTo,by simpa using he,λj=>?_,λx hx=>?_,λx hx=>hsub x ?_,?_,rfl⟩
   .have e1:=hr j;rw[Ac (hd j)] at e1;have e4:aQ cs j (res++[g])=aQ cs j res++aQ cs j [g]:=gw cs j res [g];have e5:aQ cs j [g]=if (j:Int)∈covA cs g then [g] else []:=gX cs j g []
    rw[e1,e4,e5];by_cases hj:(j:Int)∈covA cs g
    .rw[if_pos hj,if_pos hj]; simp
    .rw[if_neg hj,if_neg hj]; simp
   .rcases dm hx with hx | hx
    .intro z;exact hdj x hx (by rcases dm z with z | z <;> simp[z])
    .rw[Gz.mp hx]; exact hg12
   .rcases dm hx with z | z <;> simp[z]
   .have hpm:(Q1++g::Q2).Perm (g::(Q1++Q2)):=Iz;exact (GP.mp (hpm.nodup_iff.mp hnd)).2)
 exact⟨j,e,hj⟩
end Ip
end
section
namespace Ip
open PySem (Str)
noncomputable def aR (p:Nat)(cs:ab)(Z:af):D:=.tup (Z.map λO=>wrD (aK cs p O))
structure Sg (cs:ab)(Z:af):Prop where
 nd:Z.flatten.Nodup
 lt:∀g∈Z.flatten,g<cs.length
section
variable {p:Nat}{cs:ab}{Z:af}{g q:Nat}{O:am}
def Sg.wn (h:Sg cs Z)(hO:O∈Z):Wn cs O:=⟨h.nd.sublist (List.sublist_flatten_of_mem hO),λg hg=>h.lt g (Hq.mpr ⟨O,hO,hg⟩)⟩
noncomputable def fE (Z:af)(g:Nat):aE:=Z.findIdx? λO=>decide (g∈O)
noncomputable def ei (Z:af)(g:Nat):D:=match fE Z g with
 | some i=>.int i
 | none=>.non
def uR:fE Z g=none↔g∉Z.flatten:=by
 unfold fE;rw[List.findIdx?_eq_none_iff,Hq];simp
def ye {i:Nat}(h:fE Z g=some i):∃O,Z[i]? = some O/\g∈O:=by
 unfold fE at h;obtain⟨hi,h1,_⟩:=Hf.mp h;exact⟨Z[i],Gw hi,Hl h1⟩
def xk (h:Z[q]? = some O)(hg:g∈O):g∈Z.flatten:=Hq.mpr ⟨O,GH h,hg⟩
def uz (nd:Z.flatten.Nodup)(h:Z[q]? = some O)(hg:g∈O):fE Z g=some q:=by
 induction Z generalizing q with
 | nil=>cases h
 | cons P Z ih=>
  rw[List.flatten_cons] at nd;obtain⟨n1,n2,n3⟩:=GK.mp nd;unfold fE;rw[HZ];cases q with
  | zero=>
   cases h;rw[if_pos (GE hg)]
  | succ q=>
   have h':Z[q]? = some O:=h;have:g∉P:=λz=>n3 g z g (xk h' hg) rfl;rw[if_neg (by simpa using this)];have:=ih n2 h';unfold fE at this;rw[this];rfl
def vF {O':am}(h:Z[q]? = some O):∃A B:af,Z=A++O::B/\Z.set q O'=A++O'::B:=by
 obtain⟨hq,e⟩:=dO h;refine⟨Z.take q,Z.drop (q+1),?_,?_⟩
 .rw[<-e,<-GW hq,Hv]
 .rw[IP,if_pos hq]
def Sg.on (s:Sg cs Z)(h:Z[q]? = some O)(hg:g<cs.length)(hn:fE Z g=none):Sg cs (Z.set q (O++[g])):=by
 obtain⟨A,B,e1,e2⟩:=vF (O':=O++[g]) h;have pm:(Z.set q (O++[g])).flatten.Perm (g::Z.flatten):=by
  rw[e2,e1];simp only[List.flatten_append,List.flatten_cons];have:(A.flatten++(O++[g]++B.flatten))=(A.flatten++O)++g::B.flatten:=by simp
  rw[this];refine Iz.trans ?_;simp
 refine⟨pm.nodup_iff.mpr (GP.mpr ⟨uR.mp hn,s.nd⟩),λx hx=>?_⟩;rcases cg (pm.mem_iff.mp hx) with rfl | hx
 .exact hg
 .exact s.lt x hx
def Sg.off (s:Sg cs Z)(h:Z[q]? = some O):Sg cs (Z.set q (ja g O)):=by
 obtain⟨A,B,e1,e2⟩:=vF (O':=ja g O) h;have sb:(Z.set q (ja g O)).flatten.Sublist Z.flatten:=by
  rw[e2,e1];simp only[List.flatten_append,List.flatten_cons];exact .append (.refl _) (.append List.filter_sublist (.refl _))
 exact⟨s.nd.sublist sb,λx hx=>s.lt x (sb.subset hx)⟩
inductive Dd (cs:ab) (Z:af):D->af->Prop
 | on {q g:Nat} {O:am} (hO:Z[q]? = some O) (hg:g<cs.length) (h:fE Z g=none):Dd cs Z (.tup [.int q,.str "on",.int g]) (Z.set q (O++[g]))
 | off {q g:Nat} {O:am} (hO:Z[q]? = some O) (h:g∈O) (e:lR cs O g=[]):Dd cs Z (.tup [.int q,.str "off",.int g]) (Z.set q (ja g O))
end
def gP {p:Nat}{cs:ab}{Z:af}{i:Nat}{O:am}(h:Z[i]? = some O):aW (aR p cs Z) (.int i)=some (0,wrD (aK cs p O)):=by
 obtain⟨hi,e⟩:=dO h;have h':(i:Int)<Z.length:=by omega
 simp[aR,aW,d6,h',hi,e]
def DL (p:Nat)(cs:ab)(Z:af)(q:Nat)(O:am):aR p cs (Z.set q O)=.tup ((Z.map λO=>wrD (aK cs p O)).set q (wrD (aK cs p O))):=by rw[aR,List.map_set]
def vI (p:Nat)(cs:ab)(Z:af):c7 .enum [(0,aR p cs Z)]=some ((List.range' 0 Z.length).map λ(n:Nat)=>D.tup [.int n,wrD (aK cs p (Z.getD n []))]):=by
 show some ((Z.map λO=>wrD (aK cs p O)).mapIdx λn d=>D.tup [.int n,d])=_;congr 1
 refine Hz λj=>?_;rw[Hi,GD,GD];by_cases hj:j<Z.length
 .rw[Gw hj,List.getElem?_range' hj];simp[hj]
 .rw[G0 (by omega),G0 (by simp; omega)];rfl
def yJ {Z:af}{g i:Nat}(hi:i<Z.length)(h:g∈Z[i])(hn:∀j (hj:j<Z.length),j<i->g∉Z[j]):ei Z g=.int i:=by
 have:fE Z g=some i:=by
  unfold fE;rw[Hf];exact⟨hi,GE h,λj hj=>by simpa using hn j (by omega) hj⟩
 simp[ei,this]
def C5 {Z:af}{g:Nat}(hn:∀j (hj:j<Z.length),g∉Z[j]):ei Z g=.non:=by
 have:fE Z g=none:=by
  rw[uR,Hq];rintro⟨O,hO,hg⟩;obtain⟨j,hj,rfl⟩:=List.mem_iff_getElem.mp hO;exact hn j hj hg
 simp[ei,this]
def zX:(D.str "on").pur 60=true:=by decide +kernel
def EX:(D.str "off").pur 60=true:=by decide +kernel
def Bs:(D.str "on").eq (.str "on")=true:=by decide +kernel
def Fm:(D.str "off").eq (.str "on")=false:=by decide +kernel
def AE (r:am):aY none (some (-1)) (aM r)=some (0,aM r.dropLast):=by simp only[aM,aY,Fv,E7]
def Cw {p:Nat}{cs:ab}{O:am}(C:Cv p cs)(w:Wn cs O)(g:Nat):((aK cs p O).any λr=>decide (g∈r))=decide (g∈O):=by
 rw[Ig];simp only[Jp,GV];constructor
 .rintro⟨r,hr,hg⟩;exact ju (Hq.mpr ⟨r,hr,hg⟩)
 .intro h;exact Hq.mp (uG C w h)
def zO {p:Nat}{cs:ab}{Z:af}{q:Nat}{O:am}(hq:q<Z.length)(hl:Z.length<=3):bI (.tup ((Z.map λO=>wrD (aK cs p O)).take q)) (.tup [wrD (aK cs p O)])=some (0,.tup ((Z.map λO=>wrD (aK cs p O)).take q++[wrD (aK cs p O)]))/\bI (.tup ((Z.map λO=>wrD (aK cs p O)).take q++[wrD (aK cs p O)])) (.tup ((Z.map λO=>wrD (aK cs p O)).drop (q+1)))=some (0,aR p cs (Z.set q O)):=by
 have h9:9<=SL:=by decide
 rw[DL];have hl':(Z.map λO=>wrD (aK cs p O)).length<=3:=by simpa using hl
 have hq':q<(Z.map λO=>wrD (aK cs p O)).length:=by simpa using hq
 generalize (Z.map λO=>wrD (aK cs p O))=L at hl' hq';generalize wrD (aK cs p O)=W;constructor
 .have:(L.take q).length+[W].length<=SL:=by simp; omega
  simp only[bI];rw[if_pos this]
 .have:(L.take q++[W]).length+(L.drop (q+1)).length<=SL:=by simp; omega
  simp only[bI];rw[if_pos this,IP,if_pos hq'];simp
def Dv (G:Pg)(cl:Nat->ax->Run)(W:af)(g:Nat):bc (compF G cl [none,none,some (.int g)] (.one 1) [] (.op .isin [(.var 2),(.var 1)])) (W.map aM)=.ok (W.map λr=>(99,.bl (decide (g∈r)))):=
 gU λr _=>by
  have:=jG r;simp[-List.all_eq_true,compF,aM,iS,this]
theorem rP {α:Type}(x:α):∀n:Nat,(List.replicate n [x]).flatten=List.replicate n x
 | 0=>rfl
 | n+1=>by rw[List.replicate_succ,List.flatten_cons,rP x n]; rfl
def mul_one {x:D}{m:Nat}(hm:1<=m/\m<=6):dF (.tup [x]) (.int m)=some (0,.tup (List.replicate m x)):=by
 have h3:[x].length * (m:Int).toNat<=SL:=by
  have:6<=SL:=by decide
  simp; omega
 have c:[x].isEmpty=false/\1<=(m:Int)/\(m:Int)<=1000/\[x].length * (m:Int).toNat<=SL:=⟨rfl,by omega,by omega,h3⟩
 simp only[dF];rw[if_pos c,Int.toNat_natCast,rP]
def yE {p m:Nat}(cs:ab)(hp:1<=p/\p<=6)(hm:1<=m/\m<=6):dF (.tup [.tup []]) (.int p)=some (0,wrD (aK cs p []))/\dF (.tup [wrD (aK cs p [])]) (.int m)=some (0,aR p cs (List.replicate m [])):=by
 have h1:=mul_one (x:=.tup []) hp;have h2:=mul_one (x:=wrD (aK cs p [])) hm;have e0:aK cs p []=List.replicate p []:=List.eq_replicate_iff.mpr ⟨j9 _ _ _,by simp[aK,aQ]⟩;have e1:wrD (aK cs p [])=.tup (List.replicate p (.tup [])):=by
  rw[e0,wrD,JF]; rfl
 have e2:aR p cs (List.replicate m [])=.tup (List.replicate m (wrD (aK cs p []))):=by
  rw[aR,JF]
 rw[e2];exact⟨by rw[h1,e1],h2⟩
def xz {p:Nat}{cs:ab}(hp:1<=p/\p<=6)(hm:cs.length<=6)(ok:∀c∈cs,OkC p c):Cv p cs:=by
 have h:∀g,covA cs g=[]/\cs.length<=g\/OkC p (covA cs g):=λg=>by
  unfold covA;rw[Gy];by_cases hg:g<cs.length
  .rw[Gw hg]; exact .inr (ok _ (G5 hg))
  .rw[G0 (by omega)]; exact .inl ⟨rfl,by omega⟩
 refine⟨hp.1,hp.2,hm,λg hg=>?_,λg i hi=>?_,λg=>?_,λg=>?_⟩
 .rcases h g with ⟨_,e⟩ | o
  .omega
  .exact o.ne
 .rcases h g with ⟨e,_⟩ | o
  .rw[e] at hi; cases hi
  .exact o.rg i hi
 .rcases h g with ⟨e,_⟩ | o
  .rw[e]; exact .nil
  .exact o.nd
 .rcases h g with ⟨e,_⟩ | o
  .rw[e]; simp
  .exact o.ln
def sJ {α β:Type}(f:α->β)(xs:List α)(lo hi:Option Int):cutD (xs.map f) lo hi=(cutD xs lo hi).map f:=by
 simp[cutD,List.map_take,List.map_drop]
def B6 {r:am}{x:Nat}:aW (aM (r++[x])) (.int (-1))=some (0,.int x):=by
 have:=xU (n:=r.length+1) (by omega);simp[aM,aW,aL,this]
def AZ (c:ao):(c.map D.int).all (D.pur 60)=true:=by simp
variable {G:Pg}(P:Pm G)
include P
def BV (n k k':Nat)(p:Nat)(cs:ab)(Z:af)(g:Nat)(C:Cv p cs)(s:Sg cs Z)(hl:Z.length<=3):∃j,run G (n+1) 115 [(k,aR p cs Z),(k',.int g)]=.ret j (ei Z g) []:=by
 have hl':Z.length<=SL:=bH hl (by decide);have key:Ou G (run G n) [] [some (0,aR p cs Z),some (0,.int g),none] o5.body (λ_=>False) (λd=>d=ei Z g) λ_ _ _=>False:=by
  refine Ou.fo (λr a=>∃(x2:aA) (i l:Nat),a=[some (0,aR p cs Z),some (0,.int g),x2]/\r=(List.range' i l).map (λ(n:Nat)=>D.int n)/\i+l=Z.length/\∀j (hj:j<Z.length),j<i->g∉Z[j]) (vs:=[(99,.int Z.length)]) (by simp[aR]) (wk_rng1 hl') (by simpa using hl') ⟨none,0,Z.length,by simp,by rw[Io],by omega,λj hj h=>by omega⟩ ?_ ?_
  .rintro x r a ⟨x2,i,l,ha,hr,hil,hn⟩;cases l with
   | zero=>simp at hr
   | succ l=>
    rw[Iw,GA,He] at hr;obtain⟨rfl,rfl⟩:=hr;subst ha;have hi:i<Z.length:=by omega
    have ix:=gP (p:=p) (cs:=cs) (Gw hi);have cc:=Dv G (run G n) (aK cs p Z[i]) g;have hws:(aK cs p Z[i]).length<=SL:=by rw[j9]; exact bH C.p6 (by decide)
    have hsq:(wrD (aK cs p Z[i])).seq=some ((aK cs p Z[i]).map aM):=rfl;have an:=vm (λr=>decide (g∈r)) (aK cs p Z[i]);rw[Cw C (s.wn (G5 hi)) g] at an;refine⟨_,dW rfl,?_⟩;have hev:∀a:Fr,a=[some (0,aR p cs Z),some (0,.int g),some (0,.int i)]->eval G (run G n) a.sl (.op .any [(.comp [none,none,(some 1)] (.one 1) .seq [(.op .ix [(.var 0),(.var 2)])] [] (.op .isin [(.var 2),(.var 1)]))])=.ok (99,.bl (decide (g∈Z[i]))):=by
     intro a ea;subst ea;generalize aR p cs Z=T at ix;generalize wrD (aK cs p Z[i])=Y at ix hsq;simp[-aW,-D.seq,ix,hsq,cc,hws,Function.comp_def,an]
    by_cases hb:g∈Z[i]
    .rw[GE hb] at hev;refine Ou.iffT (j:=99) (hev _ rfl) ?_;exact Ou.ret (x:=(0,.int i)) rfl (yJ hi hb hn).symm
    .rw[GQ hb] at hev;refine Ou.iffN (j:=99) (hev _ rfl) ?_;refine Ou.nil ⟨some (0,.int i),i+1,l,by simp,rfl,by omega,λj hj h=>?_⟩;by_cases e:j=i
     .subst e; exact hb
     .exact hn j hj (by omega)
  .rintro a ⟨x2,i,l,ha,hr,hil,hn⟩;subst ha;have hl0:l=0:=by
    cases l with
    | zero=>rfl
    | succ l=>rw[Iw] at hr; simp at hr
   subst hl0;exact Ou.ret (x:=(99,.non)) rfl (C5 λj hj=>hn j hj (by omega)).symm
 obtain⟨j,d,e,rfl⟩:=Ou.run (n:=n) (vs:=[(k,aR p cs Z),(k',.int g)]) (V:=λd=>d=ei Z g) P.f115 rfl rfl (key.mono (λ_ h=>h.elim) (λ_ h=>h) λ_ _ _ h=>h);exact⟨j,e⟩
def wK (n k k' k'':Nat)(p:Nat)(cs:ab)(Z:af)(C:Cv p cs)(s:Sg cs Z)(hl3:Z.length<=3)(q g:Nat)(O O':am)(hO:Z[q]? = some O)(hg:g<cs.length)(w:Str)(f:am->am)
  (hw:w = "on" /\ f=(λr=>r++[g])\/w = "off" /\ f=List.dropLast)(hmod:fc f (covA cs g) (aK cs p O)=aK cs p O'):∃j,run G (n+1) 117 [(k,aR p cs Z),(k',.tup [.int q,.str w,.int g]),(k'',aO cs)]=.ret j (aR p cs (Z.set q O')) []:=by
 have hq:q<Z.length:=(dO hO).1;have wn:=s.wn (GH hO);have hl:p<=SL:=bH C.p6 (by decide);have ix1:=gP (p:=p) (cs:=cs) hO;have ix2:=k8 hg;have hsq:(wrD (aK cs p O)).seq=some ((aK cs p O).map aM):=rfl;have hsl:((aK cs p O).map aM).length=p:=by rw[Gx,j9]
 have hsS:aR p cs Z=.tup (Z.map λO=>wrD (aK cs p O)):=rfl;have c1:=k7 (Z.map λO=>wrD (aK cs p O)) q;have c2:=nk (Z.map λO=>wrD (aK cs p O)) (q+1);have e2:((q+1:Nat):Int)=(q:Int)+1:=by omega
 rw[e2] at c2;have ct1:aY none (some (q:Int)) (aR p cs Z)=some (0,.tup ((Z.map λO=>wrD (aK cs p O)).take q)):=by simp only[hsS,aY,c1]
 have ct2:aY (some ((q:Int)+1)) none (aR p cs Z)=some (0,.tup ((Z.map λO=>wrD (aK cs p O)).drop (q+1))):=by simp only[hsS,aY,c2]
 obtain⟨a1,a2⟩:=zO (p:=p) (cs:=cs) (O:=O') hq hl3;have hrow:∀i,i<p->aW (wrD (aK cs p O)) (.int i)=some (0,aM (aQ cs i O)):=λi hi=>gz hi;have hlen:(aK cs p O').length=p:=j9 _ _ _;have hget:∀i,i<p->(aK cs p O')[i]? = some (if (i:Int)∈covA cs g then f (aQ cs i O) else aQ cs i O):=λi hi=>by
  rw[<-hmod,qN f _ _ (C.nd g) (λi hi=>by rw[j9]; exact C.rg g i hi)];simp[aK,hi]
 have hrl:∀i,(aQ cs i O).length<=6:=λi=>bH (GJ _ _) (wn.len C);have ewr:wrD (aK cs p O')=.tup ((aK cs p O').map aM):=rfl;rw[ewr] at a1 a2;generalize hR:aR p cs (Z.set q O')=R at a2;generalize aR p cs Z=T at ix1 ct1 ct2;generalize wrD (aK cs p O)=Y at ix1 hsq hrow;generalize aO cs=K at ix2;generalize aK cs p O'=W' at *;generalize (Z.map λO=>wrD (aK cs p O)).take q=S1 at *;generalize (Z.map λO=>wrD (aK cs p O)).drop (q+1)=S2 at *;generalize covA cs g=c at *;have key:Ou G (run G n) [] [some (0,T),some (0,.tup [.int q,.str w,.int g]),some (0,K),none,none,none,none,none,none] oE.body (λ_=>False) (λd=>d=R) λ_ _ _=>False:=by
  refine Ou.setT (j:=0) (ds:=[.int q,.str w,.int g]) (by simp) ?_;refine Ou.setK (x:=(99,.lst [])) (by simp) (by simp) ?_;refine Ou.low (a':=[some (0,T),some (0,.tup [.int q,.str w,.int g]),some (0,K),some (0,.int q),some (0,.str w),some (0,.int g),some (1,.lst []),none,none]) (.cons (.refl _) (.cons (.refl _) (.cons (.refl _) (.cons (.refl _) (.cons (.refl _) (.cons (.refl _) (.cons ⟨rfl,by decide⟩ (.refl _)))))))) ?_;refine Ou.fo (λr a=>∃(x7 x8:aA) (i l:Nat),a=[some (0,T),some (0,.tup [.int q,.str w,.int g]),some (0,K),some (0,.int q),some (0,.str w),some (0,.int g),some (1,.lst ((W'.take i).map aM)),x7,x8]/\r=(List.range' i l).map (λ(n:Nat)=>D.int n)/\i+l=p) (vs:=[(99,.int p)]) (by simp only[Gx] at hsl; simp[-aW,-D.seq,ix1,hsq,hsl]) (wk_rng1 hl) (by simpa using hl) ⟨none,none,0,p,by simp,by rw[Io],by omega⟩ ?_ ?_
  .rintro x r a ⟨x7,x8,i,l,ha,hr,hil⟩;cases l with
   | zero=>simp at hr
   | succ l=>
    rw[Iw,GA,He] at hr;obtain⟨rfl,rfl⟩:=hr;subst ha;have hi:i<p:=by omega
    have ix3:=hrow i hi;have hg:=hget i hi;have hln:=hrl i;generalize aQ cs i O=row at ix3 hg hln;have mb:=nv i c;have sc:=AZ c;refine⟨_,dW rfl,?_⟩;refine Ou.set (x:=(0,aM row)) (by simp[-aW,ix1,ix3]) ?_;have fin:∀(row':am) (a:Fr),W'[i]? = some row'->a=[some (0,T),some (0,.tup [.int q,.str w,.int g]),some (0,K),some (0,.int q),some (0,.str w),some (0,.int g),some (1,.lst ((W'.take i).map aM)),some (0,.int i),some (0,aM row')]->Ou G (run G n) [] a [.mut 6 [] .append [(.var 8)]] (λa=>∃(x7 x8:aA) (i' l':Nat),a=[some (0,T),some (0,.tup [.int q,.str w,.int g]),some (0,K),some (0,.int q),some (0,.str w),some (0,.int g),some (1,.lst ((W'.take i').map aM)),x7,x8]/\(List.range' (i+1) l).map (λ(n:Nat)=>D.int n)=(List.range' i' l').map (λ(n:Nat)=>D.int n)/\i'+l'=p) (λd=>d=R) λ_ _ _=>False:=by
     intro row' a eg ea;subst ea;refine Ou.append (k:=0) (xs:=(W'.take i).map aM) (v:=(0,aM row')) (by simp[frz,frz1]) (by simp) ?_ ?_
     .rw[Gx,G4,hlen];omega
     .refine Ou.nil ⟨some (0,.int i),some (0,aM row'),i+1,l,?_,rfl,by omega⟩;have:W'.take (i+1)=W'.take i++[row']:=by rw[List.take_succ,eg]; rfl
      rw[this];simp[frz,frz1]
    by_cases hb:(i:Int)∈c
    .rw[if_pos hb] at hg;refine Ou.iffT (j:=99) (by simp[-aW,-List.all_eq_true,ix2,mb,sc,hb]) ?_;have ct:=AE row;have ad:=zH (r:=row) (g:=g) (by omega);have op:=zX;have fp:=EX;have oo:=Bs;have fo:=Fm;rcases hw with ⟨rfl,rfl⟩ | ⟨rfl,rfl⟩
     .refine Ou.set (x:=(0,aM (row++[g]))) ?_ (Ou.nil ?_)
      .generalize aM row=Y at ct ad;generalize aM (row++[g])=Y2 at ad;generalize D.str "on" = E at op oo;simp[-bI,-aY,-aW,ct,ad,op,oo];simp[d6]
      .exact fin _ _ hg (by simp)
     .refine Ou.set (x:=(0,aM row.dropLast)) ?_ (Ou.nil ?_)
      .generalize aM row=Y at ct ad;generalize aM (row++[g])=Y2 at ad;generalize aM row.dropLast=Y3 at ct;generalize D.str "on" = E at op fo;generalize D.str "off" = F at fp fo;simp[-bI,-aY,-aW,ct,ad,op,fo,fp];simp[d6]
      .exact fin _ _ hg (by simp)
    .rw[if_neg hb] at hg;refine Ou.iffN (j:=99) (by simp[-aW,-List.all_eq_true,ix2,mb,sc,hb]) ?_;exact fin _ _ hg (by simp)
  .rintro a ⟨x7,x8,i,l,ha,hr,hil⟩;have hl0:l=0:=by
    cases l with
    | zero=>rfl
    | succ l=>rw[Iw] at hr; simp at hr
   subst hl0 ha;have:W'.take i=W':=HC (by omega);rw[this];have a0:bI (.int q) (.int 1)=some (99,.int ((q:Int)+1)):=rfl;exact Ou.ret (x:=(0,R)) (by simp[-bI,-aY,ct1,ct2,a0,a1,a2]) rfl
 obtain⟨j,d,e,rfl⟩:=Ou.run (n:=n) (vs:=[(k,T),(k',.tup [.int q,.str w,.int g]),(k'',K)]) (V:=λd=>d=R) P.f117 rfl rfl (key.mono (λ_ h=>h.elim) (λ_ h=>h) λ_ _ _ h=>h);exact⟨j,e⟩
def CU (n k k' k'':Nat)(p:Nat)(cs:ab)(Z Z':af)(d:D)(C:Cv p cs)(s:Sg cs Z)(hl:Z.length<=3)(h:Dd cs Z d Z'):∃j,run G (n+1) 117 [(k,aR p cs Z),(k',d),(k'',aO cs)]=.ret j (aR p cs Z') []:=by
 cases h with
 | on hO hg h=>exact wK P n k k' k'' p cs Z C s hl _ _ _ _ hO hg _ _ (.inl ⟨rfl,rfl⟩) (by rw[<-vv]; exact Au C)
 | off hO h e=>
  have w:=s.wn (GH hO);exact wK P n k k' k'' p cs Z C s hl _ _ _ _ hO (w.lt _ h) _ _ (.inr ⟨rfl,rfl⟩) (Dt C w.nd h e)
def Fa (n k k' k'':Nat)(p:Nat)(c:Int)(cs:ab)(Z:af)(C:Cv p cs)(s:Sg cs Z)(hl:1<=Z.length/\Z.length<=3) :
  ∃j d,run G (n+2) 116 [(k,.int c),(k',aR p cs Z),(k'',aO cs)]=.ret j d []/\(d=.non\/∃Z',Dd cs Z d Z'):=by
 have key:Ou G (run G (n+1)) [] [some (0,.int c),some (0,aR p cs Z),some (0,aO cs),none,none] nU.body (λ_=>False) (λd=>d=.non\/∃Z',Dd cs Z d Z') λ_ _ _=>False:=by
  by_cases h0:cs.length=0
  .refine Ou.iffT (j:=99) (by simp[aO,h0,D.eq]) ?_;exact Ou.ret (x:=(99,.non)) (by simp) (.inl rfl)
  .have hne:¬cs=[]:=λe=>h0 (by rw[e]; rfl);refine Ou.iffN (j:=99) (by simp[aO,D.eq,hne]) ?_;obtain⟨g',j1,q1,hg0,hg1⟩:=lw P.d n 0 99 99 c 21 cs.length (by omega) (by decide);obtain⟨g,rfl⟩:∃g:Nat,g'=(g:Int):=⟨g'.toNat,by omega⟩
   have hg:g<cs.length:=by omega
   refine Ou.set (x:=(j1,.int g)) (by simp[aO,P.d.f71,gF,q1]) ?_;obtain⟨j2,q2⟩:=BV P n 0 0 p cs Z g C s hl.2;refine Ou.set (x:=(j2,ei Z g)) (by simp[P.f115,o5,q2]) ?_;unfold ei;cases e:fE Z g with
   | none=>
    refine Ou.iffT (j:=99) (by simp) ?_;obtain⟨q',j3,q3,hq0,hq1⟩:=lw P.d n 0 99 99 c 22 Z.length (by omega) (by decide);obtain⟨q,rfl⟩:∃q:Nat,q'=(q:Int):=⟨q'.toNat,by omega⟩
    have hq:q<Z.length:=by omega
    refine Ou.ret (x:=(99,.tup [.int q,.str "on",.int g])) (by simp[aR,P.d.f71,gF,q3]) ?_;exact .inr ⟨_,.on (Gw hq) hg e⟩
   | some i=>
    obtain⟨O,hO,hb⟩:=ye e;have w:=s.wn (GH hO);refine Ou.iffN (j:=99) (by simp) ?_;have ix1:=gP (p:=p) (cs:=cs) hO;have ix2:=k8 hg;have hcS:(covA cs g).length<=SL:=bH (C.ln g) (by decide);have hsp:∀x∈covA cs g,∃r y,aQ cs x.toNat O=r++[y]:=λx hx=>by
     have hin:g∈aQ cs x.toNat O:=GB.mpr ⟨hb,GE (by rw[G2 (C.rg g x hx).1]; exact hx)⟩;have hne:aQ cs x.toNat O≠[]:=λe=>by rw[e] at hin; cases hin
     exact⟨_,_,(Ie hne).symm⟩
    have cc:bc (compF G (run G (n+1)) [none,none,some (.int g),some (.int i),some (aR p cs Z)] (.one 1) [] (.op .eq [(.op .ix [(.op .ix [(.op .ix [(.var 4),(.var 3)]),(.var 1)]),(.op .neg [(.cst (.int (1)))])]),(.var 2)])) ((covA cs g).map .int)=.ok ((covA cs g).map λx=>(99,.bl (decide ((aQ cs x.toNat O).getLastD 0=g)))):=by
     refine gU λx hx=>?_;obtain⟨r,y,er⟩:=hsp x hx;have hr:=C.rg g x hx;have ix3:=gz (cs:=cs) (O:=O) (show x.toNat<p by omega);rw[er,G2 hr.1] at ix3;have ix4:=B6 (r:=r) (x:=y);rw[er];generalize aM (r++[y])=R at ix3 ix4;generalize aR p cs Z=T at ix1;generalize wrD (aK cs p O)=Y at ix1 ix3;simp[-aW,compF,ix1,ix3,ix4,D.eq];omega
    have al:=oW (λx:Int=>decide ((aQ cs x.toNat O).getLastD 0=g)) (covA cs g);generalize hT:aR p cs Z=T at cc;generalize hK:aO cs=K at ix2;have hev:∀a:Fr,a=[some (0,.int c),some (0,T),some (0,K),some (0,.int g),some (0,.int i)]->eval G (run G (n+1)) a.sl (.op .all [(.comp [none,none,(some 3),(some 4),(some 1)] (.one 1) .seq [(.op .ix [(.var 2),(.var 3)])] [] (.op .eq [(.op .ix [(.op .ix [(.op .ix [(.var 4),(.var 3)]),(.var 1)]),(.op .neg [(.cst (.int (1)))])]),(.var 2)]))])=.ok (99,.bl ((covA cs g).all λx:Int=>decide ((aQ cs x.toNat O).getLastD 0=g))):=by
     intro a ea;subst ea;simp[-aW,-List.all_eq_true,ix2,cc,hcS,Function.comp_def,al]
    cases hb2:(covA cs g).all λx:Int=>decide ((aQ cs x.toNat O).getLastD 0=g) with
    | true=>
     rw[hb2] at hev;refine Ou.iffT (j:=99) (hev _ (by simp)) ?_;refine Ou.ret (x:=(99,.tup [.int i,.str "off",.int g])) (by simp) ?_;refine .inr ⟨_,.off hO hb (BZ (λi hi=>(C.rg g i hi).1) w.nd λj hj=>?_)⟩;obtain⟨r,y,er⟩:=hsp _ hj;have:=dR hb2 _ hj;rw[er] at this;rw[Int.toNat_natCast] at er;have e3:y=g:=by simpa using this
     rw[e3] at er;exact⟨r,er⟩
    | false=>
     rw[hb2] at hev;refine Ou.iffN (j:=99) (hev _ (by simp)) ?_;exact Ou.ret (x:=(99,.non)) (by simp) (.inl rfl)
 obtain⟨j,d,e,h⟩:=Ou.run (n:=n+1) (vs:=[(k,.int c),(k',aR p cs Z),(k'',aO cs)]) (V:=λd=>d=.non\/∃Z',Dd cs Z d Z') P.f116 rfl rfl (key.mono (λ_ h=>h.elim) (λ_ h=>h) λ_ _ _ h=>h);exact⟨j,d,e,h⟩
end Ip
end
section
namespace Ip
open PySem (Str)
noncomputable def pf (g:Nat)(l:am):am:=l.take (l.idxOf g)
def om {g:Nat}{A B:am}(h:g∉A):pf g (A++g::B)=A:=by
 unfold pf;rw[kA h,List.take_left]
def zU {g u:Nat}{l:am}(h:u∈pf g l):u∈l:=List.mem_of_mem_take h
def xg {g:Nat}{l m:am}(h:g∈l):l.take (l.idxOf g+1)=m.take (l.idxOf g+1)↔g∈m/\pf g l=pf g m:=by
 obtain⟨A,B,rfl,hA⟩:=Iq h;have e1:∀B:am,(A++g::B).take (A.length+1)=A++[g]:=λB=>by
  rw[List.take_append,HC (by omega)];simp
 rw[kA hA,om hA,e1];constructor
 .intro e;have em:m=A++g::m.drop (A.length+1):=by
   conv=>lhs; rw[<-Hv (A.length+1) m,<-e]
   simp
  rw[em];exact⟨by simp,(om hA).symm⟩
 .rintro⟨hm,e⟩;obtain⟨A',B',rfl,hA'⟩:=Iq hm;rw[om hA'] at e;subst e;exact (e1 _).symm
inductive Sy (cs:ab) (A B:am):Nat->Prop
 | mk {g:Nat} (hg:g∈A) (h1:∀j:Nat,(j:Int)∈covA cs g->g∈aQ cs j B/\pf g (aQ cs j A)=pf g (aQ cs j B)) (h2:∀j:Nat,(j:Int)∈covA cs g->∀u∈pf g (aQ cs j A),Sy cs A B u):Sy cs A B g
section
variable {p:Nat}{cs:ab}{A B:am}{g:Nat}
def Sy.lf (h:Sy cs A B g):g∈A:=by cases h; assumption
def jz {j:Nat}(h:g∈A)(hj:(j:Int)∈covA cs g):g∈aQ cs j A:=GB.mpr ⟨h,GE hj⟩
def Sy.rt (C:Cv p cs)(w:Wn cs A)(h:Sy cs A B g):g∈B:=by
 cases h with
 | mk hg h1 _=>
  cases e:covA cs g with
  | nil=>exact absurd e (C.ne g (w.lt g hg))
  | cons i c=>
   have hi:i∈covA cs g:=by rw[e]; exact bQ
   have:=(h1 i.toNat (by rw[G2 (C.rg g i hi).1]; exact hi)).1;exact (GB.mp this).1
theorem Sy.symm (C:Cv p cs)(w:Wn cs A)(h:Sy cs A B g):Sy cs B A g:=by
 induction h with
 | mk hg h1 h2 ih=>exact .mk (Sy.rt C w (.mk hg h1 h2)) (λj hj=>⟨jz hg hj,(h1 j hj).2.symm⟩) λj hj u hu=>ih j hj u (by rw[(h1 j hj).2]; exact hu)
def wP {j:Nat}{P R:am}(hg:g∉P)(hj:(j:Int)∈covA cs g):pf g (aQ cs j (P++g::R))=aQ cs j P:=by
 rw[gw,gX,if_pos hj];exact om λh=>hg (GB.mp h).1
def Sy.self (hg:g∈A):Sy cs A A g:=by
 have key:∀n g,g∈A->A.idxOf g=n->Sy cs A A g:=by
  intro n;induction n using Nat.strongRecOn with
  | _ n ih=>
   intro g hg hn;refine .mk hg (λj hj=>⟨jz hg hj,rfl⟩) λj hj u hu=>?_;obtain⟨P,R,e,hP⟩:=Iq hg;rw[e,wP hP hj] at hu;have hu':=(GB.mp hu).1;refine ih (A.idxOf u) ?_ u (by rw[e]; exact eI _ hu') rfl;rw[<-hn,e,kA hP,List.idxOf_append,if_pos hu'];exact List.idxOf_lt_length_of_mem hu'
 exact key _ g hg rfl
noncomputable def dD (x:Nat×Bool×Nat):D:=.tup [.int x.1,.str (if x.2.1 then "on" else "off"),.int x.2.2]
theorem EF (q g:Nat):D.tup [.int q,.str "on",.int g]=dD (q,true,g):=rfl
theorem yd (q g:Nat):D.tup [.int q,.str "off",.int g]=dD (q,false,g):=rfl
inductive Wy (cs:ab):List (Nat×Bool×Nat)->af->af->Prop
 | nil {Z:af}:Wy cs [] Z Z
 | on {q g:Nat} {O:am} {Z Z':af} {ds:List (Nat×Bool×Nat)} (hO:Z[q]? = some O) (hg:g<cs.length) (h:fE Z g=none) (t:Wy cs ds (Z.set q (O++[g])) Z'):Wy cs ((q,true,g)::ds) Z Z'
 | off {q g:Nat} {O:am} {Z Z':af} {ds:List (Nat×Bool×Nat)} (hO:Z[q]? = some O) (h:g∈O) (e:lR cs O g=[]) (t:Wy cs ds (Z.set q (ja g O)) Z'):Wy cs ((q,false,g)::ds) Z Z'
def Wy.snoc {Z Z' U:af}{d:D}{ds:List (Nat×Bool×Nat)}(h:Wy cs ds Z Z')(k:Dd cs Z' d U):∃x,d=dD x/\Wy cs (ds++[x]) Z U:=by
 induction h with
 | nil=>
  cases k with
  | on hO hg h=>exact⟨_,EF _ _,.on hO hg h .nil⟩
  | off hO h e=>exact⟨_,yd _ _,.off hO h e .nil⟩
 | on hO hg h t ih=>
  obtain⟨x,e,w⟩:=ih k;exact⟨x,e,.on hO hg h w⟩
 | off hO h e t ih=>
  obtain⟨x,e',w⟩:=ih k;exact⟨x,e',.off hO h e w⟩
def Wy.good {Z Z':af}{ds:List (Nat×Bool×Nat)}(h:Wy cs ds Z Z'):Sg cs Z->Sg cs Z'/\Z'.length=Z.length/\∀x∈ds,x.2.2<cs.length:=by
 induction h with
 | nil=>exact λs=>⟨s,rfl,by simp⟩
 | on hO hg h t ih=>
  intro s;obtain⟨h1,h2,h3⟩:=ih (s.on hO hg h);refine⟨h1,by simpa using h2,λx hx=>?_⟩;rcases cg hx with rfl | hx
  .exact hg
  .exact h3 x hx
 | off hO h e t ih=>
  intro s;obtain⟨h1,h2,h3⟩:=ih (s.off hO);refine⟨h1,by simpa using h2,λx hx=>?_⟩;rcases cg hx with rfl | hx
  .exact (s.wn (GH hO)).lt _ h
  .exact h3 x hx
end
noncomputable def bO (f:Nat->Nat->Bool):Nat->af->ak
 | _,[]=>[]
 | q,e::es=>((e.filter (f q)).map λg=>(q,g))++bO f (q+1) es
theorem nA {f:Nat->Nat->Bool}{x:Nat×Nat}:∀{q:Nat} {es:af},x∈bO f q es↔∃i e,es[i]? = some e/\x.1=q+i/\x.2∈e/\f x.1 x.2=true
 | q,[]=>by simp[bO]
 | q,e::es=>by
  rw[bO,Ha,nA (q:=q+1)];constructor
  .rintro (h | ⟨i,e',h1,h2,h3⟩)
   .obtain⟨g,hg,rfl⟩:=dh h;obtain⟨h1,h2⟩:=GB.mp hg;exact⟨0,e,rfl,rfl,h1,h2⟩
   .exact⟨i+1,e',h1,by omega,h3⟩
  .rintro⟨i,e',h1,h2,h3,h4⟩;cases i with
   | zero=>
    cases h1;obtain⟨a,b⟩:=x;obtain rfl:a=q:=h2;exact .inl (IQ.mpr ⟨b,GB.mpr ⟨h3,h4⟩,rfl⟩)
   | succ i=>exact .inr ⟨i,e',h1,by omega,h3,h4⟩
theorem wT {f:Nat->Nat->Bool}:∀{q:Nat} {es:af},(∀e∈es,e.Nodup)->(bO f q es).Nodup
 | q,[],_=>.nil
 | q,e::es,h=>by
  rw[bO,GK];refine⟨List.Pairwise.map _ (λa b hab e=>hab (Im e).2) ((h e bQ).filter _),wT λe' he'=>h e' (bN _ he'),λa ha b hb e=>?_⟩;subst e;obtain⟨g,_,rfl⟩:=dh ha;obtain⟨i,_,_,h2,_⟩:=nA.mp hb;simp only at h2;omega
theorem qa {f:Nat->Nat->Bool}:∀{q:Nat} {es:af},(bO f q es).length<=es.flatten.length
 | q,[]=>by simp[bO]
 | q,e::es=>by
  have:=qa (f:=f) (q:=q+1) (es:=es);have:=GJ (f q) e;rw[bO,List.flatten_cons,GG,GG,Gx];omega
theorem sv {f:Nat->Nat->Bool}(e:am):∀{q:Nat} {es:af},bO f q (es++[e])=bO f q es++(e.filter (f (q+es.length))).map λg=>(q+es.length,g)
 | q,[]=>by simp[bO]
 | q,e'::es=>by
  rw[List.cons_append,bO,bO,sv e (q:=q+1) (es:=es),HN,show q+1+es.length=q+(e'::es).length by simp; omega]
theorem uX {f f':Nat->Nat->Bool}:∀{q:Nat} {es:af},(∀i e,es[i]? = some e->∀g∈e,f (q+i) g=f' (q+i) g)->bO f q es=bO f' q es
 | q,[],_=>rfl
 | q,e::es,h=>by
  rw[bO,bO,uX (f:=f) (f':=f') (q:=q+1) (es:=es) λi e' he g hg=>by have:=h (i+1) e' he g hg; rwa [show q+(i+1)=q+1+i by omega] at this];congr 2
  exact HR λg hg=>h 0 e rfl g hg
section
variable {G:Pg}{cl:Nat->ax->Run}{io:am}{a:Fr}{ss:az}{N:Fr->Prop}{V:D->Prop}{X:Nat->List aJ->Fr->Prop}
def Ou.each {α:Type}(e:α->D)(l:List α){tg:Tg}{wk:Wk}{it:aG}{b:az}{vs:ax}(I:List α->Fr->Prop)(h:evals G cl a.sl it=.ok vs)(hw:c7 wk vs=some (l.map e))(hx:l.length<=SL)(h0:I [] (frz (wk.fz it) a))
  (step:∀pre x suf a',l=pre++x::suf->I pre a'->∃a'',(∀A,RelF A a'->∃A',bv io tg (e x) A=.nx A'/\RelF A' a'')/\Ou G cl io a'' b (I (pre++[x])) V X)(k:∀a',I l a'->Ou G cl io a' ss N V X):Ou G cl io a (.fo tg wk it b::ss) N V X:=by
 refine Ou.fo (λr a=>∃pre suf,r=suf.map e/\l=pre++suf/\I pre a) h hw (by simpa using hx) ⟨[],l,rfl,rfl,h0⟩ ?_ ?_
 .rintro x r a' ⟨pre,suf,hr,hl,hi⟩;cases suf with
  | nil=>cases hr
  | cons y suf=>
   cases hr;obtain⟨a'',h1,h2⟩:=step pre y suf a' hl hi;exact⟨a'',h1,h2.mono (λa hI=>⟨pre++[y],suf,rfl,by rw[hl]; simp,hI⟩) (λ_ h=>h) λ_ _ _ h=>h⟩
 .rintro a' ⟨pre,suf,hr,hl,hi⟩;have:suf=[]:=by simpa using hr.symm
  subst this;rw[Hn] at hl;exact k a' (hl ▸ hi)
end
theorem w4:∀a b:am,D.eqs (aL a) (aL b)=decide (a=b)
 | [],[]=>by simp[D.eqs,aL]
 | [],_::_=>by simp[D.eqs,aL]
 | _::_,[]=>by simp[D.eqs,aL]
 | x::a,y::b=>by
  have ih:=w4 a b;unfold aL at ih ⊢;rw[GA,GA,D.eqs,ih];have h:((x:Int)=y)↔x=y:=by omega
  simp[D.eq,h]
def vt (a b:am):(aM a).eq (aM b)=decide (a=b):=by simp only[aM,D.eq]; exact w4 a b
def nR (a:am):(aM a).pur 60=true:=by simp[aM,aL]
def jK (r:am)(k:Nat):aY none (some (k:Int)) (aM r)=some (0,aM (r.take k)):=by
 simp only[aM,aY,k7];simp[aL]
def Rs (cs:ab)(A B st:am)(g:Nat):Prop:=∀j:Nat,(j:Int)∈covA cs g->(g∈aQ cs j B/\pf g (aQ cs j A)=pf g (aQ cs j B))/\∀u∈pf g (aQ cs j A),u∈st
def RsV (cs:ab)(A B st:am)(g:Nat)(d:D):Prop:=(d=.non/\Rs cs A B st g)\/∃j:Nat,(j:Int)∈covA cs g/\((d=.tup [.int j,.non]/\¬(g∈aQ cs j B/\pf g (aQ cs j A)=pf g (aQ cs j B)))\/∃u∈pf g (aQ cs j A),u∉st/\d=.tup [.int j,.int u])
open Classical in
def RsV.nd {cs:ab}{A B st:am}{g:Nat}{d:D}(h:RsV cs A B st g d):dc false d=fB (decide (Rs cs A B st g)):=by
 rcases h with ⟨rfl,h⟩ | ⟨j,hj,⟨rfl,h⟩ | ⟨u,h1,h2,rfl⟩⟩
 .rw[GE h]; rfl
 .rw[GQ λz=>h (z j hj).1]; rfl
 .rw[GQ λz=>h2 ((z j hj).2 u h1)]; rfl
variable {G:Pg}(P:Pm G)
include P
open Classical in
def uu (n k k1 k2 k3 k4 p:Nat)(cs:ab)(A B st:am)(g:Nat)(C:Cv p cs)(w:Wn cs A)(hg:g∈A):∃j d,run G (n+6) 45 [(k,wd p cs),(k1,wrD (aK cs p A)),(k2,wrD (aK cs p B)),(k3,.lst (aL st)),(k4,.int g)]=.ret j d []/\RsV cs A B st g d:=by
 have q3:=oO P.v.a n 0 0 p cs g _ (Cv.at (w.lt g hg));have hS:(covA cs g).length<=SL:=bH (C.ln g) (by decide);have key:Ou G (run G (n+5)) [] [some (0,wd p cs),some (0,wrD (aK cs p A)),some (0,wrD (aK cs p B)),some (0,.lst (aL st)),some (0,.int g),none,none,none,none] lj.body (λ_=>False) (RsV cs A B st g) λ_ _ _=>False:=by
  refine Ou.each D.int (covA cs g) (λpre a=>(∃x5 x6 x7 x8,a=[some (0,wd p cs),some (0,wrD (aK cs p A)),some (0,wrD (aK cs p B)),some (0,.lst (aL st)),some (0,.int g),x5,x6,x7,x8])/\∀i∈pre,(g∈aQ cs i.toNat B/\pf g (aQ cs i.toNat A)=pf g (aQ cs i.toNat B))/\∀u∈pf g (aQ cs i.toNat A),u∈st) (vs:=[(1,.lst ((covA cs g).map .int))]) (by simp[oP P.v.a,ie,q3]) rfl hS ⟨⟨none,none,none,none,by simp⟩,by simp⟩ ?_ ?_
  .rintro pre s suf a hl ⟨⟨x5,x6,x7,x8,rfl⟩,hpre⟩;have hsc:s∈covA cs g:=by rw[hl]; simp
   have rg:=C.rg g s hsc;obtain⟨j,rfl⟩:∃j:Nat,s=(j:Int):=⟨s.toNat,by omega⟩
   have hjp:j<p:=by omega
   have ixa:=gz (cs:=cs) (O:=A) hjp;have ixb:=gz (cs:=cs) (O:=B) hjp;have hgA:=jz hg hsc;have ixe:b8 (aM (aQ cs j A)) (.int g)=some (99,.int ((aQ cs j A).idxOf g:Nat)):=by
    have sc:=j8 (aQ cs j A);rw[aM,ki,jE hgA,sc];rfl
   have tk:=xg (m:=aQ cs j B) hgA;have hlen:(pf g (aQ cs j A)).length<=SL:=by
    have h1:(aQ cs j A).length<=A.length:=GJ _ _;have h2:=w.len C;have h3:(pf g (aQ cs j A)).length<=(aQ cs j A).length:=by unfold pf; rw[G4]; omega
    have:6<=SL:=by decide
    omega
   unfold pf at *;generalize hra:aQ cs j A=ra at *;generalize hrb:aQ cs j B=rb at *;have t1:=jK ra (ra.idxOf g+1);have t2:=jK rb (ra.idxOf g+1);have t3:=jK ra (ra.idxOf g);have e1:=vt (ra.take (ra.idxOf g+1)) (rb.take (ra.idxOf g+1));have p1:=nR (ra.take (ra.idxOf g+1));have p2:=nR (rb.take (ra.idxOf g+1));have hsq:(aM (ra.take (ra.idxOf g))).seq=some ((ra.take (ra.idxOf g)).map λu:Nat=>D.int u):=rfl;rw[Int.natCast_add,Int.cast_ofNat_Int] at t1 t2;generalize wrD (aK cs p A)=WA at *;generalize wrD (aK cs p B)=WB at *;have pn:=jG st;have mb:=λu=>iS u st;generalize aL st=LS at *;refine⟨_,dW rfl,?_⟩;refine Ou.set (x:=(0,aM ra)) (by simp[-aW,ixa]) ?_;generalize aM ra=RA at *;generalize aM rb=RB at *;generalize aM (ra.take (ra.idxOf g))=RU at *;refine Ou.set (x:=(99,.int (ra.idxOf g:Nat))) (by simp[ixe]) ?_;refine Ou.low (a':=[some (0,wd p cs),some (0,WA),some (0,WB),some (0,.lst LS),some (0,.int g),some (0,.int j),some (0,RA),some (0,.int (ra.idxOf g:Nat)),x8]) (.of_eq (by simp)) ?_;by_cases hq:ra.take (ra.idxOf g+1)=rb.take (ra.idxOf g+1)
   .rw[GE hq] at e1;refine Ou.iffN (j:=99) ?_ ?_
    .generalize aM (ra.take (ra.idxOf g+1))=R1 at *;generalize aM (rb.take (ra.idxOf g+1))=R2 at *;simp[-aW,-aY,t1,t2,ixb,bI,e1,p1,p2]
    have hq':=tk.mp hq;refine Ou.each (λu:Nat=>D.int u) (ra.take (ra.idxOf g)) (λpre a=>(∃x8,a=[some (0,wd p cs),some (0,WA),some (0,WB),some (0,.lst LS),some (0,.int g),some (0,.int j),some (0,RA),some (0,.int (ra.idxOf g:Nat)),x8])/\∀u∈pre,u∈st) (vs:=[(0,RU)]) (by simp[-aY,t3]) hsq hlen ⟨⟨x8,by simp⟩,by simp⟩ ?_ ?_
    .rintro pr u su a hl2 ⟨⟨x8,rfl⟩,hpr⟩;refine⟨_,dW rfl,?_⟩;have mu:=mb u;by_cases hu:u∈st
     .refine Ou.iffN (j:=99) (by simp[-List.all_eq_true,pn,mu,hu]) (Ou.nil ⟨⟨_,rfl⟩,λv hv=>?_⟩);rcases dm hv with h | h
      .exact hpr v h
      .rw[Gz.mp h]; exact hu
     .refine Ou.iffT (j:=99) (by simp[-List.all_eq_true,pn,mu,hu]) ?_;refine Ou.ret (x:=(_,.tup [.int j,.int u])) (by simp; rfl) ?_;refine .inr ⟨j,hsc,.inr ⟨u,?_,hu,rfl⟩⟩;unfold pf;rw[hra,hl2];simp
    .rintro a ⟨⟨x8,rfl⟩,hall⟩;refine Ou.nil ⟨⟨_,_,_,_,rfl⟩,λi hi=>?_⟩;rcases dm hi with h | h
     .exact hpre i h
     .rw[Gz.mp h];rw[Int.toNat_natCast,hra,hrb];exact⟨hq',hall⟩
   .rw[GQ hq] at e1;refine Ou.iffT (j:=99) ?_ ?_
    .generalize aM (ra.take (ra.idxOf g+1))=R1 at *;generalize aM (rb.take (ra.idxOf g+1))=R2 at *;simp[-aW,-aY,t1,t2,ixb,bI,e1,p1,p2]
    .refine Ou.ret (x:=(_,.tup [.int j,.non])) (by simp; rfl) ?_;refine .inr ⟨j,hsc,.inl ⟨rfl,λz=>hq (tk.mpr ?_)⟩⟩;unfold pf at z
     rwa [hra,hrb] at z
  .rintro a ⟨⟨x5,x6,x7,x8,rfl⟩,hall⟩;refine Ou.ret (x:=(99,.non)) (by simp) ?_;exact .inl ⟨rfl,λj hj=>by simpa using hall j hj⟩
 obtain⟨j,d,e,h⟩:=Ou.run (n:=n+5) (vs:=[(k,wd p cs),(k1,wrD (aK cs p A)),(k2,wrD (aK cs p B)),(k3,.lst (aL st)),(k4,.int g)]) (V:=RsV cs A B st g) P.f45 rfl rfl (key.mono (λ_ h=>h.elim) (λ_ h=>h) λ_ _ _ h=>h);exact⟨j,d,e,h⟩
end Ip
end
section
namespace Ip
open PySem (Str)
open Classical
noncomputable def tp (cs:ab)(O:am):am:=if h:∃es,Topo cs O es then choose h else []
def i8 {cs:ab}{O:am}(h:O.Nodup):Topo cs O (tp cs O):=by
 have:=vT (cs:=cs) O.length O rfl h;unfold tp;rw[dif_pos this];exact choose_spec this
def ly {cs:ab}{O:am}(h:O.Nodup)(g:Nat):g∈tp cs O↔g∈O:=(i8 h).perm.mem_iff.symm
def wU {cs:ab}{O:am}(h:O.Nodup):(tp cs O).Nodup:=(i8 h).perm.nodup_iff.mp h
noncomputable def sy (cs:ab)(Z Z':af)(q g:Nat):Bool:=decide (Sy cs (Z.getD q []) (Z'.getD q []) g)
def yk {cs:ab}{A B pre suf:am}{g:Nat}(h:A.Nodup)(e:tp cs A=pre++g::suf):Rs cs A B (pre.filter λg=>decide (Sy cs A B g)) g↔Sy cs A B g:=by
 have hg:g∈A:=(ly (cs:=cs) h g).mp (by rw[e]; simp);constructor
 .intro r;exact .mk hg (λj hj=>(r j hj).1) λj hj u hu=>Hl (GB.mp ((r j hj).2 u hu)).2
 .intro s;cases s with
  | mk _ h1 h2=>
   refine λj hj=>⟨h1 j hj,λu hu=>GB.mpr ⟨?_,GE (h2 j hj u hu)⟩⟩
   have nd:=wU (cs:=cs) h;rw[<-(i8 (cs:=cs) h).rows j,e,wP _ hj] at hu
   .exact (GB.mp hu).1
   .rw[e] at nd;exact λz=>(GK.mp nd).2.2 g z g (by simp) rfl
noncomputable def pairD (x:Nat×Nat):D:=.tup [.int x.1,.int x.2]
def nL {n x:Nat}{pre suf:am}(h:List.range' 0 n=pre++x::suf):x=pre.length/\x<n:=by
 have h1:=congrArg (λl=>l[pre.length]?) h;have hl:=congrArg List.length h;simp only[IL,GG,List.length_cons] at hl;simp only[Il (Js _),Nat.sub_self,List.getElem?_cons_zero] at h1;rw[List.getElem?_range' (by omega)] at h1;simp at h1;omega
def ue {Z:af}{i:Nat}(h:i<Z.length):Z.take (i+1)=Z.take i++[Z.getD i []]:=by
 rw[List.take_succ,Gy,Gw h];rfl
variable {G:Pg}(P:Pm G)
include P
def uE (n k k1 k2 p:Nat)(cs:ab)(A B:am)(C:Cv p cs)(ok:∀c∈cs,OkC p c)(w:Wn cs A):∃j,run G (n+9) 46 [(k,wd p cs),(k1,wrD (aK cs p A)),(k2,wrD (aK cs p B))]=.ret j (.lst (aL ((tp cs A).filter λg=>decide (Sy cs A B g)))) []:=by
 obtain⟨jo,qo,_⟩:=Dc P n 0 0 p cs A (tp cs A) C.p6 C.m6 ok w.nd w.lt (i8 w.nd);have hl:(tp cs A).length<=SL:=by
  rw[<-(i8 (cs:=cs) w.nd).perm.length_eq];exact bH (w.len C) (by decide)
 have h6:(tp cs A).length<=6:=by
  rw[<-(i8 (cs:=cs) w.nd).perm.length_eq];exact w.len C
 have h7:7<=SL:=by decide
 have key:Ou G (run G (n+8)) [] [some (0,wd p cs),some (0,wrD (aK cs p A)),some (0,wrD (aK cs p B)),none,none] lP.body (λ_=>False) (λd=>d=.lst (aL ((tp cs A).filter λg=>decide (Sy cs A B g)))) λ_ _ _=>False:=by
  refine Ou.setK (x:=(99,.lst [])) (by simp) (by simp) ?_;refine Ou.low (a':=[some (0,wd p cs),some (0,wrD (aK cs p A)),some (0,wrD (aK cs p B)),some (1,.lst []),none]) (.cons (.refl _) (.cons (.refl _) (.cons (.refl _) (.cons ⟨rfl,by decide⟩ (.refl _))))) ?_;refine Ou.each (λu:Nat=>D.int u) (tp cs A) (λpre a=>∃x4,a=[some (0,wd p cs),some (0,wrD (aK cs p A)),some (0,wrD (aK cs p B)),some (1,.lst (aL (pre.filter λg=>decide (Sy cs A B g)))),x4]) (vs:=[(0,.lst (aL (tp cs A)))]) (by simp[P.f39,mw,qo,d6]) rfl hl ⟨none,by simp[aL]⟩ ?_ ?_
  .rintro pre g suf a he ⟨x4,rfl⟩;have hg:g∈A:=(ly (cs:=cs) w.nd g).mp (by rw[he]; simp);obtain⟨jr,d,qr,hr⟩:=uu P (n+2) 0 0 0 0 0 p cs A B (pre.filter λg=>decide (Sy cs A B g)) g C w hg;have hlp:(pre.filter λg=>decide (Sy cs A B g)).length<SL:=by
    have h1:=GJ (λg=>decide (Sy cs A B g)) pre;rw[he] at h6;simp at h6;omega
   refine⟨_,dW rfl,?_⟩;refine Ou.low (a':=[some (0,wd p cs),some (0,wrD (aK cs p A)),some (0,wrD (aK cs p B)),some (1,.lst (aL (pre.filter λg=>decide (Sy cs A B g)))),some (0,.int g)]) (.of_eq rfl) ?_;have e2:∀b:Bool,decide (Sy cs A B g)=b->aL ((pre++[g]).filter λg=>decide (Sy cs A B g))=if b then aL (pre.filter λg=>decide (Sy cs A B g))++[.int g] else aL (pre.filter λg=>decide (Sy cs A B g)):=λb hb=>by
    rw[Hw,HG,hb];cases b <;> simp[aL]
   have hr:dc false d=fB (decide (Sy cs A B g)):=by
    rw[hr.nd];congr 1
    exact Ix.mpr (yk w.nd he)
   rw[<-fw] at hlp;clear qo;generalize wrD (aK cs p A)=WA at qr ⊢;generalize wrD (aK cs p B)=WB at qr ⊢;generalize aL (pre.filter λg=>decide (Sy cs A B g))=LS at qr hlp e2 ⊢;cases hb:decide (Sy cs A B g) with
   | true=>
    rw[hb] at hr;refine Ou.iffT (j:=99) (by simp[-dc,P.f45,lj,qr,hr]) ?_;refine Ou.append (k:=0) (xs:=LS) (v:=(0,.int g)) (by simp[frz,frz1]) (by simp) hlp (Ou.nil (Ou.nil ⟨some (0,.int g),?_⟩));rw[e2 true hb];simp[frz,frz1]
   | false=>
    rw[hb] at hr;refine Ou.iffN (j:=99) (by simp[-dc,P.f45,lj,qr,hr]) (Ou.nil ⟨some (0,.int g),?_⟩);rw[e2 false hb];rfl
  .rintro a ⟨x4,rfl⟩;exact Ou.ret (x:=(0,.lst (aL ((tp cs A).filter λg=>decide (Sy cs A B g))))) (by simp) rfl
 obtain⟨j,d,e,rfl⟩:=Ou.run (n:=n+8) (vs:=[(k,wd p cs),(k1,wrD (aK cs p A)),(k2,wrD (aK cs p B))]) (V:=λd=>d=.lst (aL ((tp cs A).filter λg=>decide (Sy cs A B g)))) P.f46 rfl rfl (key.mono (λ_ h=>h.elim) (λ_ h=>h) λ_ _ _ h=>h);exact⟨j,e⟩
end Ip
end
section
namespace Ip
open PySem (Str)
open Classical
theorem gq:∀{es:af},(∀e∈es,e.length<=6)->es.flatten.length<=6 * es.length
 | [],_=>bC _
 | e::es,h=>by
  have ih:=gq λx hx=>h x (bN _ hx);have:=h e bQ;rw[List.flatten_cons,GG,List.length_cons];omega
noncomputable def cV (cs:ab)(Z Z':af):ak:=bO (sy cs Z Z') 0 (Z.map (tp cs))
noncomputable def bV (cs:ab)(Z Z':af):ay:=L2.da .non (L2.ef ((cV cs Z Z').map λx=>((x.1:Int),(x.2:Int)))) ((cV cs Z Z').map pairD)
theorem vw:∀xs:ak,fJ (xs.map pairD)=some (xs.map λx=>((x.1:Int),(x.2:Int)))
 | []=>rfl
 | x::xs=>by
  rw[GA,fJ,vw xs];rfl
open PySem PySem.Spec PySem.W PyProof.Rows in
def qt {α:Type}{d:α}{c:Nat->Nat->Bool}(xs:List α):(L2.da d c xs).Perm xs:=by
 unfold L2.da;split
 .exact .refl _
 .have p:L2.Pm xs.length (L2.eR c (kas_sort xs.length)):=(L2.l9 (by omega)).post;have q:(L2.eR c (kas_sort xs.length)).toList.Perm (List.range xs.length):=by simpa using p.toList
  have e:(List.range xs.length).map (λi=>xs.getD i d)=xs:=by
   refine List.ext_getElem (by simp) λi h1 h2=>?_;simp[h2]
  have:=q.map λi=>xs.getD i d
  rwa [e] at this
def qH (x y:Nat×Nat):(pairD x).eq (pairD y)=true↔x=y:=by
 obtain⟨a,b⟩:=x;obtain⟨c,d⟩:=y;have h1:((a:Int)=c)↔a=c:=by omega
 have h2:((b:Int)=d)↔b=d:=by omega
 simp[pairD,D.eq,D.eqs,h1,h2]
def yt {α:Type}(f:α->D)(hf:∀x y,(f x).eq (f y)=true↔x=y)(x:α)(xs:List α):D.memb (f x) (xs.map f)=true↔x∈xs:=by
 simp only[D.memb,List.any_map,Jp,Function.comp,hf];exact⟨λ⟨y,h1,h2⟩=>h2 ▸ h1,λh=>⟨x,h,rfl⟩⟩
section
variable {p:Nat}{cs:ab}{Z Z':af}
def tq (s:Sg cs Z)(q g:Nat):(q,g)∈cV cs Z Z'↔sy cs Z Z' q g=true:=by
 rw[cV,nA];constructor
 .rintro⟨i,e,_,h2,_,h4⟩;exact h4
 .intro h;have hg:=(Hl (show decide (Sy cs (Z.getD q []) (Z'.getD q []) g)=true from h)).lf;by_cases hq:q<Z.length
  .rw[Gy,Gw hq] at hg;exact⟨q,tp cs Z[q],by simp[hq],by simp,(ly (s.wn (G5 hq)).nd g).mpr hg,h⟩
  .rw[Gy,G0 (by omega)] at hg;cases hg
def sW (s:Sg cs Z)(q g:Nat):D.memb (pairD (q,g)) (bV cs Z Z')=sy cs Z Z' q g:=by
 have e:D.memb (pairD (q,g)) (bV cs Z Z')=D.memb (pairD (q,g)) ((cV cs Z Z').map pairD):=(qt _).any_eq;rw[e,Ig,yt pairD qH,tq s]
def qL:(bV cs Z Z').all (D.pur 60)=true:=by
 have e:(bV cs Z Z').all (D.pur 60)=((cV cs Z Z').map pairD).all (D.pur 60):=(qt _).all_eq;rw[e];simp[pairD]
def tJ (C:Cv p cs)(s:Sg cs Z)(hl:Z.length<=3)(f:Nat->Nat->Bool)(q i:Nat):(bO f q ((Z.take i).map (tp cs))).length<=18:=by
 have h1:=qa (f:=f) (q:=q) (es:=(Z.take i).map (tp cs));have h2:=gq (es:=(Z.take i).map (tp cs)) λe he=>by
  obtain⟨O,hO,rfl⟩:=dh he;have w:=s.wn (List.mem_of_mem_take hO);rw[<-(i8 (cs:=cs) w.nd).perm.length_eq];exact w.len C
 rw[Gx,G4] at h2;omega
end
variable {G:Pg}(P:Pm G)
include P
def wv (n k k1 k2 p:Nat)(cs:ab)(Z Z':af)(C:Cv p cs)(ok:∀c∈cs,OkC p c)(s:Sg cs Z)(hl:Z.length<=3)(hz:Z'.length=Z.length):run G (n+10) 47 [(k,wd p cs),(k1,aR p cs Z),(k2,aR p cs Z')]=.ret 1 (.lst (bV cs Z Z')) []:=by
 have h100:100<=SL:=by decide
 have key:Ou G (run G (n+9)) [] [some (0,wd p cs),some (0,aR p cs Z),some (0,aR p cs Z'),none,none,none,none] jq.body.dropLast (λa=>∃x,eval G (run G (n+9)) a.sl (.op .srt [(.var 3)])=.ok x/\x=(1,.lst (bV cs Z Z'))) (λ_=>False) λ_ _ _=>False:=by
  refine Ou.setK (x:=(99,.lst [])) (by simp) (by simp) ?_;refine Ou.low (a':=[some (0,wd p cs),some (0,aR p cs Z),some (0,aR p cs Z'),some (1,.lst []),none,none,none]) (.cons (.refl _) (.cons (.refl _) (.cons (.refl _) (.cons ⟨rfl,by decide⟩ (.refl _))))) ?_;refine Ou.each (λn:Nat=>D.tup [.int n,wrD (aK cs p (Z.getD n []))]) (List.range' 0 Z.length) (λpre a=>∃x4 x5 x6,a=[some (0,wd p cs),some (0,aR p cs Z),some (0,aR p cs Z'),some (1,.lst ((bO (sy cs Z Z') 0 ((Z.take pre.length).map (tp cs))).map pairD)),x4,x5,x6]) (vs:=[(0,aR p cs Z)]) rfl (vI p cs Z) (by simp; omega) ⟨none,none,none,rfl⟩ ?_ ?_
  .rintro pre q suf a he ⟨x4,x5,x6,rfl⟩;obtain⟨hq,hqZ⟩:=nL he;rw[GG,List.length_singleton,<-hq];have w:Wn cs (Z.getD q []):=by
    rw[Gy,Gw hqZ];exact s.wn (G5 hqZ)
   have ix:=gP (p:=p) (cs:=cs) (Z:=Z') (i:=q) (O:=Z'.getD q []) (by rw[Gy,Gw (by omega)]; rfl);obtain⟨js,qs⟩:=uE P n 0 0 0 p cs (Z.getD q []) (Z'.getD q []) C ok w;have hL:=tJ C s hl (sy cs Z Z') 0 q;have hI:((tp cs (Z.getD q [])).filter (sy cs Z Z' q)).length<=6:=by
    refine bH (GJ _ _) ?_;rw[<-(i8 (cs:=cs) w.nd).perm.length_eq];exact w.len C
   have e1:bO (sy cs Z Z') 0 ((Z.take (q+1)).map (tp cs))=bO (sy cs Z Z') 0 ((Z.take q).map (tp cs))++((tp cs (Z.getD q [])).filter (sy cs Z Z' q)).map λg=>(q,g):=by
    have:=sv (f:=sy cs Z Z') (tp cs (Z.getD q [])) (q:=0) (es:=(Z.take q).map (tp cs));rw[ue hqZ,HA];rw[show 0+((Z.take q).map (tp cs)).length=q by simp; omega] at this;exact this
   have qs:run G (n+9) 46 [(0,wd p cs),(0,wrD (aK cs p (Z.getD q []))),(0,wrD (aK cs p (Z'.getD q [])))]=.ret js (.lst (aL ((tp cs (Z.getD q [])).filter (sy cs Z Z' q)))) []:=qs;rw[e1];rw[<-Gx (as:=bO (sy cs Z Z') 0 ((Z.take q).map (tp cs))) pairD] at hL;rw[HA];generalize (bO (sy cs Z Z') 0 ((Z.take q).map (tp cs))).map pairD=L0 at hL ⊢;generalize (tp cs (Z.getD q [])).filter (sy cs Z Z' q)=gs at hI qs ⊢;generalize wrD (aK cs p (Z.getD q []))=WA at qs ⊢;generalize wrD (aK cs p (Z'.getD q []))=WB at qs ix;generalize aR p cs Z=SA;generalize aR p cs Z'=SB at ix ⊢;refine⟨_,lY rfl,?_⟩;refine Ou.each (λu:Nat=>D.int u) gs (λpre a=>∃x6,a=[some (0,wd p cs),some (0,SA),some (0,SB),some (1,.lst (L0++(pre.map λg=>(q,g)).map pairD)),some (0,.int q),some (0,WA),x6]) (vs:=[(js,.lst (aL gs))]) (by simp[-aW,bD,ix,P.f46,lP,qs]) rfl (by omega) ⟨x6,by simp[bD]⟩ ?_ ?_
   .rintro pr g su a he2 ⟨x6,rfl⟩;rw[he2] at hI;simp only[GG,List.length_cons] at hI;refine⟨_,dW rfl,?_⟩;refine Ou.append (k:=0) (xs:=L0++(pr.map λg=>(q,g)).map pairD) (v:=(bf [(0,.int q),(0,.int g)]+1,pairD (q,g))) (by simp[frz,frz1]) (by simp[pairD]) (by simp; omega) (Ou.nil ⟨some (0,.int g),?_⟩);simp[frz,frz1]
   .rintro a ⟨x6,rfl⟩;exact Ou.nil ⟨_,_,_,rfl⟩
  .rintro a ⟨x4,x5,x6,rfl⟩;rw[IL,Jq];have hL:=tJ C s hl (sy cs Z Z') 0 Z.length;rw[Jq] at hL;have hm:=vw (cV cs Z Z');show Ou G (run G (n+9)) [] [some (0,wd p cs),some (0,aR p cs Z),some (0,aR p cs Z'),some (1,.lst ((cV cs Z Z').map pairD)),x4,x5,x6] _ _ _ _;have hlt:(cV cs Z Z').length<64:=by unfold cV; omega
   refine Ou.nil ⟨_,?_,rfl⟩;unfold bV;generalize cV cs Z Z'=prs at hm hlt ⊢;simp[gH,hm,hlt]
 obtain⟨x,e,rfl⟩:=Ou.runE (G:=G) (n:=n+9) (f:=47) (F:=jq) (vs:=[(k,wd p cs),(k1,aR p cs Z),(k2,aR p cs Z')]) (init:=jq.body.dropLast) (e:=.op .srt [(.var 3)]) (P:=λx=>x=(1,.lst (bV cs Z Z'))) P.f47 rfl rfl rfl (λ_ h=>nomatch h) key;exact e
end Ip
end
section
namespace Ip
open PySem (Str)
open PySem PySem.W PyProof.Rows in
section
noncomputable def kD (n:Nat):Nat->af
 | 0=>[[]]
 | k+1=>(kD n k).flatMap λl=>((List.range n).filter λx=>!l.contains x).map (·::l)
theorem tE {n:Nat}:∀{l:am},l.Nodup->(∀x∈l,x<n)->l∈kD n l.length
 | [],_,_=>by simp[kD]
 | x::l,h,k=>by
  obtain⟨h1,h2⟩:=GP.mp h;have ih:=tE h2 λy hy=>k y (bN _ hy);rw[List.length_cons,kD,List.mem_flatMap];refine⟨l,ih,IQ.mpr ⟨x,GB.mpr ⟨GS.mpr (k x bQ),by simpa using h1⟩,rfl⟩⟩
noncomputable def FL (n:Nat)(π:am):Bool:=((L2.eR (λi j=>Nat.blt (π.getD i 0) (π.getD j 0)) (kas_sort n)).toList.map λi=>π.getD i 0) == List.range n
theorem yC:((List.range 5).all λn=>(kD (n+2) (n+2)).all (FL (n+2)))=true:=by kernel_rfl
theorem uL {α:Type}{N:Nat}{Q:α->Prop}{c c':Nat->Nat->Bool}(h:∀i j,i<N->j<N->c i j=c' i j):∀{t:KasT α},L2.KOk N Q t->L2.eR c t=L2.eR c' t
 | .ret _,_=>rfl
 | .ask i j k,o=>by
  show L2.eR c (k (c i j))=L2.eR c' (k (c' i j));rw[h i j o.1 o.2.1];exact uL h (o.2.2 _)
def tH {α:Type}{p q:α->Bool}{l:List α}{x:α}(h:∀z,p z=true->q z=true)(hx:x∈l)(h1:q x=true)(h2:p x=false):l.countP p<l.countP q:=by
 obtain⟨A,B,rfl⟩:=H0 hx;have a:=List.countP_mono_left (l:=A) λz _=>h z;have b:=List.countP_mono_left (l:=B) λz _=>h z;rw[JG,JG,List.countP_cons,List.countP_cons,h1,h2];simp;omega
noncomputable def ltN (x y:Nat×Nat):Bool:=L2.mR (x.1,x.2) (y.1,y.2)
def fh {x y:Nat×Nat}:ltN x y=true↔x.1<y.1\/x.1=y.1/\x.2<y.2:=by
 unfold ltN L2.mR;rw[GV];simp only;omega
noncomputable def rk (ks:ak)(x:Nat×Nat):Nat:=ks.countP λy=>ltN y x
def o9 {ks:ak}{x y:Nat×Nat}(hx:x∈ks)(h:ltN x y=true):rk ks x<rk ks y:=by
 refine tH (λz hz=>?_) hx h ?_
 .have h:=fh.mp h;have hz:=fh.mp hz;exact fh.mpr (by omega)
 .rw[Ik];intro z;have:=fh.mp z;omega
def vh (x y:Nat×Nat):ltN x y=true\/x=y\/ltN y x=true:=by
 obtain⟨a,b⟩:=x;obtain⟨c,d⟩:=y;rw[fh,fh,Hr];simp only;omega
def F8 {ks:ak}{x y:Nat×Nat}(hx:x∈ks)(hy:y∈ks):Nat.blt (rk ks x) (rk ks y)=ltN x y:=by
 rw[Ig,Nat.blt_eq];refine⟨λh=>?_,o9 hx⟩;rcases vh x y with z | z | z
 .exact z
 .rw[z] at h; omega
 .have:=o9 hy z; omega
def tK {ks:ak}{x y:Nat×Nat}(hx:x∈ks)(hy:y∈ks)(h:rk ks x=rk ks y):x=y:=by
 rcases vh x y with z | z | z
 .have:=o9 hx z; omega
 .exact z
 .have:=o9 hy z; omega
def y2 {ks:ak}{x:Nat×Nat}(hx:x∈ks):rk ks x<ks.length:=by
 have:=tH (p:=λy=>ltN y x) (q:=λ_=>true) (l:=ks) (λ_ _=>rfl) hx rfl (by
  rw[Ik];intro z;have:=fh.mp z;omega)
 rw[List.countP_true] at this;exact this
noncomputable def gg (ks:ak):ak:=L2.da (0,0) (L2.ef (ks.map λx=>((x.1:Int),(x.2:Int)))) ks
def CJ {ks:ak}(nd:ks.Nodup)(h6:ks.length<=6):(gg ks).map (rk ks)=List.range ks.length:=by
 unfold gg L2.da;split
 .match ks,nd with
  | [],_=>rfl
  | [x],_=>
   have:ltN x x=false:=by
    rw[Ik];intro z;have:=fh.mp z;omega
   simp[rk,this]
  | x::y::ks,_=>rename_i h; simp at h; omega
 .rename_i h2;have hN:0<ks.length:=by omega
  have getK:∀i (hi:i<ks.length),ks.getD i (0,0)=ks[i]:=λi hi=>by rw[Gy,Gw hi]; rfl
  have getR:∀i (hi:i<ks.length),(ks.map (rk ks)).getD i 0=rk ks ks[i]:=λi hi=>by rw[Gy,GD,Gw hi]; rfl
  have cc:∀i j,i<ks.length->j<ks.length->L2.ef (ks.map λx=>((x.1:Int),(x.2:Int))) i j=Nat.blt ((ks.map (rk ks)).getD i 0) ((ks.map (rk ks)).getD j 0):=λi j hi hj=>by
   rw[getR i hi,getR j hj,F8 (G5 hi) (G5 hj)];unfold L2.ef ltN;rw[Gy,GD,Gw hi,Gy,GD,Gw hj];rfl
  have key:=dR yC (ks.length - 2) (GS.mpr (by omega));rw[show ks.length - 2+2=ks.length by omega] at key;have mem:ks.map (rk ks)∈kD ks.length ks.length:=by
   have:=tE (n:=ks.length) (l:=ks.map (rk ks)) (Jb.mpr (nd.imp_of_mem λhx hy hne e=>hne (tK hx hy e))) λx hx=>by
    obtain⟨y,hy,rfl⟩:=dh hx;exact y2 hy
   rwa [Gx] at this
  have key:=dR key _ mem;have key:((L2.eR (λi j=>Nat.blt ((ks.map (rk ks)).getD i 0) ((ks.map (rk ks)).getD j 0)) (kas_sort ks.length)).toList.map λi=>(ks.map (rk ks)).getD i 0)=List.range ks.length:=eq_of_beq key;rw[uL cc (L2.l9 hN),Je,<-key];refine ID λi hi=>?_;have hi:=L2.pT hN i hi;rw[Function.comp,getK i hi,getR i hi]
def yS (cs:ab)(Z Z':af):bV cs Z Z'=(gg (cV cs Z Z')).map pairD:=by
 unfold bV gg;generalize cV cs Z Z'=ks;unfold L2.da;rw[Gx];split
 .rfl
 .rename_i h;rw[Je];refine ID λi hi=>?_;have hi:=L2.pT (by omega) i hi;simp[hi]
end
end Ip
end
section
namespace Ip
open PySem (Str)
variable {G:Pg}(P:Pm G)
include P
def xl (n k k1 k2 p:Nat)(cs:ab)(Z:af)(cells:ao)(C:Cv p cs)(s:Sg cs Z)(hl:1<=Z.length/\Z.length<=3)(hc:cells.length<=63) :
  ∃j xs Z',run G (n+3) 118 [(k,.lst (cells.map .int)),(k1,aR p cs Z),(k2,aO cs)]=.ret j (.tup [.lst (xs.map dD),aR p cs Z']) []/\Wy cs xs Z Z'/\xs.length<=63:=by
 have h100:100<=SL:=by decide
 have key:Ou G (run G (n+2)) [] [some (0,.lst (cells.map .int)),some (0,aR p cs Z),some (0,aO cs),none,none,none] mh.body (λ_=>False) (λd=>∃xs Z',d=.tup [.lst (xs.map dD),aR p cs Z']/\Wy cs xs Z Z'/\xs.length<=63) λ_ _ _=>False:=by
  refine Ou.setK (x:=(99,.lst [])) (by simp) (by simp) ?_;refine Ou.low (a':=[some (0,.lst (cells.map .int)),some (0,aR p cs Z),some (0,aO cs),some (1,.lst []),none,none]) (.cons (.refl _) (.cons (.refl _) (.cons (.refl _) (.cons ⟨rfl,by decide⟩ (.refl _))))) ?_;refine Ou.each D.int cells (λpre a=>∃x4 x5 xs U,a=[some (0,.lst (cells.map .int)),some (0,aR p cs U),some (0,aO cs),some (1,.lst (xs.map dD)),x4,x5]/\Wy cs xs Z U/\xs.length<=pre.length) (vs:=[(0,.lst (cells.map .int))]) (by simp) rfl (by omega) ⟨none,none,[],Z,by simp,.nil,bC _⟩ ?_ ?_
  .rintro pre c suf a he ⟨x4,x5,xs,U,rfl,hw,hx⟩;have hL:=congrArg List.length he;simp at hL;obtain⟨sU,lU,_⟩:=hw.good s;obtain⟨jd,d,qd,hd⟩:=Fa P n 0 0 0 p c cs U C sU (by omega);refine⟨_,dW rfl,?_⟩;refine Ou.set (x:=(jd,d)) (by simp[P.f116,nU,qd]) ?_;refine Ou.low (a':=[some (0,.lst (cells.map .int)),some (0,aR p cs U),some (0,aO cs),some (1,.lst (xs.map dD)),some (0,.int c),some (0,d)]) (.of_eq (by simp)) ?_;rcases hd with rfl | ⟨U',hD⟩
   .exact Ou.iffN (j:=99) (by simp) (Ou.nil ⟨_,_,xs,U,rfl,hw,by simp; omega⟩)
   .obtain⟨j7,q7⟩:=CU P (n+1) 0 0 0 p cs U U' d C sU (by omega) hD;have hN:dc true d=fB true:=by cases hD <;> rfl
    obtain⟨x,rfl,hw'⟩:=hw.snoc hD;refine Ou.iffT (j:=99) (by simp[-dc,hN]) ?_;refine Ou.append (k:=0) (xs:=xs.map dD) (v:=(0,dD x)) (by simp[frz,frz1]) (by simp) (by simp; omega) ?_;refine Ou.set (x:=(j7,aR p cs U')) (by simp[frz,frz1,P.f117,oE,q7]) (Ou.nil (Ou.nil ⟨some (0,.int c),some (0,dD x),xs++[x],U',?_,hw',by simp; omega⟩));simp[frz,frz1]
  .rintro a ⟨x4,x5,xs,U,rfl,hw,hx⟩;exact Ou.retE (d:=.tup [.lst (xs.map dD),aR p cs U]) ⟨_,by simp; rfl⟩ ⟨xs,U,rfl,hw,by omega⟩
 obtain⟨j,d,e,xs,Z',rfl,h1,h2⟩:=Ou.run (n:=n+2) (vs:=[(k,.lst (cells.map .int)),(k1,aR p cs Z),(k2,aO cs)]) (V:=λd=>∃xs Z',d=.tup [.lst (xs.map dD),aR p cs Z']/\Wy cs xs Z Z'/\xs.length<=63) P.f118 rfl rfl (key.mono (λ_ h=>h.elim) (λ_ h=>h) λ_ _ _ h=>h);exact⟨j,xs,Z',e,h1,h2⟩
end Ip
end
section
namespace Ip
open PySem (Str)
open Classical
def Fu {L:ak}(h:L.Pairwise λx y=>ltN x y=true):L.map (rk L)=List.range L.length:=by
 refine List.ext_getElem (by simp) λi h1 h2=>?_;rw[List.getElem_map,List.getElem_range];have hi:i<L.length:=by simpa using h1
 have e:L=L.take i++L[i]::L.drop (i+1):=by rw[<-GW hi,Hv]
 have h':=h;rw[e] at h';obtain⟨_,p2,p3⟩:=List.pairwise_append.mp h';have p4:=(JE.mp p2).1;have c1:(L.take i).countP (λy=>ltN y L[i])=i:=by
  rw[List.countP_eq_length.mpr λy hy=>p3 y hy _ G8,G4];omega
 have as:∀{x y:Nat×Nat},ltN x y=true->ltN y x=false:=λhx=>by
  rw[Ik];intro z;have:=fh.mp z;have:=fh.mp hx;omega
 have c2:(L.drop (i+1)).countP (λy=>ltN y L[i])=0:=List.countP_eq_zero.mpr λy hy=>by rw[as (p4 y hy)]; decide
 have c3:ltN L[i] L[i]=false:=by
  rw[Ik];intro z;have:=fh.mp z;omega
 have c4:rk L L[i]=(L.take i++L[i]::L.drop (i+1)).countP λy=>ltN y L[i]:=by rw[<-e]; rfl
 rw[c4,JG,List.countP_cons,c1,c2,c3];simp
def Fh {ks L:ak}(p:ks.Perm L)(h:L.Pairwise λx y=>ltN x y=true)(h6:L.length<=6):gg ks=L:=by
 have nd:L.Nodup:=h.imp λhx e=>by
  subst e;have:=fh.mp hx;omega
 have e1:=CJ (p.nodup_iff.mpr nd) (by rw[p.length_eq]; exact h6);have e2:=Fu h;have er:rk ks=rk L:=funext λx=>p.countP_eq _;rw[er,p.length_eq,<-e2] at e1;have m1:∀x∈gg ks,x∈L:=λx hx=>p.mem_iff.mp ((qt ks).mem_iff.mp hx);have inj:∀{l l':ak},(∀x∈l,x∈L)->(∀x∈l',x∈L)->l.map (rk L)=l'.map (rk L)->l=l':=by
  intro l;induction l with
  | nil=>intro l' _ _ e; simpa using e.symm
  | cons x l ih=>
   intro l' h1 h2 e;cases l' with
   | nil=>simp at e
   | cons y l'=>
    rw[GA,GA,He] at e;rw[tK (h1 x G8) (h2 y G8) e.1,ih (λz hz=>h1 z (Hh _ hz)) (λz hz=>h2 z (Hh _ hz)) e.2]
 exact inj m1 (λ_ h=>h) e1
theorem pi {f:Nat->Nat->Bool}:∀{q:Nat} {es:af},(∀e∈es,e.Pairwise (· < ·))->(bO f q es).Pairwise λx y=>ltN x y=true
 | q,[],_=>.nil
 | q,e::es,h=>by
  rw[bO,List.pairwise_append];refine⟨Jb.mpr (((h e bQ).filter _).imp λ{x y} hx=>show ltN (q,x) (q,y)=true from fh.mpr (.inr ⟨rfl,hx⟩)),pi λe' he'=>h e' (bN _ he'),λa ha b hb=>?_⟩;obtain⟨g,_,rfl⟩:=dh ha;obtain⟨i,_,_,h2,_⟩:=nA.mp hb;exact fh.mpr (.inl (by simp only; omega))
theorem t7 {f h:Nat->Nat->Bool}:∀{q:Nat} {es:af},(bO f q es).filter (λx=>h x.1 x.2)=bO (λq g=>f q g&&h q g) q es
 | q,[]=>rfl
 | q,e::es=>by
  rw[bO,bO,Hw,t7,List.filter_map,IK];congr 3
  funext g
  rw[Bool.and_comm];rfl
noncomputable def wl (Z:af):ak:=bO (λ_ _=>true) 0 (Z.map aV)
section
variable {p:Nat}{cs:ab}{Z Z':af}
def tG (f:Nat->Nat->Bool):((wl Z).filter λx=>f x.1 x.2)=bO f 0 (Z.map aV):=by
 unfold wl;rw[t7];rfl
def mQ (C:Cv p cs)(s:Sg cs Z){f:Nat->Nat->Bool}{x:Nat×Nat}:x∈bO f 0 (Z.map aV)↔∃O,Z[x.1]? = some O/\x.2∈O/\f x.1 x.2=true:=by
 rw[nA];constructor
 .rintro⟨i,e,h1,h2,h3,h4⟩;rw[GD] at h1;obtain⟨O,h5,rfl⟩:=cJ h1;rw[Nat.zero_add] at h2;exact⟨O,h2 ▸ h5,((s.wn (GH h5)).mS C _).mp h3,h4⟩
 .rintro⟨O,h1,h2,h3⟩;exact⟨x.1,aV O,by rw[GD,h1]; rfl,by simp,((s.wn (GH h1)).mS C _).mpr h2,h3⟩
def kP (C:Cv p cs)(s:Sg cs Z)(f:Nat->Nat->Bool):(bO f 0 (Z.map aV)).length<=6:=by
 have nd:(bO f 0 (Z.map aV)).Nodup:=(pi λe he=>by obtain⟨O,_,rfl⟩:=dh he; exact og O).imp λhx e=>by
  subst e;have:=fh.mp hx;omega
 have h2:((bO f 0 (Z.map aV)).map (·.2)).Nodup:=Jb.mpr (nd.imp_of_mem λ{x y} hx hy hne e=>hne (by
  obtain⟨O,h1,h2,_⟩:=(mQ C s).mp hx;obtain⟨O',k1,k2,_⟩:=(mQ C s).mp hy;have a:=uz s.nd h1 h2;have b:=uz s.nd k1 k2;rw[e,b] at a;cases x;cases y;simp only at e a;cases a;rw[e]))
 have:=gE h2 λg hg=>by
  obtain⟨x,hx,rfl⟩:=dh hg;obtain⟨O,h1,h2,_⟩:=(mQ C s).mp hx;exact s.lt _ (xk h1 h2)
 rw[Gx] at this;have:=C.m6;omega
noncomputable def bF (cs:ab)(Z Z':af):ak:=bO (sy cs Z Z') 0 (Z.map aV)
def r9 (C:Cv p cs)(s:Sg cs Z):bV cs Z Z'=(bF cs Z Z').map pairD:=by
 have pw:(bF cs Z Z').Pairwise λx y=>ltN x y=true:=pi λe he=>by obtain⟨O,_,rfl⟩:=dh he; exact og O
 have nd:(bF cs Z Z').Nodup:=pw.imp λhx e=>by
  subst e;have:=fh.mp hx;omega
 have nd2:(cV cs Z Z').Nodup:=wT λe he=>by
  obtain⟨O,hO,rfl⟩:=dh he;exact wU (s.wn hO).nd
 rw[yS,Fh ((List.perm_ext_iff_of_nodup nd2 nd).mpr λx=>?_) pw (kP C s _)];obtain⟨q,g⟩:=x;rw[tq s,bF,mQ C s];constructor
 .intro h;have hg:=(Hl (show decide (Sy cs (Z.getD q []) (Z'.getD q []) g)=true from h)).lf;rw[Gy] at hg;cases e:Z[q]? with
  | none=>rw[e] at hg; cases hg
  | some O=>rw[e] at hg; exact⟨O,rfl,hg,h⟩
 .rintro⟨_,_,_,h⟩;exact h
def xI {A B:am}{g:Nat}(h:A.Nodup)(hg:g∈A):Rs cs A B ((tp cs A).filter λg=>decide (Sy cs A B g)) g↔Sy cs A B g:=by
 constructor
 .exact λr=>.mk hg (λj hj=>(r j hj).1) λj hj u hu=>Hl (GB.mp ((r j hj).2 u hu)).2
 .intro z;cases z with
  | mk _ h1 h2=>exact λj hj=>⟨h1 j hj,λu hu=>GB.mpr ⟨(ly h u).mpr (h2 j hj u hu).lf,GE (h2 j hj u hu)⟩⟩
def RP (cs:ab)(Z Z':af)(d:D)(x:Nat×Nat):Prop:=∃O O':am,Z[x.1]? = some O/\Z'[x.1]? = some O'/\x.2∈O/\∃j:Nat,(j:Int)∈covA cs x.2/\((d=.tup [.int x.1,.int x.2,.int j,.non]/\¬(x.2∈aQ cs j O'/\pf x.2 (aQ cs j O)=pf x.2 (aQ cs j O')))\/∃u∈pf x.2 (aQ cs j O),sy cs Z Z' x.1 u=false/\d=.tup [.int x.1,.int x.2,.int j,.int u])
end
theorem Paired.snoc {α β:Type}{R:α->β->Prop}{x:α}{y:β}:∀{xs:List α} {ys:List β},PySem.Paired R xs ys->R x y->PySem.Paired R (xs++[x]) (ys++[y])
 | _,_,.nil,h=>.cons h .nil
 | _,_,.cons k t,h=>.cons k (Paired.snoc t h)
def wu {f:Nat->Nat->Bool}{Z:af}{e:am->am}{q:Nat}(h:q<Z.length):bO f 0 ((Z.take (q+1)).map e)=bO f 0 ((Z.take q).map e)++((e (Z.getD q [])).filter (f q)).map λg=>(q,g):=by
 have:=sv (f:=f) (e (Z.getD q [])) (q:=0) (es:=(Z.take q).map e);rw[ue h,HA];rw[show 0+((Z.take q).map e).length=q by simp; omega] at this;exact this
def vO {p:Nat}{cs:ab}{Z:af}(hl:Z.length<=3)(f:Nat->Nat->Bool)(i:Nat):(bO f 0 ((Z.take i).map aV)).length<=18:=by
 have h1:=qa (f:=f) (q:=0) (es:=(Z.take i).map aV);have h2:=gq (es:=(Z.take i).map aV) λe he=>by
  obtain⟨O,hO,rfl⟩:=dh he;have:=GJ (λk=>O.contains k) (List.range 6);simpa[aV] using this
 rw[Gx,G4] at h2;omega
def E4 (O:am):(aV O).length<=6:=by
 have:=GJ (λk=>O.contains k) (List.range 6);simpa[aV] using this
variable {G:Pg}(P:Pm G)
include P
def sr (n k k1 p:Nat)(cs:ab)(Z:af)(C:Cv p cs)(s:Sg cs Z)(hl:Z.length<=3):∃j,run G (n+1) 124 [(k,aR p cs Z),(k1,aO cs)]=.ret j (.lst ((wl Z).map pairD)) []:=by
 have h100:100<=SL:=by decide
 have m6:=C.m6;have lZ:gh (λxs=>some (99,D.int xs.length)) (aR p cs Z)=some (99,.int Z.length):=by simp[aR]
 have lC:gh (λxs=>some (99,D.int xs.length)) (aO cs)=some (99,.int cs.length):=by simp[aO]
 have rg:∀n:Nat,(List.range n).map (λn:Nat=>D.int n)=(List.range' 0 n).map λn:Nat=>D.int n:=λn=>by rw[Io]
 have key:Ou G (run G n) [] [some (0,aR p cs Z),some (0,aO cs),none,none,none] ls.body (λ_=>False) (λd=>d=.lst ((wl Z).map pairD)) λ_ _ _=>False:=by
  have ixs:∀(q:Nat) O,Z[q]? = some O->aW (aR p cs Z) (.int q)=some (0,wrD (aK cs p O)):=λq O h=>gP h;have ixc:∀g:Nat,g<cs.length->aW (aO cs) (.int g)=some (0,.lst ((covA cs g).map .int)):=λg h=>k8 h;generalize aR p cs Z=SA at lZ ixs ⊢;generalize aO cs=K at lC ixc ⊢;refine Ou.setK (x:=(99,.lst [])) (by simp) (by simp) ?_;refine Ou.low (a':=[some (0,SA),some (0,K),some (1,.lst []),none,none]) (.cons (.refl _) (.cons (.refl _) (.cons ⟨rfl,by decide⟩ (.refl _)))) ?_;refine Ou.each (λn:Nat=>D.int n) (List.range' 0 Z.length) (λpre a=>∃x3 x4,a=[some (0,SA),some (0,K),some (1,.lst ((bO (λ_ _=>true) 0 ((Z.take pre.length).map aV)).map pairD)),x3,x4]) (vs:=[(99,.int Z.length)]) (by simp[-gh,lZ]) (by rw[wk_rng1 (by omega),rg]) (by simp; omega) ⟨none,none,rfl⟩ ?_ ?_
  .rintro pre q suf a he ⟨x3,x4,rfl⟩;obtain⟨hq,hqZ⟩:=nL he;rw[GG,List.length_singleton,<-hq,wu hqZ,HA];have hL:=vO (p:=p) (cs:=cs) hl (λ_ _=>true) q;rw[<-Gx (as:=bO (λ_ _=>true) 0 ((Z.take q).map aV)) pairD] at hL;generalize (bO (λ_ _=>true) 0 ((Z.take q).map aV)).map pairD=L0 at hL ⊢;have hO:Z[q]? = some (Z.getD q []):=by rw[Gy,Gw hqZ]; rfl
   have w:=s.wn (GH hO);generalize Z.getD q []=O at hO w ⊢;have ix1:=ixs q O hO;have eS:aV O=(List.range' 0 cs.length).filter λg=>decide (g∈O):=by
    unfold aV;have e6:List.range 6=List.range' 0 cs.length++List.range' cs.length (6 - cs.length):=by
     rw[Io,show 6=cs.length+(6 - cs.length) by omega,<-List.range'_append_1,Nat.zero_add];congr 2
     omega
    rw[e6,Hw,List.filter_eq_nil_iff (l:=List.range' cs.length (6 - cs.length)) |>.mpr,Hn]
    .exact HR λg _=>by simp
    .intro g hg hc;have h1:=w.lt g (by simpa using hc);have h2:=List.mem_range'_1.mp hg;omega
   refine⟨_,dW rfl,?_⟩;refine Ou.each (λn:Nat=>D.int n) (List.range' 0 cs.length) (λpr a=>∃x4,a=[some (0,SA),some (0,K),some (1,.lst (L0++((pr.filter λg=>decide (g∈O)).map λg=>(q,g)).map pairD)),some (0,.int q),x4]) (vs:=[(99,.int cs.length)]) (by simp[-gh,lC]) (by rw[wk_rng1 (by omega),rg]) (by simp; omega) ⟨x4,by simp⟩ ?_ ?_
   .rintro pr g su a he2 ⟨x4,rfl⟩;obtain⟨hg0,hg⟩:=nL he2;have ix2:=ixc g hg;obtain⟨i,c,ec⟩:∃i c,covA cs g=i::c:=by
     cases e:covA cs g with
     | nil=>exact absurd e (C.ne g hg)
     | cons i c=>exact⟨i,c,rfl⟩
    have hic:i∈covA cs g:=by rw[ec]; simp
    have ri:=C.rg g i hic;obtain⟨j,rfl⟩:∃j:Nat,i=(j:Int):=⟨i.toNat,by omega⟩
    have ix3:=gz (cs:=cs) (O:=O) (show j<p by omega);rw[ec] at ix2;have ix0:aW (.lst (((j:Int)::c).map D.int)) (.int 0)=some (0,.int j):=by simp[aW,d6]
    generalize D.lst (((j:Int)::c).map D.int)=CC at ix2 ix0;generalize wrD (aK cs p O)=WA at ix1 ix3;have pn:=jG (aQ cs j O);have hsq:(aM (aQ cs j O)).seq=some (aL (aQ cs j O)):=rfl;have mf:g∈aQ cs j O↔g∈O:=⟨λh=>(GB.mp h).1,λh=>jz h hic⟩
    have mb:D.memb (.int g) (aL (aQ cs j O))=decide (g∈O):=(iS g _).trans (Ix.mpr mf);generalize aM (aQ cs j O)=RR at ix3 hsq;have hpl:=GJ (λg=>decide (g∈O)) pr;refine⟨_,dW rfl,?_⟩;have ev:∀a:Fr,a=[some (0,SA),some (0,K),some (1,.lst (L0++((pr.filter λg=>decide (g∈O)).map λg=>(q,g)).map pairD)),some (0,.int q),some (0,.int g)]->eval G (run G n) a.sl (.op .isin [(.var 4),(.op .ix [(.op .ix [(.var 0),(.var 3)]),(.op .ix [(.op .ix [(.var 1),(.var 4)]),(.cst (.int (0)))])])])=.ok (99,.bl (decide (g∈O))):=by
     rintro a rfl;simp[-aW,-List.all_eq_true,-D.seq,ix1,ix2,ix0,ix3,hsq,mb,pn]
    by_cases hb:g∈O
    .rw[GE hb] at ev;refine Ou.iffT (j:=99) (ev _ rfl) ?_;refine Ou.append (k:=0) (xs:=L0++((pr.filter λg=>decide (g∈O)).map λg=>(q,g)).map pairD) (v:=(bf [(0,.int q),(0,.int g)]+1,pairD (q,g))) (by simp[frz,frz1]) (by simp[pairD]) (by simp only[GG,Gx]; omega) (Ou.nil (Ou.nil ⟨some (0,.int g),?_⟩));simp[frz,frz1,hb]
    .rw[GQ hb] at ev;refine Ou.iffN (j:=99) (ev _ rfl) (Ou.nil ⟨some (0,.int g),?_⟩);simp[hb]
   .rintro a ⟨x4,rfl⟩;refine Ou.nil ⟨some (0,.int q),x4,?_⟩;rw[eS];simp
  .rintro a ⟨x3,x4,rfl⟩;rw[IL,Jq];exact Ou.ret (x:=(0,.lst ((wl Z).map pairD))) (by simp[wl]) rfl
 obtain⟨j,d,e,rfl⟩:=Ou.run (n:=n) (vs:=[(k,aR p cs Z),(k1,aO cs)]) (V:=λd=>d=.lst ((wl Z).map pairD)) P.f124 rfl rfl (key.mono (λ_ h=>h.elim) (λ_ h=>h) λ_ _ _ h=>h);exact⟨j,e⟩
def Bu (n k k1 k2 p:Nat)(cs:ab)(Z Z':af)(C:Cv p cs)(ok:∀c∈cs,OkC p c)(s:Sg cs Z)(hl:Z.length<=3)(hz:Z'.length=Z.length):∃j rs,run G (n+10) 48 [(k,wd p cs),(k1,aR p cs Z),(k2,aR p cs Z')]=.ret j (.lst rs) []/\PySem.Paired (RP cs Z Z') rs (bO (λq g=>!sy cs Z Z' q g) 0 (Z.map aV))/\1<=j:=by
 have h100:100<=SL:=by decide
 obtain⟨j,d,e,hj,rs,rfl,hr⟩:=Ou.runV (G:=G) (n:=n+9) (f:=48) (i:=3) (F:=mV) (vs:=[(k,wd p cs),(k1,aR p cs Z),(k2,aR p cs Z')]) (init:=mV.body.dropLast) (P:=λd=>∃rs,d=.lst rs/\PySem.Paired (RP cs Z Z') rs (bO (λq g=>!sy cs Z Z' q g) 0 (Z.map aV))) P.f48 rfl rfl rfl (by
  show Ou G (run G (n+9)) [] [some (0,wd p cs),some (0,aR p cs Z),some (0,aR p cs Z'),none,none,none,none,none,none,none] _ _ _ _;refine Ou.setK (x:=(99,.lst [])) (by simp) (by simp) ?_;refine Ou.low (a':=[some (0,wd p cs),some (0,aR p cs Z),some (0,aR p cs Z'),some (1,.lst []),none,none,none,none,none,none]) (.cons (.refl _) (.cons (.refl _) (.cons (.refl _) (.cons ⟨rfl,by decide⟩ (.refl _))))) ?_;refine Ou.each (λn:Nat=>D.tup [.int n,wrD (aK cs p (Z.getD n []))]) (List.range' 0 Z.length) (λpre a=>∃(x4 x5 x6 x7 x8 x9:aA) (rs:ay),a=[some (0,wd p cs),some (0,aR p cs Z),some (0,aR p cs Z'),some (1,.lst rs),x4,x5,x6,x7,x8,x9]/\PySem.Paired (RP cs Z Z') rs (bO (λq g=>!sy cs Z Z' q g) 0 ((Z.take pre.length).map aV))) (vs:=[(0,aR p cs Z)]) rfl (vI p cs Z) (by simp; omega) ⟨none,none,none,none,none,none,[],rfl,.nil⟩ ?_ ?_
  .rintro pre q suf a he ⟨x4,x5,x6,x7,x8,x9,rs,rfl,hrs⟩;obtain⟨hq,hqZ⟩:=nL he;rw[GG,List.length_singleton,<-hq,wu hqZ];rw[<-hq] at hrs;have hL:=vO (p:=p) (cs:=cs) hl (λq g=>!sy cs Z Z' q g) q;generalize bO (λq g=>!sy cs Z Z' q g) 0 ((Z.take q).map aV)=P0 at hrs hL ⊢;have hO:Z[q]? = some (Z.getD q []):=by rw[Gy,Gw hqZ]; rfl
   have hO':Z'[q]? = some (Z'.getD q []):=by rw[Gy,Gw (by omega)]; rfl
   have eS:sy cs Z Z' q=λg=>decide (Sy cs (Z.getD q []) (Z'.getD q []) g):=rfl;have w:=s.wn (GH hO);have ix:=gP (p:=p) (cs:=cs) hO';have hRP:∀(d:D) (g:Nat),g∈Z.getD q []->(∃j:Nat,(j:Int)∈covA cs g/\((d=.tup [.int q,.int g,.int j,.non]/\¬(g∈aQ cs j (Z'.getD q [])/\pf g (aQ cs j (Z.getD q []))=pf g (aQ cs j (Z'.getD q []))))\/∃u∈pf g (aQ cs j (Z.getD q [])),sy cs Z Z' q u=false/\d=.tup [.int q,.int g,.int j,.int u]))->RP cs Z Z' d (q,g):=λd g hg h=>⟨_,_,hO,hO',hg,h⟩
   rw[eS] at hRP;generalize Z.getD q []=O at *;generalize Z'.getD q []=O' at *;have e1:(λg=>!sy cs Z Z' q g)=λg=>!decide (Sy cs O O' g):=by rw[eS]
   rw[e1];obtain⟨js,qs⟩:=uE P n 0 0 0 p cs O O' C ok w;have q2:=uo P.v (n+8) 0 (aK cs p O) (by rw[j9]; exact C.p6) (by have:=w.fl C; omega) (w.f6 C);obtain⟨j2,q2⟩:=q2;rw[w.srt C] at q2;have qr:=λg hg=>uu P (n+3) 0 0 0 0 0 p cs O O' ((tp cs O).filter λg=>decide (Sy cs O O' g)) g C w hg;have rf:=λg hg=>xI (cs:=cs) (A:=O) (B:=O') (g:=g) w.nd hg;have hst:∀u,u∉(tp cs O).filter (λg=>decide (Sy cs O O' g))->u∈O->decide (Sy cs O O' u)=false:=λu h hu=>GQ λz=>h (GB.mpr ⟨(ly w.nd u).mpr hu,GE z⟩);generalize (tp cs O).filter (λg=>decide (Sy cs O O' g))=st at *;have sl:=E4 O;have ms:∀g∈aV O,g∈O:=λg hg=>(w.mS C g).mp hg;generalize aV O=gs at *;have hpf:∀(j:Nat) g u,u∈pf g (aQ cs j O)->u∈O:=λj g u h=>(GB.mp (zU h)).1;generalize wrD (aK cs p O)=WA at *;generalize wrD (aK cs p O')=WB at *;generalize aR p cs Z=SA at *;generalize aR p cs Z'=SB at *;refine⟨_,lY rfl,?_⟩;refine Ou.set (x:=(0,WB)) (by simp[-aW,bD,ix]) ?_;refine Ou.set (x:=(js,.lst (aL st))) (by simp[bD,P.f46,lP,qs]) ?_;refine Ou.low (a':=[some (0,wd p cs),some (0,SA),some (0,SB),some (1,.lst rs),some (0,.int q),some (0,WA),some (0,WB),some (0,.lst (aL st)),x8,x9]) (.of_eq (by simp[bD])) ?_;refine Ou.each (λu:Nat=>D.int u) gs (λpr a=>∃(x8 x9:aA) (rs:ay),a=[some (0,wd p cs),some (0,SA),some (0,SB),some (1,.lst rs),some (0,.int q),some (0,WA),some (0,WB),some (0,.lst (aL st)),x8,x9]/\PySem.Paired (RP cs Z Z') rs (P0++(pr.filter λg=>!decide (Sy cs O O' g)).map λg=>(q,g))) (vs:=[(j2,.lst (aL gs))]) (by simp[P.v.f24,iX,q2]) rfl (by omega) ⟨x8,x9,rs,by simp,by simpa using hrs⟩ ?_ ?_
   .rintro pr g su a he2 ⟨x8,x9,rs,rfl,hrs⟩;have hg:=ms g (by rw[he2]; simp);obtain⟨jr,d,qr,hr⟩:=qr g hg;have nd:=hr.nd;have ll:=hrs.length;have hfl:=GJ (λg=>!decide (Sy cs O O' g)) pr;rw[he2] at sl;simp only[GG,Gx,List.length_cons] at ll sl;refine⟨_,dW rfl,?_⟩;refine Ou.set (x:=(jr,d)) (by simp[P.f45,lj,qr]) ?_;refine Ou.low (a':=[some (0,wd p cs),some (0,SA),some (0,SB),some (1,.lst rs),some (0,.int q),some (0,WA),some (0,WB),some (0,.lst (aL st)),some (0,.int g),some (0,d)]) (.of_eq (by simp)) ?_;have app:∀(j:Nat) (y:D),(y=.non\/∃u:Nat,y=.int u)->d=.tup [.int j,y]->¬Sy cs O O' g->RP cs Z Z' (.tup [.int q,.int g,.int j,y]) (q,g)->Ou G (run G (n+9)) [] [some (0,wd p cs),some (0,SA),some (0,SB),some (1,.lst rs),some (0,.int q),some (0,WA),some (0,WB),some (0,.lst (aL st)),some (0,.int g),some (0,d)] [.iff (.op .notN [(.var 9)]) [.mut 3 [] .append [(.op .add [(.op .tup [(.var 4),(.var 8)]),(.var 9)])]] []] (λa=>∃(x8 x9:aA) (rs:ay),a=[some (0,wd p cs),some (0,SA),some (0,SB),some (1,.lst rs),some (0,.int q),some (0,WA),some (0,WB),some (0,.lst (aL st)),x8,x9]/\PySem.Paired (RP cs Z Z') rs (P0++((pr++[g]).filter λg=>!decide (Sy cs O O' g)).map λg=>(q,g))) (λ_=>False) λ_ _ _=>False:=by
     intro j y hy ed ns rp;subst ed;have ad:bI (.tup [.int q,.int g]) (.tup [.int j,y])=some (0,.tup [.int q,.int g,.int j,y]):=by
      simp only[bI];rw[if_pos (by simp; omega)];rfl
     refine Ou.iffT (j:=99) (by simp) ?_;refine Ou.append (k:=0) (xs:=rs) (v:=(0,.tup [.int q,.int g,.int j,y])) (by simp[frz,frz1]) (by simp[-bI,ad]) (by omega) (Ou.nil (Ou.nil ⟨some (0,.int g),some (0,.tup [.int j,y]),rs++[.tup [.int q,.int g,.int j,y]],by simp[frz,frz1],?_⟩));have:=Paired.snoc hrs rp;rw[Hw,HG,GQ ns];simpa using this
    rcases hr with ⟨rfl,hr⟩ | ⟨j,hj,⟨ed,h⟩ | ⟨u,h1,h2,ed⟩⟩
    .refine Ou.iffN (j:=99) (by simp) (Ou.nil ⟨some (0,.int g),some (0,.non),rs,rfl,?_⟩);rw[Hw,HG,GE ((rf g hg).mp hr)];simpa using hrs
    .exact app j .non (.inl rfl) ed (λz=>h (((rf g hg).mpr z) j hj).1) (hRP _ g hg ⟨j,hj,.inl ⟨rfl,h⟩⟩)
    .exact app j (.int u) (.inr ⟨u,rfl⟩) ed (λz=>h2 ((((rf g hg).mpr z) j hj).2 u h1)) (hRP _ g hg ⟨j,hj,.inr ⟨u,h1,hst u h2 (hpf j g u h1),rfl⟩⟩)
   .rintro a ⟨x8,x9,rs,rfl,hrs⟩;exact Ou.nil ⟨_,_,_,_,_,_,rs,rfl,hrs⟩
  .rintro a ⟨x4,x5,x6,x7,x8,x9,rs,rfl,hrs⟩;rw[IL,Jq] at hrs;exact Ou.nil ⟨0,.lst rs,by simp,rs,rfl,hrs⟩)
 exact⟨j,rs,e,hr,hj⟩
end Ip
end
section
namespace Ip
open PySem (Str)
open Classical
section
variable {p:Nat}{cs:ab}{Z Z':af}
def wp {q:Nat}{O:am}(h:Z[q]? = some O):Z.getD q []=O:=by rw[Gy,h]; rfl
def qM {q g:Nat}{O O':am}(h:Z[q]? = some O)(h':Z'[q]? = some O'):sy cs Z Z' q g=decide (Sy cs O O' g):=by rw[sy,wp h,wp h']
def ym (C:Cv p cs)(s:Sg cs Z)(hz:Z'.length=Z.length){x:Nat×Nat}(h:x∈bF cs Z Z'):∃O O',Z[x.1]? = some O/\Z'[x.1]? = some O'/\Sy cs O O' x.2:=by
 obtain⟨O,h1,_,h3⟩:=(mQ C s).mp h;have hq:=(dO h1).1;have h2:Z'[x.1]? = some Z'[x.1]:=Gw (by omega);rw[qM h1 h2] at h3;exact⟨O,_,h1,h2,Hl h3⟩
end
theorem wR:∀{ds:ay},(∀d∈ds,d.eq d=true)->D.eqs ds ds=true
 | [],_=>rfl
 | d::ds,h=>by rw[D.eqs,h d G8,wR λy hy=>h y (Hh _ hy)]; rfl
def wH (ks:ak):(D.lst (ks.map pairD)).pur 60=true/\(D.lst (ks.map pairD)).eq (.lst (ks.map pairD))=true:=by
 constructor
 .simp[pairD]
 .simp only[D.eq];refine wR λd hd=>?_;obtain⟨x,_,rfl⟩:=dh hd;exact (qH x x).mpr rfl
variable {G:Pg}(P:Pm G)
include P
def t8 (n k k1 k2 k3 k4 p q g j:Nat)(cs:ab)(Z Z':af)(O O':am)(hO:Z[q]? = some O)(hO':Z'[q]? = some O')(hg:g∈O)(hj:(j:Int)∈covA cs g)(hjp:j<p):∃i,run G (n+1) 123 [(k,aR p cs Z),(k1,aR p cs Z'),(k2,.int q),(k3,.int g),(k4,.int j)]=.ret i (.bl (decide (g∈aQ cs j O'/\pf g (aQ cs j O)=pf g (aQ cs j O')))) []:=by
 have ix1:=gP (p:=p) (cs:=cs) hO;have ix2:=gP (p:=p) (cs:=cs) hO';have ix3:=gz (cs:=cs) (O:=O) hjp;have ix4:=gz (cs:=cs) (O:=O') hjp;have hgA:=jz hg hj;have ixe:b8 (aM (aQ cs j O)) (.int g)=some (99,.int ((aQ cs j O).idxOf g:Nat)):=by
  have sc:=j8 (aQ cs j O);rw[aM,ki,jE hgA,sc];rfl
 have hd:decide (g∈aQ cs j O'/\pf g (aQ cs j O)=pf g (aQ cs j O'))=decide ((aQ cs j O).take ((aQ cs j O).idxOf g+1)=(aQ cs j O').take ((aQ cs j O).idxOf g+1)):=Ix.mpr (xg hgA).symm;rw[hd];clear hd;generalize aQ cs j O=ra at *;generalize aQ cs j O'=rb at *;have t1:=jK ra (ra.idxOf g+1);have t2:=jK rb (ra.idxOf g+1);have e1:=vt (ra.take (ra.idxOf g+1)) (rb.take (ra.idxOf g+1));have p1:=nR (ra.take (ra.idxOf g+1));have p2:=nR (rb.take (ra.idxOf g+1));rw[Int.natCast_add,Int.cast_ofNat_Int] at t1 t2;generalize aR p cs Z=SA at *;generalize aR p cs Z'=SB at *;generalize wrD (aK cs p O)=WA at *;generalize wrD (aK cs p O')=WB at *;have key:Ou G (run G n) [] [some (0,SA),some (0,SB),some (0,.int q),some (0,.int g),some (0,.int j),none,none] lQ.body (λ_=>False) (λd=>d=.bl (decide (ra.take (ra.idxOf g+1)=rb.take (ra.idxOf g+1)))) λ_ _ _=>False:=by
  refine Ou.set (x:=(0,aM ra)) (by simp[-aW,ix1,ix3]) ?_;generalize aM ra=RA at *;generalize aM rb=RB at *;refine Ou.set (x:=(99,.int ((ra.idxOf g:Nat)+1))) (by simp[ixe]) ?_;refine Ou.ret (x:=(99,.bl (decide (ra.take (ra.idxOf g+1)=rb.take (ra.idxOf g+1))))) ?_ rfl;generalize aM (ra.take (ra.idxOf g+1))=R1 at *;generalize aM (rb.take (ra.idxOf g+1))=R2 at *;simp[-aW,-aY,ix2,ix4,t1,t2,e1,p1,p2]
 obtain⟨i,d,e,rfl⟩:=Ou.run (n:=n) (vs:=[(k,SA),(k1,SB),(k2,.int q),(k3,.int g),(k4,.int j)]) (V:=λd=>d=.bl (decide (ra.take (ra.idxOf g+1)=rb.take (ra.idxOf g+1)))) P.f123 rfl rfl (key.mono (λ_ h=>h.elim) (λ_ h=>h) λ_ _ _ h=>h);exact⟨i,e⟩
def Fw (n k k1 k2 k3 p:Nat)(cs:ab)(Z Z':af)(C:Cv p cs)(s:Sg cs Z)(hl:Z.length<=3)(hz:Z'.length=Z.length):∃i,run G (n+2) 125 [(k,.lst (bV cs Z Z')),(k1,aR p cs Z),(k2,aR p cs Z'),(k3,aO cs)]=.ret i (.bl true) []:=by
 have h100:100<=SL:=by decide
 obtain⟨jw,qw⟩:=sr P n 0 0 p cs Z C s hl;have mM:=sW (cs:=cs) (Z:=Z) (Z':=Z') s;have mP:=qL (cs:=cs) (Z:=Z) (Z':=Z');have eS:=r9 (Z':=Z') C s;have pa:=wH (bF cs Z Z');have mem:∀x∈bF cs Z Z',_:=λx hx=>ym C s hz hx;have l6:=kP C s (sy cs Z Z');have wll:(wl Z).length<=SL:=by have:=kP C s (λ_ _=>true); unfold wl; omega
 have cc:bc (compF G (run G (n+1)) [none,none,some (.lst (bV cs Z Z'))] (.one 1) [(.op .isin [(.var 1),(.var 2)])] (.var 1)) ((wl Z).map pairD)=.ok ((bF cs Z Z').map λx=>(0,pairD x)):=by
  rw[<-show ((wl Z).filter λx=>sy cs Z Z' x.1 x.2)=bF cs Z Z' from tG _];refine m8 λx _=>?_;have m:=mM x.1 x.2;have pp:(pairD x).pur 60=true:=by simp[pairD]
  have e:pairD (x.1,x.2)=pairD x:=rfl;rw[e] at m;generalize pairD x=px at *;generalize bV cs Z Z'=ML at *;cases h:sy cs Z Z' x.1 x.2 with
  | false=>rw[h] at m; simp[-List.all_eq_true,compF,m,mP,pp]
  | true=>rw[h] at m; simp[-List.all_eq_true,compF,m,mP,pp]
 have ml:(bF cs Z Z').length<=SL:=by unfold bF; omega
 have ix1:∀(q:Nat) O,Z[q]? = some O->aW (aR p cs Z) (.int q)=some (0,wrD (aK cs p O)):=λq O h=>gP h;have sam:=λk k1 k2 k3 k4 q g j O O' hO hO' hg hj hjp=>t8 P n k k1 k2 k3 k4 p q g j cs Z Z' O O' hO hO' hg hj hjp;have hW:=λk x=>vC P n k x;have ixc:∀g:Nat,g<cs.length->aW (aO cs) (.int g)=some (0,.lst ((covA cs g).map .int)):=λg h=>k8 h;have mP':((bF cs Z Z').map pairD).all (D.pur 60)=true:=by rw[<-eS]; exact mP
 have mM':∀q g,D.memb (pairD (q,g)) ((bF cs Z Z').map pairD)=sy cs Z Z' q g:=λq g=>by rw[<-eS]; exact mM q g
 rw[eS] at cc ⊢;have key:Ou G (run G (n+1)) [] [some (0,.lst ((bF cs Z Z').map pairD)),some (0,aR p cs Z),some (0,aR p cs Z'),some (0,aO cs),none,none,none,none,none,none] nJ.body (λ_=>False) (λd=>d=.bl true) λ_ _ _=>False:=by
  generalize aR p cs Z=SA at *;generalize aR p cs Z'=SB at *;generalize aO cs=K at *;refine Ou.set (x:=(jw,.lst ((wl Z).map pairD))) (by simp[P.f124,ls,qw]) ?_;refine Ou.low (a':=[some (0,.lst ((bF cs Z Z').map pairD)),some (0,SA),some (0,SB),some (0,K),some (0,.lst ((wl Z).map pairD)),none,none,none,none,none]) (.of_eq (by simp)) ?_;refine Ou.iffN (j:=99) ?_ ?_
  .generalize hM:(bF cs Z Z').map pairD=M at cc pa ⊢;simp[-uf,wll,cc,pa.1,pa.2,Function.comp_def,hM]
  refine Ou.each pairD (bF cs Z Z') (λ_ a=>∃x5 x6 x7 x8 x9,a=[some (0,.lst ((bF cs Z Z').map pairD)),some (0,SA),some (0,SB),some (0,K),some (0,.lst ((wl Z).map pairD)),x5,x6,x7,x8,x9]) (vs:=[(0,.lst ((bF cs Z Z').map pairD))]) (by simp) rfl ml ⟨none,none,none,none,none,by simp⟩ ?_ ?_
  .rintro pre x suf a he ⟨x5,x6,x7,x8,x9,rfl⟩;obtain⟨O,O',hO,hO',hS⟩:=mem x (by rw[he]; simp);obtain⟨q,g⟩:=x;simp only at hO hO' hS;have hg:=hS.lf;have w:=s.wn (GH hO);have hgl:=w.lt g hg;have cT:bc (compF G (run G (n+1)) [none,none] (.one 1) [] (.call 73 [(.var 1)])) ([(q:Int),(g:Int)].map .int)=.ok ([(q:Int),(g:Int)].map λ_=>(99,.bl true)):=gU λy _=>by simp[compF,P.f73,kM,hW]
   have hs2:(pairD (q,g)).seq=some ([(q:Int),(g:Int)].map .int):=rfl;have hty:bj G (pairD (q,g)) .tuple=true:=rfl;refine⟨_,dW rfl,?_⟩;refine Ou.low (a':=[some (0,.lst ((bF cs Z Z').map pairD)),some (0,SA),some (0,SB),some (0,K),some (0,.lst ((wl Z).map pairD)),some (0,pairD (q,g)),x6,x7,x8,x9]) (.of_eq rfl) ?_;refine Ou.iffN (j:=99) ?_ ?_
   .have al:=oW (λ_=>true) [(q:Int),(g:Int)];have l2:([(q:Int),(g:Int)].map D.int).length<=SL:=by simp; omega
    generalize [(q:Int),(g:Int)].map D.int=IT at cT hs2 l2;generalize pairD (q,g)=px at *;have l3:allB [.bl true,.bl true]=some true:=rfl;simp[-D.seq,hty,hs2,cT,l2,l3,Function.comp_def]
   refine Ou.setT (j:=0) (ds:=[.int q,.int g]) (by simp[pairD]) ?_;refine Ou.low (a':=[some (0,.lst ((bF cs Z Z').map pairD)),some (0,SA),some (0,SB),some (0,K),some (0,.lst ((wl Z).map pairD)),some (0,pairD (q,g)),some (0,.int q),some (0,.int g),x8,x9]) (.of_eq (by simp[bD])) ?_;have ixg:=ixc g hgl;refine Ou.each D.int (covA cs g) (λ_ a=>∃x8 x9,a=[some (0,.lst ((bF cs Z Z').map pairD)),some (0,SA),some (0,SB),some (0,K),some (0,.lst ((wl Z).map pairD)),some (0,pairD (q,g)),some (0,.int q),some (0,.int g),x8,x9]) (vs:=[(0,.lst ((covA cs g).map .int))]) (by simp[-aW,ixg]) rfl (bH (C.ln g) (by decide)) ⟨x8,x9,by simp⟩ ?_ ?_
   .rintro pr sI su a he2 ⟨x8,x9,rfl⟩;have hsc:sI∈covA cs g:=by rw[he2]; simp
    have rg:=C.rg g sI hsc;obtain⟨j,rfl⟩:∃j:Nat,sI=(j:Int):=⟨sI.toNat,by omega⟩
    have hjp:j<p:=by omega
    obtain⟨i1,q1⟩:=sam 0 0 0 0 0 q g j O O' hO hO' hg hsc hjp;cases hS with
    | mk _ h1 h2=>
    rw[GE (h1 j hsc)] at q1;have ixr:=gz (cs:=cs) (O:=O) hjp;have ixs:=ix1 q O hO;have h2:=h2 j hsc;have hgA:=jz hg hsc;have ixe:b8 (aM (aQ cs j O)) (.int g)=some (99,.int ((aQ cs j O).idxOf g:Nat)):=by
     have sc:=j8 (aQ cs j O);rw[aM,ki,jE hgA,sc];rfl
    have t3:=jK (aQ cs j O) ((aQ cs j O).idxOf g);have lr:((aQ cs j O).take ((aQ cs j O).idxOf g)).length<=SL:=by
     have k1:(aQ cs j O).length<=O.length:=GJ _ _;have k2:=w.len C;rw[G4];omega
    unfold pf at h2;generalize aQ cs j O=ra at *;have cI:bc (compF G (run G (n+1)) [none,none,some (.int q),some (.lst ((bF cs Z Z').map pairD))] (.one 1) [] (.op .isin [(.op .tup [(.var 2),(.var 1)]),(.var 3)])) (aL (ra.take (ra.idxOf g)))=.ok ((ra.take (ra.idxOf g)).map λ_=>(99,.bl true)):=by
     refine gU (e:=λu:Nat=>D.int (Int.ofNat u)) λu hu=>?_;have m:=mM' q u;rw[qM hO hO',GE (h2 u hu)] at m;have m:D.memb (.tup [.int q,.int u]) ((bF cs Z Z').map pairD)=true:=m;generalize (bF cs Z Z').map pairD=M at m mP' ⊢;simp[-List.all_eq_true,compF,m,mP']
    have al:=oW (λ_=>true) (ra.take (ra.idxOf g));have hsq:(aM (ra.take (ra.idxOf g))).seq=some (aL (ra.take (ra.idxOf g))):=rfl;generalize wrD (aK cs p O)=WA at *;generalize (bF cs Z Z').map pairD=M at *;refine⟨_,dW rfl,?_⟩;refine Ou.set (x:=(0,aM ra)) (by simp[-aW,ixs,ixr]) ?_;refine Ou.low (a':=[some (0,.lst M),some (0,SA),some (0,SB),some (0,K),some (0,.lst ((wl Z).map pairD)),some (0,pairD (q,g)),some (0,.int q),some (0,.int g),some (0,.int j),some (0,aM ra)]) (.of_eq (by simp)) ?_;generalize aM ra=RA at *;generalize aM (ra.take (ra.idxOf g))=RU at *;generalize ra.take (ra.idxOf g)=ru at *;refine Ou.iffN (j:=99) (by simp[P.f123,lQ,q1]) ?_;refine Ou.iffN (j:=99) (by simp[-aY,-D.seq,ixe,t3,hsq,lr,fw,cI,Function.comp_def,al]) (Ou.nil ⟨_,_,rfl⟩)
   .rintro a ⟨x8,x9,rfl⟩;exact Ou.nil ⟨_,_,_,_,_,rfl⟩
  .rintro a ⟨x5,x6,x7,x8,x9,rfl⟩;exact Ou.ret (x:=(99,.bl true)) (by simp) rfl
 obtain⟨i,d,e,rfl⟩:=Ou.run (n:=n+1) (vs:=[(k,.lst ((bF cs Z Z').map pairD)),(k1,aR p cs Z),(k2,aR p cs Z'),(k3,aO cs)]) (V:=λd=>d=.bl true) P.f125 rfl rfl (key.mono (λ_ h=>h.elim) (λ_ h=>h) λ_ _ _ h=>h);exact⟨i,e⟩
end Ip
end
section
namespace Ip
open PySem (Str)
open Classical
section
variable {G:Pg}{cl:Nat->ax->Run}{io:am}{a:Fr}{ss:az}{N:Fr->Prop}{V:D->Prop}{X:Nat->List aJ->Fr->Prop}
theorem RelF.ownL {A a:Fr}(r:RelF A a){x k:Nat}{xs:ay}(h:a[x]? = some (some (k+1,.lst xs))):Ip.ownL A[x]? = some xs:=by
 obtain⟨j,e⟩:=r.own h;rw[e];rfl
theorem Ou.foz {is:am}{x y k l:Nat}{b:az}{xs ys:ay}(I:ay->Fr->Prop)(hx:a[x]? = some (some (k+1,.lst xs)))(hy:a[y]? = some (some (l+1,.lst ys)))(h1:D.flats xs=true)(h2:D.flats ys=true)(hl:xs.length<=SL)(h0:I ((xs.zip ys).map λp=>.tup [p.1,p.2]) a)
  (hI:∀r a',I r a'->∃k' l',a'[x]? = some (some (k'+1,.lst xs))/\a'[y]? = some (some (l'+1,.lst ys)))
  (step:∀z r a',I (z::r) a'->∃a'',(∀A,RelF A a'->∃A',bv (x::y::io) (.many is) z A=.nx A'/\RelF A' a'')/\Ou G cl (x::y::io) a'' b (I r) V X)(kk:∀a',I [] a'->Ou G cl io a' ss N V X):Ou G cl io a (.foz (.many is) x y b::ss) N V X:=
 .step λA r=>by
  have ex:=r.ownL hx;have ey:=r.ownL hy;have c:D.flats xs=true/\D.flats ys=true/\xs.length<=SL:=⟨h1,h2,hl⟩
  simp only[uj,iw,ex,ey,Option.bind_some,Option.map_some,if_pos c];generalize (xs.zip ys).map (λp=>D.tup [p.1,p.2])=zs at h0;have lp:∀(zs:ay) (a':Fr),I zs a'->∀A',RelF A' a'->match br (λd A'=>iu A x y ((bv (x::y::io) (.many is) d A').seq λA=>execs G cl (x::y::io) A b)) zs A' with
    | .nx A'=>∃a',RelF A' a'/\Ou G cl io a' ss N V X
    | .ret _ d _=>V d
    | .exc c fs A'=>∃a',RelF A' a'/\X c fs a'
    | _=>False:=by
   intro zs;induction zs with
   | nil=>exact λa' hi A r=>⟨a',r,kk a' hi⟩
   | cons z zs ih=>
    intro a' hi A' r';obtain⟨a'',hb,hO⟩:=step z zs a' hi;obtain⟨A1,e,r1⟩:=hb A' r';have:=hO A1 r1;rw[br,e];simp only[O.seq];revert this
    cases execs G cl (x::y::io) A1 b with
    | nx A2=>
     rintro⟨a2,g1,g2⟩;obtain⟨k',l',p1,p2⟩:=hI _ _ g2;have cc:Ip.ownL A2[x]? = Ip.ownL A[x]?/\Ip.ownL A2[y]? = Ip.ownL A[y]?:=⟨(g1.ownL p1).trans ex.symm,(g1.ownL p2).trans ey.symm⟩
     simp only[iu,if_pos cc];exact ih a2 g2 A2 g1
    | ret k d A2=>exact id
    | exc c fs A2=>exact id
    | _=>exact False.elim
  exact lp zs _ h0 _ r
theorem Ou.clear {x k:Nat}{xs:ay}(hx:a[x]? = some (some (k+1,.lst xs)))(h:Ou G cl io (a.set x (some (1,.lst []))) ss N V X):Ou G cl io a (.mut x [] .clear []::ss) N V X:=
 .step λA r=>by
  obtain⟨k',hA⟩:=r.own hx;have e1:cm A[x]? = true:=by rw[hA]; rfl
  simp only[iG,e1,if_true,de,R.toO,dG,List.all_nil,hA,dS];exact⟨_,r.set (x:=some (99,.lst [])) (y:=some (1,.lst [])) ⟨rfl,by decide⟩ x,h⟩
end
def xQ (ks:ak):D.flats (ks.map pairD)=true:=by rw[qx]; simp[pairD]
theorem RP.flat {cs:ab}{Z Z':af}:∀{rs:ay} {xs:ak},PySem.Paired (RP cs Z Z') rs xs->D.flats rs=true
 | _,_,.nil=>by simp
 | _,_,.cons h t=>by
  rw[D.flats,RP.flat t];obtain⟨O,O',_,_,_,j,_,⟨rfl,_⟩ | ⟨u,_,_,rfl⟩⟩:=h <;> simp
variable {G:Pg}(P:Pm G)
include P
def yN (n k k1 k2 k3 k4 k5 p:Nat)(cs:ab)(Z Z':af)(d:D)(x:Nat×Nat)(C:Cv p cs)(s:Sg cs Z)(h:RP cs Z Z' d x):∃i,run G (n+2) 126 [(k,d),(k1,pairD x),(k2,.lst (bV cs Z Z')),(k3,aR p cs Z),(k4,aR p cs Z'),(k5,aO cs)]=.ret i (.bl true) []:=by
 obtain⟨q,g⟩:=x;obtain⟨O,O',hO,hO',hg,j,hj,hd⟩:=h;simp only at hO hO' hg hj hd;have w:=s.wn (GH hO);have hjp:j<p:=by have:=C.rg g _ hj; omega
 obtain⟨i1,q1⟩:=t8 P n 0 0 0 0 0 p q g j cs Z Z' O O' hO hO' hg hj hjp;have ixg:=k8 (w.lt g hg);have ixs:=gP (p:=p) (cs:=cs) hO;have ixr:=gz (cs:=cs) (O:=O) hjp;have mM:=sW (cs:=cs) (Z:=Z) (Z':=Z') s;have mP:=qL (cs:=cs) (Z:=Z) (Z':=Z');have hgA:=jz hg hj;have ixe:b8 (aM (aQ cs j O)) (.int g)=some (99,.int ((aQ cs j O).idxOf g:Nat)):=by
  have sc:=j8 (aQ cs j O);rw[aM,ki,jE hgA,sc];rfl
 have t3:=jK (aQ cs j O) ((aQ cs j O).idxOf g);have mc:=nv j (covA cs g);have pc:((covA cs g).map D.int).all (D.pur 60)=true:=by simp
 have hW:=λk x=>vC P n k x;have eqp:=(qH (q,g) (q,g)).mpr rfl;have pup:(pairD (q,g)).pur 60=true:=by simp[pairD]
 have key:∀y:D,d=.tup [.int q,.int g,.int j,y]->(y=.non/\¬(g∈aQ cs j O'/\pf g (aQ cs j O)=pf g (aQ cs j O'))\/∃u∈pf g (aQ cs j O),y=.int (u:Nat)/\sy cs Z Z' q u=false)->Ou G (run G (n+1)) [] [some (0,d),some (0,pairD (q,g)),some (0,.lst (bV cs Z Z')),some (0,aR p cs Z),some (0,aR p cs Z'),some (0,aO cs),none,none,none,none,none] lA.body (λ_=>False) (λd=>d=.bl true) λ_ _ _=>False:=by
  intro y ed hy;subst ed;have t2:aY none (some 2) (.tup [.int q,.int g,.int j,y])=some (0,pairD (q,g)):=by
   have:=k7 ([.int q,.int g,.int j,y]:ay) 2;simp only[aY];rw[show (some (2:Int))=some ((2:Nat):Int) from rfl,this];rfl
  have ix2:aW (.tup [.int q,.int g,.int j,y]) (.int 2)=some (0,.int j):=rfl;have hty:bj G (.tup [.int q,.int g,.int j,y]) .tuple=true:=rfl;have hln:gh (λxs=>some (99,D.int xs.length)) (.tup [.int q,.int g,.int j,y])=some (99,.int 4):=rfl;generalize aR p cs Z=SA at *;generalize aR p cs Z'=SB at *;generalize aO cs=K at *;generalize bV cs Z Z'=ML at *;generalize (covA cs g).map D.int=CG at *;refine Ou.iffN (j:=99) ?_ ?_
  .generalize D.tup [.int q,.int g,.int j,y]=dd at *;generalize pairD (q,g)=px at *;simp[-aW,-aY,-gh,hty,hln,t2,ix2,P.f73,kM,hW,eqp,pup,D.eq]
  refine Ou.setT (j:=0) (ds:=[.int q,.int g,.int j,y]) (by simp) ?_;refine Ou.low (a':=[some (0,.tup [.int q,.int g,.int j,y]),some (0,pairD (q,g)),some (0,.lst ML),some (0,SA),some (0,SB),some (0,K),some (0,.int q),some (0,.int g),some (0,.int j),some (0,y),none]) (.of_eq (by simp[bD])) ?_;refine Ou.iffN (j:=99) (by simp[-aW,-List.all_eq_true,ixg,mc,pc,hj]) ?_;rcases hy with ⟨rfl,hn⟩ | ⟨u,hu,rfl,hs⟩
  .refine Ou.iffT (j:=99) (by simp) ?_;rw[GQ hn] at q1;exact Ou.ret (x:=(99,.bl true)) (by simp[P.f123,lQ,q1]) rfl
  .refine Ou.iffN (j:=99) (by simp) ?_;have mu:=mM q u;rw[hs] at mu;have mu:D.memb (.tup [.int q,.int u]) ML=false:=mu;unfold pf at hu;have mr:=iS u ((aQ cs j O).take ((aQ cs j O).idxOf g));have pr:=jG ((aQ cs j O).take ((aQ cs j O).idxOf g));have hsq:(aM ((aQ cs j O).take ((aQ cs j O).idxOf g))).seq=some (aL ((aQ cs j O).take ((aQ cs j O).idxOf g))):=rfl;rw[GE hu] at mr;generalize aQ cs j O=ra at *;generalize wrD (aK cs p O)=WA at *;refine Ou.set (x:=(0,aM ra)) (by simp[-aW,ixs,ixr]) ?_;refine Ou.ret (x:=(99,.bl true)) ?_ rfl;generalize aM ra=RA at *;generalize aM (ra.take (ra.idxOf g))=RU at *;generalize aL (ra.take (ra.idxOf g))=NU at *;have hsM:(D.lst ML).seq=some ML:=rfl;simp[-aY,-D.seq,-List.all_eq_true,P.f73,kM,hW,ixe,t3,hsq,mr,pr,mu,mP,hsM]
 have key:Ou G (run G (n+1)) [] [some (0,d),some (0,pairD (q,g)),some (0,.lst (bV cs Z Z')),some (0,aR p cs Z),some (0,aR p cs Z'),some (0,aO cs),none,none,none,none,none] lA.body (λ_=>False) (λd=>d=.bl true) λ_ _ _=>False:=by
  rcases hd with ⟨e,hn⟩ | ⟨u,hu,hs,e⟩
  .exact key .non e (.inl ⟨rfl,hn⟩)
  .exact key (.int u) e (.inr ⟨u,hu,rfl,hs⟩)
 obtain⟨i,d',e,rfl⟩:=Ou.run (n:=n+1) (vs:=[(k,d),(k1,pairD (q,g)),(k2,.lst (bV cs Z Z')),(k3,aR p cs Z),(k4,aR p cs Z'),(k5,aO cs)]) (V:=λd=>d=.bl true) P.f126 rfl rfl (key.mono (λ_ h=>h.elim) (λ_ h=>h) λ_ _ _ h=>h);exact⟨i,e⟩
def pO (n k k1 k2 k3 p:Nat)(cs:ab)(Z Z':af)(C:Cv p cs)(ok:∀c∈cs,OkC p c)(s:Sg cs Z)(hl:Z.length<=3)(hz:Z'.length=Z.length):∃i,run G (n+11) 113 [(k,wd p cs),(k1,aR p cs Z),(k2,aR p cs Z'),(k3,aO cs)]=.ret i (.bl true) []:=by
 have h100:100<=SL:=by decide
 have qm:=wv P n 0 0 0 p cs Z Z' C ok s hl hz;obtain⟨ik,qk⟩:=Fw P (n+8) 0 0 0 0 p cs Z Z' C s hl hz;obtain⟨jr,rs,qr,hr,hj⟩:=Bu P n 0 0 0 p cs Z Z' C ok s hl hz;obtain⟨jw,qw⟩:=sr P (n+9) 0 0 p cs Z C s hl;have mM:=sW (cs:=cs) (Z:=Z) (Z':=Z') s;have mP:=qL (cs:=cs) (Z:=Z) (Z':=Z');have wll:(wl Z).length<=SL:=by have:=kP C s (λ_ _=>true); unfold wl; omega
 have l6:=kP C s (λq g=>!sy cs Z Z' q g);have ml:(bV cs Z Z').length<=6:=by rw[r9 C s,Gx]; exact kP C s _
 have lrs:=hr.length;have frs:=RP.flat hr;have lre:=λd x h=>yN P (n+8) 0 0 0 0 0 0 p cs Z Z' d x C s h;have cc:bc (compF G (run G (n+10)) [none,none,some (.lst (bV cs Z Z'))] (.one 1) [(.op .nin [(.var 1),(.var 2)])] (.var 1)) ((wl Z).map pairD)=.ok ((bO (λq g=>!sy cs Z Z' q g) 0 (Z.map aV)).map λx=>(0,pairD x)):=by
  rw[<-tG λq g=>!sy cs Z Z' q g];refine m8 λx _=>?_;have m:=mM x.1 x.2;have pp:(pairD x).pur 60=true:=by simp[pairD]
  have e:pairD (x.1,x.2)=pairD x:=rfl;rw[e] at m;generalize pairD x=px at *;generalize bV cs Z Z'=ML at *;cases h:sy cs Z Z' x.1 x.2 with
  | false=>rw[h] at m; simp[-List.all_eq_true,compF,m,mP,pp]
  | true=>rw[h] at m; simp[-List.all_eq_true,compF,m,mP,pp]
 generalize bO (λq g=>!sy cs Z Z' q g) 0 (Z.map aV)=ks at *;have hjk:bf (ks.map λx=>(0,pairD x))=98:=oJ λx hx=>by
  obtain⟨y,_,rfl⟩:=dh hx;simp[pairD]
 have fk:=xQ ks;have fbk:D.fb 99 (.lst (ks.map pairD))=true:=by
  simp only[D.fb,List.all_eq_true];intro d hd;obtain⟨y,_,rfl⟩:=dh hd;exact tX 98 (by simp)
 have hz2:∀{rs:ay} {ks:ak},PySem.Paired (RP cs Z Z') rs ks->∀z∈(rs.zip (ks.map pairD)).map (λp=>D.tup [p.1,p.2]),∃d x,z=.tup [d,pairD x]/\RP cs Z Z' d x:=by
  intro rs ks h;induction h with
  | nil=>intro z hz; simp at hz
  | cons h t ih=>
   intro z hz;rw[GA,List.zip_cons_cons,GA] at hz;rcases cg hz with rfl | hz
   .exact⟨_,_,rfl,h⟩
   .exact ih z hz
 have hz3:=hz2 hr;have key:Ou G (run G (n+10)) [] [some (0,wd p cs),some (0,aR p cs Z),some (0,aR p cs Z'),some (0,aO cs),none,none,none,none,none] kJ.body (λ_=>False) (λd=>d=.bl true) λ_ _ _=>False:=by
  generalize wd p cs=WD at *;generalize aR p cs Z=SA at *;generalize aR p cs Z'=SB at *;generalize aO cs=K at *;generalize bV cs Z Z'=ML at *;refine Ou.setD (j:=1) (x:=(1,.lst ML)) (by simp[P.f47,jq,qm]) (bC _) ?_;refine Ou.low (a':=[some (0,WD),some (0,SA),some (0,SB),some (0,K),some (1,.lst ML),none,none,none,none]) (.of_eq (by simp)) ?_;refine Ou.iffN (j:=99) (by simp[P.f125,nJ,qk]) ?_;refine Ou.setD (j:=1) (x:=(jr,.lst rs)) (by simp[P.f48,mV,qr]) hj ?_;refine Ou.low (a':=[some (0,WD),some (0,SA),some (0,SB),some (0,K),some (1,.lst ML),some (1,.lst rs),none,none,none]) (.of_eq (by simp)) ?_;refine Ou.setK (x:=(99,.lst (ks.map pairD))) (by simp[P.f124,ls,qw,wll,cc,hjk,Function.comp_def]) fbk ?_;refine Ou.low (a':=[some (0,WD),some (0,SA),some (0,SB),some (0,K),some (1,.lst ML),some (1,.lst rs),none,some (1,.lst (ks.map pairD)),none]) (.cons (.refl _) (.cons (.refl _) (.cons (.refl _) (.cons (.refl _) (.cons (.refl _) (.cons (.refl _) (.cons (.refl _) (.cons ⟨rfl,(by decide:1<=99)⟩ (.refl _))))))))) ?_;have hty:bj G (.lst rs) .list=true:=rfl;refine Ou.iffN (j:=99) (by simp[hty,lrs,D.eq]) ?_;refine Ou.foz (k:=0) (l:=0) (xs:=rs) (ys:=ks.map pairD) (λr a=>(∃x6 x8,a=[some (0,WD),some (0,SA),some (0,SB),some (0,K),some (1,.lst ML),some (1,.lst rs),x6,some (1,.lst (ks.map pairD)),x8])/\∀z∈r,∃d x,z=.tup [d,pairD x]/\RP cs Z Z' d x) rfl rfl frs fk (by omega) ⟨⟨none,none,rfl⟩,hz3⟩ (λr a ⟨⟨x6,x8,e⟩,_⟩=>⟨0,0,by rw[e]; rfl,by rw[e]; rfl⟩) ?_ ?_
  .rintro z r a ⟨⟨x6,x8,rfl⟩,hz⟩;obtain⟨d,x,rfl,rp⟩:=hz z bQ;obtain⟨il,ql⟩:=lre d x rp;refine⟨_,lY rfl,?_⟩;exact Ou.iffN (j:=99) (by simp[bD,P.f126,lA,ql]) (Ou.nil ⟨⟨_,_,rfl⟩,λz h=>hz z (bN _ h)⟩)
  .rintro a ⟨⟨x6,x8,rfl⟩,_⟩;refine Ou.append (k:=0) (xs:=ML) (v:=(99,.tup [.int 0,.int 0])) (by simp[frz,frz1]) (by simp) (by omega) ?_;refine Ou.clear (k:=0) (xs:=rs) (by simp[frz,frz1]) ?_;exact Ou.ret (x:=(99,.bl true)) (by simp) rfl
 obtain⟨i,d,e,rfl⟩:=Ou.run (n:=n+10) (vs:=[(k,wd p cs),(k1,aR p cs Z),(k2,aR p cs Z'),(k3,aO cs)]) (V:=λd=>d=.bl true) P.f113 rfl rfl (key.mono (λ_ h=>h.elim) (λ_ h=>h) λ_ _ _ h=>h);exact⟨i,e⟩
end Ip
end
section
namespace Ip
open PySem (Str)
open Classical
section
variable {G:Pg}{cl:Nat->ax->Run}{io:am}{a:Fr}{ss:az}{N:Fr->Prop}{V:D->Prop}{X:Nat->List aJ->Fr->Prop}
def Ou.putF {x k j:Nat}{e i:Ex}{xs:ay}{v:KD}{n:Int}(hx:(frz e.names a)[x]? = some (some (k+1,.lst xs)))(he:eval G cl a.sl e=.ok v)(hi:eval G cl a.sl i=.ok (j,.int n))(hn:0<=n/\n<xs.length)(h:Ou G cl io ((frz e.names a).set x (some (1,.lst (xs.set n.toNat v.2)))) ss N V X):Ou G cl io a (.put x [] i e::ss) N V X:=
 .step λA r=>by
  have r1:=r.settle e.names v;obtain⟨k',hA⟩:=r1.own hx;simp only[wm,List.isEmpty_nil,if_true,r.sl,he,hi,R.toO,hA,h8,hn,and_self];exact⟨_,r1.set (.refl _) x,h⟩
def Ou.setU {is:am}{e:Ex}{j:Nat}{ds:ay}(h:eval G cl a.sl e=.ok (j,.lst ds))(k:Ou G cl io (bD (λd=>(0,d)) is ds (frz e.names a)) ss N V X)(hi:(ds.length == is.length&&is.all λi=>!io.contains i&&Nat.blt i a.length)=true:=by rfl):Ou G cl io a (.setT is e::ss) N V X:=
 .step λA r=>by
  obtain⟨hl,hi⟩:=sZ hi;obtain⟨A',q1,q2⟩:=RelF.setFs (io:=io) (is:=is) (ds:=ds) (k:=0) (r.settle e.names (j,.lst ds)) hl λi hm=>⟨(hi i hm).1,by rw[<-(RelF.low e.names a).len]; exact (hi i hm).2⟩
  simp only[rY,r.sl,h,R.toO,eT,q1];exact⟨_,q2,k⟩
end
theorem ut {α:Type}{e:α->D}{f:D->R aA}{g:α->D}:∀{xs:List α},(∀x∈xs,∃j,f (e x)=.ok (some (j,g x)))->∃ys:ax,bc f (xs.map e)=.ok ys/\ys.map (λx=>x.2)=xs.map g
 | [],_=>⟨[],rfl,rfl⟩
 | x::xs,h=>by
  obtain⟨j,q⟩:=h x bQ;obtain⟨ys,e1,e2⟩:=ut λy hy=>h y (bN _ hy);refine⟨(j,g x)::ys,?_,by simp[e2]⟩;rw[GA,bc,q,R.bind,e1]
def rH {α:Type}(xs:List α)(lo hi:Option Int):(cutD xs lo hi).length<=xs.length:=by
 simp only[cutD,G4,Jn];omega
noncomputable def bu (m:Nat):ab:=[0]::(List.range (m - 1)).map λn:Nat=>[(n:Int),1+(n:Int)]
def vU {m:Nat}(h:4<=m/\m<=6):(bu m).length=m/\∀c∈bu m,OkC m c:=by
 refine⟨by simp[bu]; omega,λc hc=>?_⟩;rcases cg hc with rfl | hc
 .exact nY (ns:=[0]) h.2 (by simp) (by simp; omega) (by simp)
 .obtain⟨n,hn,rfl⟩:=dh hc;have hn:=GS.mp hn;have e:[(n:Int),1+(n:Int)]=[n,n+1].map λn:Nat=>(n:Int):=by simp; omega
  rw[e];exact nY h.2 (by simp) (by simp; omega) (by simp)
def w6 {cs:ab}{m pl:Nat}{O:am}(nd:O.Nodup)(lt:∀g∈O,g<cs.length):Sg cs ((List.replicate m []).set pl O):=by
 have fl:∀(m pl:Nat),(((List.replicate m ([]:am)).set pl O).flatten=O\/((List.replicate m ([]:am)).set pl O).flatten=[]):=by
  intro m;induction m with
  | zero=>intro pl; exact .inr (by simp)
  | succ m ih=>
   intro pl;rw[List.replicate_succ];cases pl with
   | zero=>exact .inl (by simp)
   | succ pl=>simpa using ih pl
 rcases fl m pl with e | e
 .exact⟨by rw[e]; exact nd,by rw[e]; exact lt⟩
 .exact⟨by rw[e]; exact .nil,by rw[e]; simp⟩
def D8 {m a:Nat}{O:am}(nd:O.Nodup)(lt:∀g∈O,g<m)(h:a+1<O.length):(O.take a++[O[a+1],O[a]]++O.drop (a+2)).Nodup/\∀g∈O.take a++[O[a+1],O[a]]++O.drop (a+2),g<m:=by
 have e:O=O.take a++[O[a],O[a+1]]++O.drop (a+2):=by
  rw[HN]
  conv=>lhs; rw[<-Hv a O,GW (by omega),GW h]
  rfl
 have p:O.Perm (O.take a++[O[a+1],O[a]]++O.drop (a+2)):=by
  conv=>lhs; rw[e]
  exact List.Perm.append_right _ (List.Perm.append_left _ (List.Perm.swap _ _ _))
 exact⟨p.nodup_iff.mp nd,λg hg=>lt g (p.mem_iff.mpr hg)⟩
def zQ {m r:Nat}{O:am}(nd:O.Nodup)(lt:∀g∈O,g<m):(O.take r++O.drop (r+1)).Nodup/\∀g∈O.take r++O.drop (r+1),g<m:=by
 have sb:(O.take r++O.drop (r+1)).Sublist O:=by
  conv=>rhs; rw[<-Hv r O]
  refine List.Sublist.append (.refl _) ?_;rw[<-List.drop_drop];exact List.drop_sublist _ _
 exact⟨nd.sublist sb,λg hg=>lt g (sb.subset hg)⟩
variable {G:Pg}(P:Pm G)
include P
def yq (n k k1 k2 p:Nat)(cs:ab)(O:am)(hp:p<=6)(hO:O.length<=6)(hg:∀g∈O,g<cs.length):∃i,run G (n+1) 127 [(k,aO cs),(k1,.int p),(k2,.lst (aL O))]=.ret i (wrD (aK cs p O)) []:=by
 have h100:100<=SL:=by decide
 have hpS:p<=SL:=by omega
 have lO:(aL O).length<=SL:=by rw[fw]; omega
 have ci:∀j:Nat,bc (compF G (run G n) [none,none,some (aO cs),some (.int j)] (.one 1) [(.op .isin [(.var 3),(.op .ix [(.var 2),(.var 1)])])] (.var 1)) (aL O)=.ok ((aQ cs j O).map λg:Nat=>(0,.int g)):=λj=>by
  refine m8 (e:=λu:Nat=>D.int (Int.ofNat u)) (p:=λg=>decide ((j:Int)∈covA cs g)) λg hgO=>?_;have ix:=k8 (hg g hgO);have mb:=nv j (covA cs g);have pc:((covA cs g).map D.int).all (D.pur 60)=true:=by simp
  generalize aO cs=K at ix ⊢;generalize (covA cs g).map D.int=CG at *;by_cases h:(j:Int)∈covA cs g
  .rw[GE h] at mb; simp[-aW,-List.all_eq_true,compF,ix,mb,pc,h]
  .rw[GQ h] at mb; simp[-aW,-List.all_eq_true,compF,ix,mb,pc,h]
 have co:bc (compF G (run G n) [none,none,some (aO cs),some (.lst (aL O))] (.one 1) [] (.op .tuple [(.comp [none,none,(some 2),(some 1)] (.one 1) .seq [(.var 3)] [(.op .isin [(.var 3),(.op .ix [(.var 2),(.var 1)])])] (.var 1))])) ((List.range p).map λj:Nat=>D.int j)=.ok ((List.range p).map λj=>(0,aM (aQ cs j O))):=by
  refine gU λj _=>?_;have ci:=ci j;generalize aO cs=K at ci ⊢;generalize aL O=NO at ci lO ⊢;simp[compF,lO,ci,Function.comp_def];rfl
 have e:wrD (aK cs p O)=.tup ((List.range p).map λj=>aM (aQ cs j O)):=by simp[wrD,aK]
 refine⟨0,?_⟩;rw[run,P.f127,e];have wr:=wk_rng1 (k:=0) hpS;generalize aO cs=K at co ⊢;generalize aL O=NO at co ⊢;simp[nV,wr,hpS,co,Function.comp_def]
end Ip
end
section
namespace Ip
open PySem (Str)
open Classical
def vg (O:am)(a:Nat):aY none (some (a:Int)) (.lst (aL O))=some (1,.lst (aL (O.take a))):=by
 simp only[aY,k7];simp[aL]
def wq (O:am)(a:Nat):aY (some (a:Int)) none (.lst (aL O))=some (1,.lst (aL (O.drop a))):=by
 simp only[aY,nk];simp[aL]
def sC {A B:am}(h:A.length+B.length<=100):bI (.lst (aL A)) (.lst (aL B))=some (1,.lst (aL (A++B))):=by
 have:(aL A).length+(aL B).length<=SL:=by
  have:100<=SL:=by decide
  rw[fw,fw];omega
 simp only[bI];rw[if_pos this,s0]
def lK {O:am}{a:Nat}(h:a<O.length):aW (.lst (aL O)) (.int (a:Nat))=some (0,.int (O[a]:Nat)):=by
 have h':(a:Int)<O.length:=by omega
 simp[aL,aW,d6,h',h]
def dN (c:Int){b:Int}(h:0<b):∃a:Nat,c % b=(a:Int)/\(a:Int)<b:=
 have e:=G2 (Jt c (Int.ne_of_gt h))
 ⟨(c % b).toNat,e.symm,e.symm ▸ IJ c h⟩
def dK (k b:Nat)(c:Int)(h:0<b):∃p:Nat,(k:Int)+c % (b:Int)=(p:Int)/\k<=p/\p<k+b:=by
 obtain⟨a,e,l⟩:=dN c (Jh.mpr h);exact⟨k+a,by rw[e,Int.natCast_add],Nat.le_add_right k a,Nat.add_lt_add_left (Jh.mp l) k⟩
def gM {M:Nat}(h:4<=M/\M<=6):(0:Int)<(M:Int) - 1/\(1:Int)<M/\(-1000000:Int)<=M/\(M:Int)<=1000000:=by omega
def gA {a M:Nat}(h:(a:Int)<(M:Int) - 1):a+1<M:=by omega
def tM (M:Nat):((M:Int) - 1).toNat=M - 1:=by omega
def yA (O:am)(a b c:Nat)(h:O.length<=6):(O.take a++[b,c]).length+(O.drop (a+2)).length<=100:=by
 simp;omega
variable {G:Pg}(P:Pm G)
include P
def Ah (n k k1:Nat)(ns:ao)(m:Nat)(hm:1<=m/\m<=3):∃j M Z1 Z2,run G (n+2) 128 [(k,.lst (ns.map .int)),(k1,.int m)]=.ret j (.tup [aO (bu M),.int M,.lst [aR M (bu M) (List.replicate m []),aR M (bu M) Z1,aR M (bu M) Z2]]) []/\(4<=M/\M<=6)/\Sg (bu M) Z1/\Sg (bu M) Z2/\Z1.length=m/\Z2.length=m:=by
 have h100:100<=SL:=by decide
 obtain⟨d2,q2⟩:=iP P.d n 0 99 ns 2;obtain⟨d3,q3⟩:=iP P.d n 0 99 ns 3;obtain⟨d4,q4⟩:=iP P.d n 0 99 ns 4;obtain⟨d5,q5⟩:=iP P.d n 0 99 ns 5;have q2:run G (n+1) 98 [(0,.lst (ns.map .int)),(99,.int 2)]=.ret d2 (.int (ns.getD 2 0)) []:=q2;have q3:run G (n+1) 98 [(0,.lst (ns.map .int)),(99,.int 3)]=.ret d3 (.int (ns.getD 3 0)) []:=q3;have q4:run G (n+1) 98 [(0,.lst (ns.map .int)),(99,.int 4)]=.ret d4 (.int (ns.getD 4 0)) []:=q4;have q5:run G (n+1) 98 [(0,.lst (ns.map .int)),(99,.int 5)]=.ret d5 (.int (ns.getD 5 0)) []:=q5;generalize ns.getD 2 0=c2 at q2;generalize ns.getD 3 0=c3 at q3;generalize ns.getD 4 0=c4 at q4;generalize ns.getD 5 0=c5 at q5;obtain⟨M,eM,hM,hM'⟩:∃M:Nat,4+c2 % 3=(M:Int)/\4<=M/\M<7:=dK 4 3 c2 (by decide)
 replace hM:4<=M/\M<=6:=⟨hM,IX hM'⟩
 obtain⟨i1,i3,mL,mS⟩:=gM hM;have m1:0<m:=hm.1;have m0:(0:Int)<(m:Int):=Jh.mpr m1;obtain⟨a,ea,ha⟩:=dN (c4 / 3) i1
 replace ha:=gA ha
 obtain⟨pl,epl,hpl⟩:=dN c5 m0
 replace hpl:pl<m:=Jh.mp hpl
 obtain⟨r,er,hr⟩:=dN c4 (b:=3) (by decide)
 replace hr:r<3:=Jh.mp hr
 obtain⟨lC,okC⟩:=vU hM;have cv:bc (compF G (run G (n+1)) [none,none] (.one 1) [] (.op .lst [(.op .sub [(.var 1),(.cst (.int (1)))]),(.var 1)])) ((List.range ((M:Int) - 1).toNat).map λ(n:Nat)=>.int (1+n))=.ok ((List.range ((M:Int) - 1).toNat).map λn:Nat=>(99,.lst [.int n,.int (1+n)])):=gU λx _=>by simp[compF]; omega
 have wk2:c7 .rng2 [(99,.int 1),(0,.int M)]=some ((List.range ((M:Int) - 1).toNat).map λ(n:Nat)=>.int (1+n)):=wk_rng2 (by decide) ⟨mL,mS⟩;have ecv:aO (bu M)=.lst ([.lst [.int 0]]++(List.range ((M:Int) - 1).toNat).map λn:Nat=>.lst [.int n,.int (1+n)]):=by
  rw[tM];simp[aO,bu]
 have acv:∀L:ay,L.length<=10->bI (.lst [.lst [.int 0]]) (.lst L)=some (1,.lst ([.lst [.int 0]]++L)):=λL hL=>by
  simp only[bI];rw[if_pos (by simp; omega)]
 have fin:∀(O W:am),O.Nodup->(∀g∈O,g<M)->W.Nodup->(∀g∈W,g<M)->Ou G (run G (n+1)) [] [some (0,.lst (ns.map .int)),some (0,.int m),some (0,.int M),some (0,aO (bu M)),some (0,.lst (aL O)),some (0,.int c4),some (0,.int a),some (0,.lst (aL W)),none,none,none,none] (lv.body.drop 8) (λ_=>False) (λd=>∃Z1 Z2,d=.tup [aO (bu M),.int M,.lst [aR M (bu M) (List.replicate m []),aR M (bu M) Z1,aR M (bu M) Z2]]/\Sg (bu M) Z1/\Sg (bu M) Z2/\Z1.length=m/\Z2.length=m) λ_ _ _=>False:=by
  intro O W nO lO nW lW;have hO6:=bH (gE nO lO) hM.2;have hW6:=bH (gE nW lW) hM.2;show Ou G (run G (n+1)) [] _ (.set 8 _::.set 9 _::.fo (.one 10) .seq _ _::_) _ _ _;refine Ou.set (x:=(99,.int pl)) (by simp[P.d.f98,eJ,q5,epl,m0,m1]) ?_;refine Ou.setK (x:=(99,.lst [])) (by simp) (by simp) ?_;refine Ou.low (a':=[some (0,.lst (ns.map .int)),some (0,.int m),some (0,.int M),some (0,aO (bu M)),some (0,.lst (aL O)),some (0,.int c4),some (0,.int a),some (0,.lst (aL W)),some (0,.int pl),some (99,.lst []),none,none]) (.of_eq (by simp)) ?_;refine Ou.low (a':=[some (0,.lst (ns.map .int)),some (0,.int m),some (0,.int M),some (0,aO (bu M)),some (0,.lst (aL O)),some (0,.int c4),some (0,.int a),some (0,.lst (aL W)),some (0,.int pl),some (1,.lst []),none,none]) (.cons (.refl _) (.cons (.refl _) (.cons (.refl _) (.cons (.refl _) (.cons (.refl _) (.cons (.refl _) (.cons (.refl _) (.cons (.refl _) (.cons (.refl _) (.cons ⟨rfl,by decide⟩ (.refl _))))))))))) ?_;refine Ou.each (λO:am=>D.lst (aL O)) [[],O,W] (λpre a'=>∃x10 x11,a'=[some (0,.lst (ns.map .int)),some (0,.int m),some (0,.int M),some (0,aO (bu M)),some (0,.lst (aL O)),some (0,.int c4),some (0,.int a),some (0,.lst (aL W)),some (0,.int pl),some (1,.lst (pre.map λO=>aR M (bu M) ((List.replicate m []).set pl O))),x10,x11]) (vs:=[(bf [(99,.lst []),(0,.lst (aL O)),(0,.lst (aL W))]+1,.lst [.lst (aL []),.lst (aL O),.lst (aL W)])]) ?_ rfl (by simp; omega) ⟨none,none,by simp⟩ ?_ ?_
  .simp[aL]
  .rintro pre U suf a' he ⟨x10,x11,rfl⟩;have hU:U.length<=6/\∀g∈U,g<M:=by
    have:U∈[[],O,W]:=by rw[he]; simp
    simp only[GO,GL,or_false] at this;rcases this with rfl | rfl | rfl
    .simp
    .exact⟨hO6,lO⟩
    .exact⟨hW6,lW⟩
   have hp3:=congrArg List.length he;simp at hp3;have e11:D.lst ((List.replicate m (D.lst [])).set pl (.lst (aL U)))=.lst (((List.replicate m []).set pl U).map λO=>.lst (aL O)):=by
    rw[List.map_set,JF];rfl
   have hmu:dF (.lst [.lst []]) (.int m)=some (1,.lst (List.replicate m (.lst []))):=by
    simp only[dF];rw[if_pos ⟨by omega,dY.mpr (by omega),by simp; omega⟩,Int.toNat_natCast,rP]
   obtain⟨ys,cy,ey⟩:∃ys:ax,bc (compF G (run G (n+1)) [none,none,some (aO (bu M)),some (.int M)] (.one 1) [] (.call 127 [(.var 2),(.var 3),(.var 1)])) (((List.replicate m []).set pl U).map λO=>D.lst (aL O))=.ok ys/\ys.map (λx=>x.2)=((List.replicate m []).set pl U).map λO=>wrD (aK (bu M) M O):=ut λR hR=>by
    have hR':R.length<=6/\∀g∈R,g<(bu M).length:=by
     rw[lC];rcases List.mem_or_eq_of_mem_set hR with h | h
     .rw[(List.mem_replicate.mp h).2]; simp
     .rw[h]; exact hU
    obtain⟨i,q⟩:=yq P n 0 0 0 M (bu M) R hM.2 hR'.1 hR'.2;exact⟨i,by simp[compF,P.f127,nV,q]⟩
   refine⟨_,dW rfl,?_⟩;refine Ou.setD (j:=1) (x:=(1,.lst (List.replicate m (.lst [])))) (by simp[-dF,hmu]) (bC _) ?_;refine Ou.putF (k:=0) (j:=0) (xs:=List.replicate m (.lst [])) (v:=(0,.lst (aL U))) (n:=pl) (by simp[frz,frz1]) (by simp) (by simp) ⟨by omega,by simp; omega⟩ ?_;refine Ou.low (a':=[some (0,.lst (ns.map .int)),some (0,.int m),some (0,.int M),some (0,aO (bu M)),some (0,.lst (aL O)),some (0,.int c4),some (0,.int a),some (0,.lst (aL W)),some (0,.int pl),some (1,.lst (pre.map λO=>aR M (bu M) ((List.replicate m []).set pl O))),some (0,.lst (aL U)),some (1,.lst (((List.replicate m []).set pl U).map λO=>.lst (aL O)))]) (.of_eq (by rw[<-e11]; simp[frz,frz1])) ?_;have lset:(((List.replicate m ([]:am)).set pl U).map λO=>D.lst (aL O)).length<=SL:=by simp; exact bH hm.2 (by decide)
   refine Ou.append (k:=0) (xs:=pre.map λO=>aR M (bu M) ((List.replicate m []).set pl O)) (v:=(0,aR M (bu M) ((List.replicate m []).set pl U))) (by simp[frz,frz1]) ?_ (by simp; omega) (Ou.nil ⟨some (0,.lst (aL U)),some (0,.lst (((List.replicate m []).set pl U).map λO=>.lst (aL O))),?_⟩)
   .generalize ((List.replicate m ([]:am)).set pl U).map (λO=>D.lst (aL O))=L at cy lset ⊢;generalize aO (bu M)=K at cy ⊢;simp[lset,cy,ey,aR]
   .simp[frz,frz1]
  .rintro a' ⟨x10,x11,rfl⟩;refine Ou.retE (d:=.tup [aO (bu M),.int M,.lst [aR M (bu M) (List.replicate m []),aR M (bu M) ((List.replicate m []).set pl O),aR M (bu M) ((List.replicate m []).set pl W)]]) ?_ ⟨_,_,rfl,w6 nO (by rw[lC]; exact lO),w6 nW (by rw[lC]; exact lW),by simp,by simp⟩;have e0:(List.replicate m ([]:am)).set pl []=List.replicate m []:=by
    refine List.ext_getElem (by simp) λi h1 h2=>?_;rw[List.getElem_set];split <;> simp
   have e3:([[],O,W]:af).map (λO=>aR M (bu M) ((List.replicate m []).set pl O))=[aR M (bu M) (List.replicate m []),aR M (bu M) ((List.replicate m []).set pl O),aR M (bu M) ((List.replicate m []).set pl W)]:=by
    rw[GA,e0]; rfl
   rw[e3];exact⟨_,by simp; rfl⟩
 have key:Ou G (run G (n+1)) [] [some (0,.lst (ns.map .int)),some (0,.int m),none,none,none,none,none,none,none,none,none,none] lv.body (λ_=>False) (λd=>∃Z1 Z2,d=.tup [aO (bu M),.int M,.lst [aR M (bu M) (List.replicate m []),aR M (bu M) Z1,aR M (bu M) Z2]]/\Sg (bu M) Z1/\Sg (bu M) Z2/\Z1.length=m/\Z2.length=m) λ_ _ _=>False:=by
  refine Ou.set (x:=(99,.int M)) (by simp[P.d.f98,eJ,q2,eM]) ?_;refine Ou.low (a':=[some (0,.lst (ns.map .int)),some (0,.int m),some (0,.int M),none,none,none,none,none,none,none,none,none]) (.of_eq (by simp)) ?_;refine Ou.setE (d:=aO (bu M)) ?_ ?_
  .rw[ecv];have ac:=acv ((List.range ((M:Int) - 1).toNat).map λn:Nat=>.lst [.int n,.int (1+n)]) (by simp; omega);have lr:(List.range ((M:Int) - 1).toNat).length<=SL:=by simp; omega
   generalize List.range ((M:Int) - 1).toNat=R at *;exact⟨_,by simp[-bI,wk2,lr,cv,Function.comp_def,ac]; rfl⟩
  refine Ou.set (x:=(1,.lst (aL (List.range M)))) (by simp[mS]) ?_;refine Ou.low (a':=[some (0,.lst (ns.map .int)),some (0,.int m),some (0,.int M),some (0,aO (bu M)),some (0,.lst (aL (List.range M))),none,none,none,none,none,none,none]) (.of_eq (by simp)) ?_;have nx:∀O:am,O.Nodup->(∀g∈O,g<M)->O.length=M->Ou G (run G (n+1)) [] [some (0,.lst (ns.map .int)),some (0,.int m),some (0,.int M),some (0,aO (bu M)),some (0,.lst (aL O)),none,none,none,none,none,none,none] (lv.body.drop 4) (λ_=>False) (λd=>∃Z1 Z2,d=.tup [aO (bu M),.int M,.lst [aR M (bu M) (List.replicate m []),aR M (bu M) Z1,aR M (bu M) Z2]]/\Sg (bu M) Z1/\Sg (bu M) Z2/\Z1.length=m/\Z2.length=m) λ_ _ _=>False:=by
   intro O nO lO eO;show Ou G (run G (n+1)) [] _ (.set 5 _::.set 6 _::.set 7 _::.iff _ _ _::_) _ _ _;refine Ou.set (x:=(d4,.int c4)) (by simp[P.d.f98,eJ,q4]) ?_;refine Ou.set (x:=(99,.int a)) (by simp[i1,i3,ea]) ?_;refine Ou.low (a':=[some (0,.lst (ns.map .int)),some (0,.int m),some (0,.int M),some (0,aO (bu M)),some (0,.lst (aL O)),some (0,.int c4),some (0,.int a),none,none,none,none,none]) (.of_eq (by simp)) ?_;have h1:a+1<O.length:=by rw[eO]; exact ha
   have t1:=vg O a;have t2:=wq O (a+2);have x1:=lK h1;have x2:=lK (Nat.lt_of_succ_lt h1);have a1:=sC (A:=O.take a) (B:=[O[a+1],O[a]]) (by simp; omega);have a2:=sC (A:=O.take a++[O[a+1],O[a]]) (B:=O.drop (a+2)) (yA O a _ _ (eO ▸ hM.2));have sw:=D8 nO lO h1;have b1:aL [O[a+1],O[a]]=[.int (O[a+1]:Nat),.int (O[a]:Nat)]:=rfl;rw[b1] at a1;rw[Int.natCast_add,Int.cast_ofNat_Int] at t2;rw[Int.natCast_add,Int.cast_ofNat_Int] at x1;generalize O.take a++[O[a+1],O[a]]++O.drop (a+2)=W1 at a2 sw;refine Ou.set (x:=(1,.lst (aL W1))) ?_ ?_
   .generalize (O[a+1]:Nat)=oa at *;generalize (O[a]'(by omega):Nat)=ob at *;generalize aL (O.take a)=N1 at *;generalize aL (O.take a++[oa,ob])=N2 at *;generalize aL (O.drop (a+2))=N3 at *;generalize aL O=NO at *;simp[-bI,-aY,-aW,show ∀i j:Int,bI (.int i) (.int j)=some (99,.int (i+j)) from λ_ _=>rfl,t1,t2,x1,x2,a1,a2]
   refine Ou.low (a':=[some (0,.lst (ns.map .int)),some (0,.int m),some (0,.int M),some (0,aO (bu M)),some (0,.lst (aL O)),some (0,.int c4),some (0,.int a),some (0,.lst (aL W1)),none,none,none,none]) (.of_eq (by simp)) ?_;by_cases hr2:r<2
   .have e2:c4 % 3<2:=by omega
    refine Ou.iffT (j:=99) (by simp[e2]) ?_;have u1:=vg O r;have u2:=wq O (r+1);have u3:=sC (A:=O.take r) (B:=O.drop (r+1)) (by simp; omega);have dr:=zQ (r:=r) nO lO;rw[Int.natCast_add,Int.cast_ofNat_Int] at u2;generalize O.take r++O.drop (r+1)=W2 at u3 dr;refine Ou.set (x:=(1,.lst (aL W2))) ?_ (Ou.nil ?_)
    .generalize aL (O.take r)=N1 at *;generalize aL (O.drop (r+1))=N3 at *;generalize aL O=NO at *;simp[-bI,-aY,show ∀i j:Int,bI (.int i) (.int j)=some (99,.int (i+j)) from λ_ _=>rfl,er,u1,u2,u3]
    refine Ou.low (a':=[some (0,.lst (ns.map .int)),some (0,.int m),some (0,.int M),some (0,aO (bu M)),some (0,.lst (aL O)),some (0,.int c4),some (0,.int a),some (0,.lst (aL W2)),none,none,none,none]) (.of_eq (by simp)) ?_;exact fin O W2 nO lO dr.1 dr.2
   .have e2:¬c4 % 3<2:=by omega
    exact Ou.iffN (j:=99) (by simp[e2]) (fin O W1 nO lO sw.1 sw.2)
  have rN:(List.range M).Nodup:=List.nodup_range;have rL:∀g∈List.range M,g<M:=λg h=>GS.mp h;by_cases h3:c3 % 3=1
  .refine Ou.iffT (j:=99) (by simp[P.d.f98,eJ,q3,D.eq,h3]) ?_;refine Ou.set (x:=(1,.lst (aL (List.range M).reverse))) (by simp[aL]) (Ou.nil ?_);refine Ou.low (a':=[some (0,.lst (ns.map .int)),some (0,.int m),some (0,.int M),some (0,aO (bu M)),some (0,.lst (aL (List.range M).reverse)),none,none,none,none,none,none,none]) (.of_eq (by simp)) ?_;exact nx _ ((List.reverse_perm _).nodup_iff.mpr rN) (λg h=>rL g (List.mem_reverse.mp h)) (by simp)
  .exact Ou.iffN (j:=99) (by simp[P.d.f98,eJ,q3,D.eq,h3]) (nx _ rN rL (by simp))
 obtain⟨j,d,e,Z1,Z2,rfl,h1,h2,h3,h4⟩:=Ou.run (n:=n+1) (vs:=[(k,.lst (ns.map .int)),(k1,.int m)]) (V:=λd=>∃Z1 Z2,d=.tup [aO (bu M),.int M,.lst [aR M (bu M) (List.replicate m []),aR M (bu M) Z1,aR M (bu M) Z2]]/\Sg (bu M) Z1/\Sg (bu M) Z2/\Z1.length=m/\Z2.length=m) P.f128 rfl rfl (key.mono (λ_ h=>h.elim) (λ_ h=>h) λ_ _ _ h=>h);exact⟨j,M,Z1,Z2,e,hM,h1,h2,h3,h4⟩
end Ip
end
section
namespace Ip
open PySem (Str)
open Classical
def BY {p:Nat}{cs:ab}{Z:af}(C:Cv p cs)(s:Sg cs Z):bF cs Z Z=wl Z:=uX λi e he g hg=>by
 rw[GD] at he;obtain⟨O,h1,rfl⟩:=cJ he;rw[Nat.zero_add,qM h1 h1,GE (Sy.self (((s.wn (GH h1)).mS C g).mp hg))]
section
variable {G:Pg}(P:Pm G)
include P
def pk:cz G 17 2=some (18,lm,.ins 17 []):=by
 simp[cz,P.v.a.c17,P.v.a.f18,lm]
def Gf (n k:Nat)(ns:ao)(hl:ns.length<=63):∃j p cs F Z1 Z2,run G (n+4) 129 [(k,.lst (ns.map .int))]=.ret j (.tup [aO cs,.int (p:Nat),.lst [F,aR p cs Z1,aR p cs Z2]]) []/\(1<=p/\p<=6)/\cs.length<=6/\(∀c∈cs,OkC p c)/\Sg cs Z1/\Sg cs Z2/\Z1.length<=3/\Z2.length=Z1.length:=by
 obtain⟨d1,q1⟩:=iP P.d (n+2) 0 99 ns 0;obtain⟨p,ep,hp,hp'⟩:∃p:Nat,1+ns.getD 0 0 % 6=(p:Int)/\1<=p/\p<7:=dK 1 6 _ (by decide)
 replace hp:1<=p/\p<=6:=⟨hp,IX hp'⟩
 obtain⟨jc,cs,qc,hm,ok⟩:=FV P.d (n+1) 0 0 ns p hp;obtain⟨d8,q8⟩:=iP P.d (n+2) 0 99 ns 8;obtain⟨m,em,hk,hk'⟩:∃m:Nat,1+ns.getD 8 0 % 3=(m:Int)/\1<=m/\m<4:=dK 1 3 _ (by decide)
 replace hk:1<=m/\m<=3:=⟨hk,IX hk'⟩
 have q1':run G (n+3) 98 [(0,.lst (ns.map .int)),(99,.int 0)]=.ret d1 (.int (ns.getD 0 0)) []:=q1;have q8':run G (n+3) 98 [(0,.lst (ns.map .int)),(99,.int 8)]=.ret d8 (.int (ns.getD 8 0)) []:=q8;clear q1 q8;generalize ns.getD 0 0=c0 at q1' ep;generalize ns.getD 8 0=c8 at q8' em;obtain⟨f1,f2⟩:=yE cs hp (m:=m) ⟨hk.1,bH hk.2 (by decide)⟩;have C:=xz hp hm ok;have sF:Sg cs (List.replicate m []):=⟨by simp,by simp⟩
 have lF:(List.replicate m ([]:am)).length=m:=by simp
 obtain⟨jh,M,W1,W2,qh,hM,t1,t2,t3,t4⟩:=Ah P (n+1) 0 0 ns m hk;obtain⟨lC,okC⟩:=vU hM;have V0:∀d:D,d=.tup [aO (bu M),.int M,.lst [aR M (bu M) (List.replicate m []),aR M (bu M) W1,aR M (bu M) W2]]->∃(p:Nat) (cs:ab) (F:D) (Z1 Z2:af),d=.tup [aO cs,.int p,.lst [F,aR p cs Z1,aR p cs Z2]]/\(1<=p/\p<=6)/\cs.length<=6/\(∀c∈cs,OkC p c)/\Sg cs Z1/\Sg cs Z2/\Z1.length<=3/\Z2.length=Z1.length:=λd e=>⟨M,bu M,_,W1,W2,e,⟨bH (by decide) hM.1,hM.2⟩,lC.symm ▸ hM.2,okC,t1,t2,t3.symm ▸ hk.2,t4.trans t3.symm⟩
 generalize List.replicate m ([]:am)=F at *;have mix:∀M:Int,0<M->∃(v:Nat) (j:Nat),run G (n+3) 71 [(d1,.int c0),(99,.int 34),(99,.int M)]=.ret j (.int v) []:=λM hM=>by
  obtain⟨v,j,q,h0,_⟩:=lw P.d (n+2) d1 99 99 c0 34 M hM (by decide);exact⟨v.toNat,j,by rw[q,G2 h0]⟩
 have cut:∃v:Nat,eval G (run G (n+3)) [some (.lst (ns.map .int)),some (.int p),some (.int m),some (aO cs),some (aR p cs F),none,none,none] (.op .add [(.cst (.int (9))),(.call 71 [(.call 98 [(.var 0),(.cst (.int (0)))]),(.cst (.int (34))),(.op .max2 [(.cst (.int (1))),(.op .sub [(.op .len [(.var 0)]),(.cst (.int (9)))])])])])=.ok (99,.int (9+(v:Int))):=by
  by_cases h2:1<(ns.length:Int) - 9
  .obtain⟨v,j,q⟩:=mix ((ns.length:Int) - 9) (Int.lt_trans (by decide) h2);exact⟨v,by simp[P.d.f98,eJ,q1',P.d.f71,gF,h2,q]⟩
  .obtain⟨v,j,q⟩:=mix 1 (by decide);exact⟨v,by simp[P.d.f98,eJ,q1',P.d.f71,gF,h2,q]⟩
 obtain⟨v,e5⟩:=cut;have cut1:cutD (ns.map D.int) (some 9) (some 63)=(cutD ns (some 9) (some 63)).map .int:=sJ _ _ _ _;have cut2:cutD ((cutD ns (some 9) (some 63)).map D.int) none (some (9+(v:Int) - 9))=(cutD (cutD ns (some 9) (some 63)) none (some (9+(v:Int) - 9))).map .int:=sJ _ _ _ _;have cut3:cutD (ns.map D.int) (some (9+(v:Int))) (some 63)=(cutD ns (some (9+(v:Int))) (some 63)).map .int:=sJ _ _ _ _;have l1:=rH ns (some 9) (some 63);have l2:=rH (cutD ns (some 9) (some 63)) none (some (9+(v:Int) - 9));have l3:=rH ns (some (9+(v:Int))) (some 63);obtain⟨j1,xs0,Z,qz,hw0,_⟩:=xl P n 1 0 0 p cs F (cutD (cutD ns (some 9) (some 63)) none (some (9+(v:Int) - 9))) C sF (lF.symm ▸ hk) (bH l2 (bH l1 hl));obtain⟨s,lZ,_⟩:=hw0.good sF;generalize cutD (cutD ns (some 9) (some 63)) none (some (9+(v:Int) - 9))=cells1 at cut2 qz;generalize cutD ns (some (9+(v:Int))) (some 63)=cells2 at cut3 l3;generalize cutD ns (some 9) (some 63)=cells at cut1 cut2;obtain⟨B,iB,sB,lB⟩:∃B:af,aW (.lst [aR p cs Z,aR p cs Z,aR p cs F]) (.int (c8 / 3 % 3))=some (0,aR p cs B)/\Sg cs B/\B.length=m:=by
  obtain⟨r,h,hr⟩:=dN (c8 / 3) (b:=3) (by decide);rw[h];match r,(Jh.mp hr:r<3) with
  | 0,_=>exact⟨Z,rfl,s,lZ.trans lF⟩
  | 1,_=>exact⟨Z,rfl,s,lZ.trans lF⟩
  | 2,_=>exact⟨F,rfl,sF,lF⟩
 obtain⟨j2,xs,Z',qz2,hw,_⟩:=xl P n 1 0 0 p cs B cells2 C sB (lB.symm ▸ hk) (bH l3 hl);obtain⟨s',lZ',_⟩:=hw.good sB;have key:Ou G (run G (n+3)) [] [some (0,.lst (ns.map .int)),none,none,none,none,none,none,none] oI.body (λ_=>False) (λd=>∃(p:Nat) (cs:ab) (F:D) (Z1 Z2:af),d=.tup [aO cs,.int p,.lst [F,aR p cs Z1,aR p cs Z2]]/\(1<=p/\p<=6)/\cs.length<=6/\(∀c∈cs,OkC p c)/\Sg cs Z1/\Sg cs Z2/\Z1.length<=3/\Z2.length=Z1.length) λ_ _ _=>False:=by
  refine Ou.set (x:=(99,.int p)) (by simp[P.d.f98,eJ,q1',ep]) ?_;refine Ou.set (x:=(99,.int m)) (by simp[P.d.f98,eJ,q8',em]) ?_;refine Ou.low (a':=[some (0,.lst (ns.map .int)),some (0,.int p),some (0,.int m),none,none,none,none,none]) (.of_eq (by simp)) ?_;by_cases hb:c0 / 6 % 3=1
  .refine Ou.iffT (j:=99) (by simp[P.d.f98,eJ,q1',D.eq,hb]) ?_;exact Ou.ret (x:=(jh,_)) (by simp[P.f128,lv,qh]) (V0 _ rfl)
  refine Ou.iffN (j:=99) (by simp[P.d.f98,eJ,q1',D.eq,hb]) ?_;refine Ou.set (x:=(jc,aO cs)) (by simp[P.d.f99,oZ,qc]) ?_;refine Ou.set (x:=(0,aR p cs F)) (by simp[-dF,f1,f2]) ?_;refine Ou.low (a':=[some (0,.lst (ns.map .int)),some (0,.int p),some (0,.int m),some (0,aO cs),some (0,aR p cs F),none,none,none]) (.of_eq (by simp)) ?_;refine Ou.set (x:=(99,.int (9+(v:Int)))) e5 ?_;refine Ou.low (a':=[some (0,.lst (ns.map .int)),some (0,.int p),some (0,.int m),some (0,aO cs),some (0,aR p cs F),some (0,.int (9+(v:Int))),none,none]) (.of_eq (by simp)) ?_;refine Ou.set (x:=(0,aR p cs Z)) ?_ ?_
  .generalize aR p cs F=SF at qz ⊢;generalize aR p cs Z=SZ at qz ⊢;generalize aO cs=K at qz ⊢;simp[cut1,cut2,P.f118,mh,qz,d6]
  refine Ou.set (x:=(0,aR p cs Z')) ?_ ?_
  .generalize aR p cs F=SF at *;generalize aR p cs Z=SZ at *;generalize aR p cs Z'=SY at *;generalize aR p cs B=SB at *;generalize aO cs=K at *;have i1:aW (.tup [.lst (xs.map dD),SY]) (.int 1)=some (0,SY):=rfl;generalize D.tup [.lst (xs.map dD),SY]=TT at *;simp[-aW,cut3,P.d.f98,eJ,q8',iB,P.f118,mh,qz2,i1]
  refine Ou.retE (d:=.tup [aO cs,.int p,.lst [aR p cs F,aR p cs Z,aR p cs Z']]) ⟨_,by simp; rfl⟩ ⟨p,cs,_,Z,Z',rfl,hp,hm,ok,s,s',(lZ.trans lF).symm ▸ hk.2,(lZ'.trans lB).trans (lZ.trans lF).symm⟩
 obtain⟨j,d,e,p,cs,F,Z1,Z2,rfl,h⟩:=Ou.run (n:=n+3) (vs:=[(k,.lst (ns.map .int))]) (V:=λd=>∃(p:Nat) (cs:ab) (F:D) (Z1 Z2:af),d=.tup [aO cs,.int p,.lst [F,aR p cs Z1,aR p cs Z2]]/\(1<=p/\p<=6)/\cs.length<=6/\(∀c∈cs,OkC p c)/\Sg cs Z1/\Sg cs Z2/\Z1.length<=3/\Z2.length=Z1.length) P.f129 rfl rfl (key.mono (λ_ h=>h.elim) (λ_ h=>h) λ_ _ _ h=>h);exact⟨j,p,cs,F,Z1,Z2,e,h⟩
def zl (n k:Nat)(ns:ao)(hl:ns.length<=63):∃kk,run G (n+12) 69 [(k,.lst (ns.map .int))]=.ret kk (.bl true) []:=by
 obtain⟨jd,p,cs,F,Z,Z',qd,hp,hm,ok,s,s',l1,l2⟩:=Gf P (n+7) 0 ns hl;have C:=xz hp hm ok;have hCS:cs.length<=SL:=bH hm (by decide);have hcv:aO cs=.lst (cs.map λc=>D.lst (c.map .int)):=rfl;have c5:bc (compF G (run G (n+11)) [none,none] (.one 1) [] (.op .list [.var 1])) (cs.map λc=>D.lst (c.map .int))=.ok (cs.map λc=>(1,.lst (c.map .int))):=
  gU λc _=>by simp[compF]
 have qw:∀k,run G (n+11) 18 [(1,.ins 17 []),(0,.int p),(k,aO cs)]=.ret 99 .non [(100,wd p cs)]:=λk=>EU P.v.a (n+7) 0 k p cs (by omega) hm (λc hc=>(ok c hc).gd) λc hc=>bH (ok c hc).ln (by decide);obtain⟨r1,e1⟩:=pO P n 0 0 0 0 p cs Z Z' C ok s l1 l2;obtain⟨r2,e2⟩:=pO P n 0 0 0 0 p cs Z' Z C ok s' (l2.symm ▸ l1) l2.symm;obtain⟨r3,e3⟩:=pO P n 0 0 0 0 p cs Z Z C ok s l1 rfl;have em:=wv P (n+1) 0 0 0 p cs Z Z C ok s l1 rfl;obtain⟨jw,ew⟩:=sr P (n+10) 0 0 p cs Z C s l1;rw[r9 C s,BY C s] at em;obtain⟨pw,qe⟩:=wH (wl Z);have key:Ou G (run G (n+11)) [] [some (0,.lst (ns.map .int)),none,none,none,none,none,none] ou.body (λ_=>False) (λd=>d=.bl true) λ_ _ _=>False:=by
  refine Ou.setT (j:=jd) (ds:=[aO cs,.int p,.lst [F,aR p cs Z,aR p cs Z']]) (by simp[P.f129,oI,qd]) ?_;refine Ou.low (a':=[some (0,.lst (ns.map .int)),some (0,aO cs),some (0,.int p),some (0,.lst [F,aR p cs Z,aR p cs Z']),none,none,none]) (.of_eq (by simp[bD])) ?_;refine Ou.setE (d:=wd p cs) (by simp[hcv,hCS,c5,pk P,lm,Function.comp_def]; rw[<-hcv]; simp[qw]) ?_;generalize wd p cs=WD at *;generalize aO cs=K at *;generalize aR p cs Z=SA at *;generalize aR p cs Z'=SB at *;have ct:aY (some 1) none (.lst [F,SA,SB])=some (1,.lst [SA,SB]):=by
   have:=nk ([F,SA,SB]:ay) 1;simp only[aY];rw[show (some (1:Int))=some ((1:Nat):Int) from rfl,this];rfl
  refine Ou.setU (j:=1) (ds:=[SA,SB]) (by simp[-aY,ct]) ?_;refine Ou.low (a':=[some (0,.lst (ns.map .int)),some (0,K),some (0,.int p),some (0,.lst [F,SA,SB]),some (0,WD),some (0,SA),some (0,SB)]) (.of_eq (by simp[bD])) ?_;refine Ou.iffN (j:=99) (by simp[P.f113,kJ,e1,e2]) ?_;refine Ou.iffN (j:=99) (by simp[-uf,P.f113,kJ,e3,P.f47,jq,em,P.f124,ls,ew,pw,qe]) ?_;exact Ou.ret (x:=(r1,.bl true)) (by simp[P.f113,kJ,e1]) rfl
 obtain⟨j,d,e,rfl⟩:=Ou.run (n:=n+11) (vs:=[(k,.lst (ns.map .int))]) (V:=λd=>d=.bl true) P.f69 rfl rfl (key.mono (λ_ h=>h.elim) (λ_ h=>h) λ_ _ _ h=>h);exact⟨j,e⟩
end
def Ed:Pm G_k23:=⟨⟨⟨rfl,rfl,rfl,rfl,rfl,rfl,rfl,rfl,rfl⟩,rfl⟩,⟨rfl,rfl,rfl⟩,rfl,rfl,rfl,rfl,rfl,rfl,rfl,rfl,rfl,rfl,rfl,rfl,rfl,rfl,rfl,rfl,rfl,rfl,rfl,rfl,rfl,rfl,rfl⟩
def C0 (ns:ao)(hl:ns.length<=63):∃kk,run G_k23 12 69 [(0,.lst (ns.map .int))]=.ret kk (.bl true) []:=zl Ed 0 0 ns hl
end Ip
end
section
namespace Ek23
open PySem PySem.Spec PyProof.Rows L2
noncomputable abbrev Pw:=PySem.Challenge.pw_quickchange_k23_whole_what_may_stay
noncomputable def sT (n:Nat):Stmt:=Pw.main.body.getD n (.Pass ⟨0,0,0,0⟩)
noncomputable def me:Stmt:=sT 49
noncomputable def xb:Hd.Fd:=⟨"law", "law",69,354,me,none⟩
def B9:FnScope (Ip.fN (ba me) (cx me)) ["_law_script"] (cx me):=(Hd.vo (by kernel_rfl))
theorem CN:Ip.cF Ip.T_k23 [] me=some Ip.ou:=by kernel_rfl
end Ek23
end
section
namespace Ek23
open PySem PySem.Spec PySem.W PySem.Calls PyProof.Rows L2 Hd
set_option maxHeartbeats 0
noncomputable def B:Tl:=⟨[⟨"is_whole", "is_whole",0,28,sT 3,none⟩,⟨"is_below", "is_below",1,35,sT 4,none⟩,⟨"is_rising", "is_rising",15,117,sT 14,none⟩,⟨"are_places", "are_places",16,122,sT 15,none⟩,⟨"check_garment", "check_garment",17,129,sT 16,none⟩,⟨"worn_in", "worn_in",24,183,sT 19,none⟩,⟨"may_lie", "may_lie",34,190,sT 21,none⟩,⟨"check_things", "check_things",35,197,sT 22,none⟩,⟨"check_lacking", "check_lacking",36,204,sT 23,none⟩,⟨"still_under", "still_under",37,211,sT 24,none⟩,⟨"ring_among", "ring_among",38,218,sT 25,none⟩,⟨"order_of", "order_of",39,223,sT 26,none⟩,⟨"reason_against", "reason_against",45,230,sT 28,none⟩,⟨"staying_on", "staying_on",46,237,sT 29,none⟩,⟨"may_stay", "may_stay",47,244,sT 30,none⟩,⟨"reasons_why", "reasons_why",48,251,sT 31,none⟩,⟨"_law_cell", "_law_cell",98,258,sT 33,none⟩,⟨"_law_mix", "_law_mix",71,265,sT 34,none⟩,⟨"_law_whole", "_law_whole",73,272,sT 35,none⟩,⟨"_law_covers", "_law_covers",99,277,sT 36,none⟩,⟨"_law_wears", "_law_wears",115,282,sT 37,none⟩,⟨"_law_deed", "_law_deed",116,287,sT 38,none⟩,⟨"_law_moved", "_law_moved",117,294,sT 39,none⟩,⟨"_law_walk", "_law_walk",118,301,sT 40,none⟩,⟨"_law_same_to", "_law_same_to",123,308,sT 41,none⟩,⟨"_law_worn", "_law_worn",124,315,sT 42,none⟩,⟨"_law_kept", "_law_kept",125,320,sT 43,none⟩,⟨"_law_reason", "_law_reason",126,327,sT 44,none⟩,⟨"_law_right", "_law_right",113,332,sT 45,none⟩,⟨"_law_laid", "_law_laid",127,337,sT 46,none⟩,⟨"_law_chain", "_law_chain",128,342,sT 47,none⟩,⟨"_law_drawn", "_law_drawn",129,349,sT 48,none⟩,xb],[⟨"Wardrobe",17,172,⟨"__init__", "Wardrobe.__init__",18,141,en (sT 17) 0,none⟩⟩],[],[(172,⟨"many", "Wardrobe.many",20,155,en (sT 17) 2,none⟩),(172,⟨"covers", "Wardrobe.covers",21,162,en (sT 17) 3,none⟩)],[("DEEPEST",100,196),("MOST_PLACES",6,321),("MOST_GARMENTS",6,323)],[]⟩
noncomputable def kQ:au:=rB Ip.T_k23.fl Ip.T_k23.att
def facts {w:World}{K:Frag}{mg:Str->aB}{fa:Addr}{h:Heap}(hq:B.q kQ K=B.a kQ Ip.G_k23)(KX:K.In h)(Gl:h.Ns mainGlobals mg)(hmg:mg "law" = some (.ref fa)) :
  ∃fd:FuncData,(∀(s:Shared) (u:Value),BindsTo s fd ⟨[u],[]⟩ [("_law_script",u)])/\∀base:Heap,K.In base->base.Ns mainGlobals mg->FnOk Pw w K mg base (fQ Pw w) (rm 12) fa fd ["_law_script"] (f7 K):=by
 have A:=Do hq;have g0:=Fy (T:=Ip.T_k23) Ip.clL_k23 KX Gl A (λ_=>rfl) rfl (by decide +kernel) (by decide +kernel) rfl (by decide +kernel) (by decide +kernel)
  (Cn ⟨_,rfl,λh=>Hd.cq (ps:=["value"]) (io:=[]) h⟩ <| Cn ⟨_,rfl,λh=>Hd.cq (ps:=["value", "bound"]) (io:=[]) h⟩ <| Cn ⟨_,rfl,λh=>Hd.cq (ps:=["numbers"]) (io:=[]) h⟩ <| Cn ⟨_,rfl,λh=>Hd.cq (ps:=["told", "spots"]) (io:=[]) h⟩ <| Cn ⟨_,rfl,λh=>Hd.cq (ps:=["wardrobe", "garment"]) (io:=[]) h⟩ <| Cn ⟨_,rfl,λh=>Hd.cq (ps:=["wearing"]) (io:=[]) h⟩ <| Cn ⟨_,rfl,λh=>Hd.cq (ps:=["wardrobe", "place", "thing"]) (io:=[]) h⟩ <| Cn ⟨_,rfl,λh=>Hd.cq (ps:=["wardrobe", "rows"]) (io:=[]) h⟩ <| Cn ⟨_,rfl,λh=>Hd.cq (ps:=["wardrobe", "rows"]) (io:=[]) h⟩ <| Cn ⟨_,rfl,λh=>Hd.cq (ps:=["wardrobe", "rows", "garment", "left"]) (io:=[]) h⟩ <| Cn ⟨_,rfl,λh=>Hd.cq (ps:=["wardrobe", "rows", "left"]) (io:=[]) h⟩ <| Cn ⟨_,rfl,λh=>Hd.cq (ps:=["wardrobe", "rows"]) (io:=[]) h⟩ <| Cn ⟨_,rfl,λh=>Hd.cq (ps:=["wardrobe", "wearing", "goal", "staying", "garment"]) (io:=[]) h⟩ <| Cn ⟨_,rfl,λh=>Hd.cq (ps:=["wardrobe", "wearing", "goal"]) (io:=[]) h⟩ <| Cn ⟨_,rfl,λh=>Hd.cq (ps:=["wardrobe", "one", "other"]) (io:=[]) h⟩ <| Cn ⟨_,rfl,λh=>Hd.cq (ps:=["wardrobe", "one", "other"]) (io:=[]) h⟩ <| Cn ⟨_,rfl,λh=>Hd.cq (ps:=["_law_script", "_law_k"]) (io:=[]) h⟩ <| Cn ⟨_,rfl,λh=>Hd.cq (ps:=["_law_cell_here", "_law_salt", "_law_many"]) (io:=[]) h⟩ <| Cn ⟨_,rfl,λh=>Hd.cq (ps:=["_law_thing"]) (io:=[]) h⟩ <| Cn ⟨_,rfl,λh=>Hd.cq (ps:=["_law_script", "_law_places"]) (io:=[]) h⟩ <| Cn ⟨_,rfl,λh=>Hd.cq (ps:=["_law_standing", "_law_garment"]) (io:=[]) h⟩ <| Cn ⟨_,rfl,λh=>Hd.cq (ps:=["_law_cell_here", "_law_standing", "_law_covers_here"]) (io:=[]) h⟩ <| Cn ⟨_,rfl,λh=>Hd.cq (ps:=["_law_standing", "_law_deed_here", "_law_covers_here"]) (io:=[]) h⟩ <| Cn ⟨_,rfl,λh=>Hd.cq (ps:=["_law_cells", "_law_standing", "_law_covers_here"]) (io:=[]) h⟩ <| Cn ⟨_,rfl,λh=>Hd.cq (ps:=["_law_one", "_law_other", "_law_player", "_law_garment", "_law_place"]) (io:=[]) h⟩ <| Cn ⟨_,rfl,λh=>Hd.cq (ps:=["_law_standing", "_law_covers_here"]) (io:=[]) h⟩ <| Cn ⟨_,rfl,λh=>Hd.cq (ps:=["_law_stays", "_law_one", "_law_other", "_law_covers_here"]) (io:=[]) h⟩ <| Cn ⟨_,rfl,λh=>Hd.cq (ps:=["_law_reason_here", "_law_pair", "_law_stays", "_law_one", "_law_other", "_law_covers_here"]) (io:=[]) h⟩ <| Cn ⟨_,rfl,λh=>Hd.cq (ps:=["_law_wardrobe", "_law_one", "_law_other", "_law_covers_here"]) (io:=[]) h⟩ <| Cn ⟨_,rfl,λh=>Hd.cq (ps:=["_law_covers_here", "_law_places", "_law_order"]) (io:=[]) h⟩ <| Cn ⟨_,rfl,λh=>Hd.cq (ps:=["_law_script", "_law_players"]) (io:=[]) h⟩ <| Cn ⟨_,rfl,λh=>Hd.cq (ps:=["_law_script"]) (io:=[]) h⟩ <| Cn ⟨_,rfl,λh=>Hd.cq (ps:=["_law_script"]) (io:=[]) h⟩ <| Nl)
  (Cn ⟨⟨_,rfl,λh=>Hd.cq (ps:=["self", "places", "covers"]) (io:=[0]) h⟩,rfl,_,rfl,rfl,rfl⟩ <| Nl)
  (Nl)
  (Cn ⟨_,rfl,λh=>Hd.cq (ps:=["self"]) (io:=[]) h⟩ <| Cn ⟨_,rfl,λh=>Hd.cq (ps:=["self", "garment"]) (io:=[]) h⟩ <| Nl) (by decide +kernel)
 obtain⟨a1,_,a3⟩:=A.f xb (by simp[B]);have e:=hmg.symm.trans (mg_of KX Gl a1);cases e;exact FH (n:=12) g0 A.l rfl rfl (vp (Im a3).1) B9 CN rfl (λ_ _ _ _ _ _ _=>rfl) Ip.C0
noncomputable def T0 (P:Params):BT:=(.node (boot_o_0 P) (.node (boot_o_1 P) (.node (boot_o_3 P) (.node (boot_o_7 P) .nil .nil) .nil) (.node (boot_o_5 P) (.node (boot_o_9 P) .nil .nil) .nil)) (.node (boot_o_2 P) (.node (boot_o_4 P) (.node (boot_o_8 P) .nil .nil) .nil) (.node (boot_o_6 P) (.node (boot_o_10 P) .nil .nil) .nil)))
noncomputable def vx:aq:=[2,3,15,17,18,20,21,22,24,25,27,28,29,31,32,34,35,36,37,40,41,42,49,50,51,52,55,62,63,65,66,68,69,70,71,72,75,82,84,85,87,88,89,90,91,94,101,103,104,106,107,108,109,110,113,116,117,118,121,122,123,125,126,128,129,137,140,141,142,144,145,147,148,149,151,152,154,155,156,158,159,161,162,163,165,166,168,169,170,171,172,173,174,177,179,180,182,183,184,186,187,189,190,191,193,194,196,197,198,200,201,203,204,205,207,208,210,211,212,214,215,217,218,219,222,223,224,226,227,229,230,231,233,234,236,237,238,240,241,243,244,245,247,248,250,251,252,254,255,257,258,259,261,262,264,265,266,268,269,271,272,273,276,277,278,281,282,283,286,287,288,290,291,293,294,295,297,298,300,301,302,304,305,307,308,309,311,312,314,315,316,319,320,321,323,324,326,327,328,331,332,333,336,337,338,341,342,343,345,346,348,349,350,353,354]
noncomputable def looseL:List Str:=(["_wall", "DEEPEST", "is_whole", "is_below", "copied", "WardrobeError", "TooMuch", "NoGarment", "NoLook", "MOST_PLACES", "MOST_GARMENTS", "is_rising", "are_places", "check_garment", "Wardrobe", "worn_in", "may_lie", "check_things", "check_lacking", "still_under", "ring_among", "order_of", "reason_against", "staying_on", "may_stay", "reasons_why", "_law_cell", "_law_mix", "_law_whole", "_law_covers", "_law_wears", "_law_deed", "_law_moved", "_law_walk", "_law_same_to", "_law_worn", "_law_kept", "_law_reason", "_law_right", "_law_laid", "_law_chain", "_law_drawn"]:List String).map Str.ofString
noncomputable abbrev hk:Hook:=iR vx (B.q kQ) (B.a kQ Ip.G_k23)
noncomputable abbrev Xt (s:Shared):Bool:=xlAt (view Pw [49]) [] s&&recOk (PySem.Challenge.rw_quickchange_k23_whole_what_may_stay.row.toRowW).records s
noncomputable def pV:Thread:=⟨do let code <-moduleCode Pw.main
                                       let frame <-newBodyFrame code mainNs mainNs
                                       let _ <-run (.body (behindTheImports Pw) { scope:=Pw.main.scope,locals:=mainNs,globals:=mainNs,cells:=[],code,frame:=some frame })
                                       ret .none,
   .builtin "claim.caller" {},default,[]⟩
noncomputable def runAll (w:World)(os:OsState):=(gK through (stepOk 11 (some (.ref 6))) (stepT (denote treeTable) Pw w) 2513 ⟨T0 w.params,11,(boot_heap w.params).life,Array.mk [],boot_drawn,boot_toks,os⟩ pV).map
 (lookG (importedModules Pw.main.body) (staticsOk (importedModules Pw.main.body)) laidKept (namesBound Pw) (openSeen (view Pw [49]) looseL (importedModules Pw.main.body) Xt true) (λs=>B.q kQ (oY vx s.heap)) (boot_heap w.params))
noncomputable def _root_.PySem.W.Fast.tw18112876206109881030:Program:=PySem.Challenge.pw_quickchange_k23_whole_what_may_stay
theorem _root_.PySem.W.Fast.te18112876206109881030:PySem.Challenge.pw_quickchange_k23_whole_what_may_stay=PySem.W.Fast.tw18112876206109881030:=rfl
noncomputable def dum {α:Type}(_:α):Bool:=true
def mk:dum runAll=true:=by k_qdec
theorem t0 (P:Params):absHeap (T0 P) 11 (boot_heap P).life=boot_heap P:=by kernel_rfl
def A4 (w:World)(os:OsState):runAll w os=some (true,openGood (view Pw [49]) looseL,B.a kQ Ip.G_k23):=by
 rw[PySem.W.Fast.te9484814917782072476];kernel_rfl
def left:LeftO Pw (view Pw [49]) looseL Xt (Hook.obs hk) (Hook.val hk) 2513:=
 C4 (T0:=T0) (m₀:=11) (ann:=some (.ref 6)) (life:=λP=>(boot_heap P).life) (by kernel_rfl) (by decide) (λs=>rfl) (λw=>by kernel_rfl) t0 A4
end Ek23
open PySem PySem.W PyProof.Rows L2 Hd in
set_option maxRecDepth 100000 in
set_option maxHeartbeats 0 in
theorem PySem.Challenge.cw_quickchange_k23_whole_what_may_stay_holds : PySem.Challenge.rw_quickchange_k23_whole_what_may_stay.Holds := by
 w_on; o_law
 refine holds_open (r:=PySem.Challenge.rw_quickchange_k23_whole_what_may_stay.row) (q:=view Ek23.Pw [49]) (loose:=Ek23.looseL) (Xt:=Ek23.Xt) (XP:=XL (view Ek23.Pw [49]) []) (Yf:=Hook.obs Ek23.hk) (Ya:=Hook.val Ek23.hk) (YP:=Hook.says Ek23.hk) (N:=2513) Ek23.left (Hook.of Ek23.hk) (Hook.keeps Ek23.hk) (λs e=>xl_of s (Bool.and_eq_true_iff.mp e).1) XL.keeps (by rfl) (by rfl) (by rfl) (λs e=>recFacts_of (Bool.and_eq_true_iff.mp e).2) (by rfl) (by first | assumption | decide +kernel) (by decide +kernel) ⟨rfl,rfl,rfl,rfl,rfl,by decide +kernel⟩ ?hw ?hc
 case hw=>w_witness2
 case hc=>
  refine FT (l:=PySem.Challenge.rw_quickchange_k23_whole_what_may_stay) (n:=63) (k:=L2.rm 12) (x := "_law_script") (CX:=λw=>L2.fQ PySem.Challenge.pw_quickchange_k23_whole_what_may_stay w) (sp:=λ_ K=>L2.f7 K) rfl (by decide) rfl ⟨rfl,by decide,by decide⟩ ?F ?S ?C
  case F=>exact λw K mg fa h hq KX G hmg=>Ek23.facts hq KX G hmg
  case S=>exact λw K H a ns hl _ hS=>⟨a,ns,rfl,hS,hl,λ_=>rfl⟩
  case C=>
   rintro w H s e s' ⟨_,_,_,_,_,_,_,_,_,_,_,_,_,_,z⟩;exact z
#print axioms PySem.Challenge.cw_quickchange_k23_whole_what_may_stay_holds
end
