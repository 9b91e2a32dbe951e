import PyProof.Rows.All
import Wide.All
import OpenK.AllK
import Wide.FinOn
import PyProof.EqAt
import PyProof.EqKinds
import PyProof.TupleCall
import Lean
import PyProof.Rows.SetFrom
import PyProof.Rows.SortWalk
import KE.KDictList
import KE.KSortedM
import PyProof.WalkInts
import PySem.Challenge.RW_quickchange_k31_a_beat_done
set_option Elab.async false
set_option linter.all false
set_option maxRecDepth 100000
set_option compiler.extract_closed false
set_option backward.eqns.nonrecursive false
set_option genSizeOf false
set_option bootstrap.genMatcherCode false
def tw:=@Bool.and_eq_true
def GE:=@List.size_toArray
def GG:=@List.getElem?_set_ne
def GH:=@List.length_map
def GI:=@List.mem_singleton
def GJ:=@List.getElem?_eq_getElem
def GK:=@List.getElem?_map
def GL:=@List.getElem?_set_self
def GM:=@List.map_cons
def GN:=@beq_iff_eq
def GO:=@PySem.wpAny_loadPart_at
def GP:=@List.getD_eq_getElem?_getD
def GQ:=@List.length_append
def GR:=@List.getElem?_eq_none
def GS:=@decide_eq_true_eq
def GU:=@List.nodup_append
def GV:=@List.mem_of_getElem?
def GW:=@List.not_mem_nil
def GX:=@List.length_set
def GY:=@List.mem_cons
def GZ:=@decide_eq_true
def G0:=@PySem.Heap.size_push
def G1:=@List.mem_filter
def G2:=@List.nodup_cons
def G3:=@Nat.zero_le
def G4:=@List.mem_map_of_mem
def G5:=@List.getElem_mem
def G6:=@Bool.or_eq_true
def G7:=@List.map_inj_left
def G8:=@List.findIdx?_eq_some_iff_getElem
def G9:=@PySem.wpAny_newObj_type
def Ha:=@List.ext_getElem?
def Hb:=@Bool.false_ne_true
def He:=@PySem.wpAny_Call_Name_kw
def Hf:=@PyProof.Rows.slot_tuple_getitem
def Hg:=@PySem.W.kia_one
def Hh:=@List.mem_range
def Hi:=@PySem.wpAny_truthy_bool
def Hj:=@Prod.mk.injEq
def Hk:=@List.getElem?_mapIdx
def Hl:=@PySem.wpAny_mono
def Hm:=@PySem.mem_of_lookup
def Hn:=@PySem.wpAny_isSubtype_exc
def Ho:=@PyProof.Rows.callWith_type1
def Hq:=@Array.getElem?_eq_some_iff
def Hr:=@List.cons.injEq
def Hs:=@List.mem_flatten
def Ht:=@List.contains_iff_mem
def Hu:=@List.mem_append
def Hv:=@PySem.wpAny_call_entry
def Hw:=@PySem.F.plainAttrs_list
def Hx:=@Nat.lt_irrefl
def Hy:=@List.length_eq_one_iff
def Hz:=@List.append_nil
def HA:=@Nat.le_succ
def HB:=@PySem.wpAny_field
def HC:=@PySem.Heap.get?_update_self
def HD:=@List.length_take
def HE:=@Nat.lt_succ_of_lt
def HF:=@Option.some.injEq
def HG:=@decide_eq_false
def HH:=@beq_eq_false_iff_ne
def HI:=@PySem.Heap.SameBut.update
def HJ:=@List.filter_eq_self
def HK:=@Nat.le_of_lt
def HL:=@Nat.ne_of_gt
def HM:=@PySem.Heap.get?_update_other
def HN:=@List.isEmpty_iff
def HP:=@List.mem_cons_self
def HQ:=@PySem.F.excBase_ValueError
def HR:=@List.getElem?_append_left
def HS:=@List.drop_eq_getElem_cons
def HU:=@List.map_append
def HV:=@List.mem_cons_of_mem
def HW:=@PySem.codeAny_call_builtin
def HX:=@PySem.Around.under_plainId
def HY:=@of_decide_eq_true
def HZ:=@List.getElem?_set
def H0:=@Bool.and_eq_true_iff
def H9:=@PySem.wpAny_holding
def Ia:=@PySem.AutoSeq1.wpAny_loadPart'
def Ib:=@PySem.W.callWith_K0
def Ie:=@Nat.lt_succ_self
def Ig:=@PyProof.Rows.callWith_builtin1
def Ih:=@List.length_drop
def Ii:=@List.any_eq_true
def Ij:=@Ne.symm
def Ik:=@List.mem_filterMap
def Il:=@List.contains_cons
def Io:=@PySem.W.looks_findIn
def Iq:=@PySem.F.called_set
def Ir:=@List.findIdx?_cons
def Iu:=@List.pairwise_cons
def Iv:=@PySem.wpAny_ite_split
def Iw:=@PySem.codeAny_builtin
def Ix:=@PySem.W.methodCall_KW
def Iy:=@Nat.le_of_ble_eq_true
def Iz:=@Bool.not_eq_true'
def IA:=@List.length_range
def IB:=@PySem.Heap.get?_none_of_le
def IC:=@True.intro
def ID:=@List.contains_append
def IE:=@Prod.mk.inj
def IF:=@Nat.ne_of_lt
def IG:=@PySem.codeAny_mono
def II:=@List.range'_succ
def IJ:=@Array.getElem?_eq_getElem
def IK:=@List.getElem?_range
def IL:=@List.flatten_append
def IM:=@PySem.F.args_tuple_add_2
def IN:=@List.map_take
def IP:=@List.map_drop
def IQ:=@PySem.wpAny_passesOwn
def IR:=@PySem.W.callWith_K
def IS:=@List.filter_filter
def IT:=@PySem.F.entry_tuple_add
def IU:=@PyProof.Rows.F.plain_set_update_loop
def IV:=@PySem.wpAny_pyIter_list
def IW:=@PySem.F.slot_tuple_add
def IX:=@List.reverse_cons
def IY:=@Bool.or_true
def IZ:=@PySem.wpAny_pyIter_enum
def I0:=@PySem.wpAny_setState_of
def Ja:=@Array.getElem?_eq_none
def Jb:=@PySem.F.slot_tuple_iterator_next
def Jc:=@List.take_of_length_le
def Jd:=@List.map_map
def Je:=@List.drop_of_length_le
def Jf:=@Array.getElem?_setIfInBounds_ne
def Jh:=@List.length_replicate
def Ji:=@PySem.Obj.isFreed_of_fields
def Jj:=@List.length_filter_le
def Jk:=@PySem.builtinLookup_eq_fast
def Jl:=@Array.getElem?_toList
def Jm:=@List.eq_replicate_iff
def Jn:=@Array.toList_inj
def Jo:=@List.mem_reverse
def Jp:=@PySem.wpAny_execs_nil
def Jq:=@Bool.eq_iff_iff
def Jr:=@PySem.W.plainGet_of
def Js:=@PySem.wpAny_setEntries_of
def Jt:=@Nat.le_of_eq
def Ju:=@List.map_set
def Jv:=@PySem.wpAny_pyIter_tuple
def Jw:=@PySem.W.kitx_tuple
def Jx:=@PySem.Calls.spliced_cons
def Jz:=@PySem.wpAny_call
def JA:=@PySem.call_meets
def JB:=@PySem.wpAny_setField
def JC:=@PySem.Obj.data_mapFields
def JD:=@PySem.Code.quiet_builtin
def JE:=@PySem.isSubtype_type
def JF:=@List.length_mapIdx
def JG:=@PySem.W.kitx_list
def JH:=@bne_self_eq_false
def JI:=@Array.toList_push
def JJ:=@List.append_assoc
def JK:=@List.foldl_append
def JL:=@Bool.false_or
def JM:=@PySem.wpAny_standAt
def JN:=@Bool.and_true
def bK:=@HV
def bP:=@HP
def cx:=@List.mem_append_right
def ev:=@List.mem_append_left
def cb:=@PySem.Heap.get?_push_of_some
def dH:=@PySem.Heap.get?_push_size
def bS:=@PySem.Heap.lt_size
def bA:=@Nat.le_refl
def bC:=@Nat.le_trans
def eD:=@Nat.lt_of_lt_of_le
def dA:=@IF
def cm:=@Option.some.inj
def aL:=@PySem.wpAny_bind
def ba:=@PySem.wpAny_pure
theorem ck{α:Type}{a b:α}{l:List α}:a∈b::l->a=b\/a∈l:=GY.mp
theorem dL{α:Type}{a:α}{s t:List α}:a∈s++t->a∈s\/a∈t:=Hu.mp
theorem cn{α β:Type}{b:β}{x:Option α}{f:α->Option β}:x.bind f=some b->∃a,x=some a/\f a=some b:=Option.bind_eq_some_iff.mp
theorem cM{α β:Type}{b:β}{x:Option α}{f:α->β}:x.map f=some b->∃a,x=some a/\f a=b:=Option.map_eq_some_iff.mp
theorem di{α:Type}{i:Nat}{a:α}{l:List α}:l[i]?=some a->∃h:i<l.length,l[i]=a:=List.getElem?_eq_some_iff.mp
theorem dU{α:Type}{p:α->Bool}{l:List α}:l.all p=true->∀x∈l,p x=true:=List.all_eq_true.mp
theorem eJ{α β:Type}{b:β}{l:List α}{f:α->β}:b∈l.map f->∃a,a∈l/\f a=b:=List.mem_map.mp
abbrev bh:=PySem.W.Frag
section
abbrev _root_.aG:=List PySem.Stmt
abbrev _root_.aE:=Option PySem.Addr
abbrev _root_.aC:=Option Nat
abbrev _root_.aB:=Array PySem.Value
abbrev _root_.aA:=Option PySem.Value
abbrev _root_.au:=List PySem.Expr
abbrev _root_.ar:=List PySem.Str
abbrev _root_.ao:=List PySem.Value
abbrev _root_.al:=List PySem.Addr
abbrev _root_.ak:=List Int
abbrev _root_.aj:=List Nat
abbrev _root_.ai:=List (PySem.Str×PySem.Addr)
abbrev _root_.ah:=List (PySem.Addr×PySem.Obj)
abbrev _root_.af:=List aj
abbrev _root_.ac:=List ak
namespace L2
open PySem PySem.Spec PyProof.Rows
noncomputable def bR (s:Stmt)(j:Nat):Stmt:=match s with
 | .ClassDef _ _ _ body _ _ _ _ _ _ _=>body.getD j (.Pass ⟨0,0,0,0⟩)
 | _=>.Pass ⟨0,0,0,0⟩
noncomputable def aO (s:Stmt):Arguments:=match s with
 | .FunctionDef _ a _ _ _ _ _ _ _ _=>a
 | _=>{ posonlyargs:=[],args:=[],vararg:=none,kwonlyargs:=[],kw_defaults:=[],kwarg:=none,defaults:=[] }
noncomputable def aS (s:Stmt):aG:=match s with
 | .FunctionDef _ _ b _ _ _ _ _ _ _=>b
 | _=>[]
noncomputable def bW (s:Stmt):Scope:=match s with
 | .FunctionDef _ _ _ _ _ _ a _ _ _=>a
 | _=>{ kind:=.function,names:=[],isGenerator:=false,isCoroutine:=false }
end L2
end
namespace L2
open PySem PySem.W Builtin Builtin.ObjectAttr
noncomputable abbrev bU:ao:=[.type "ValueError",.type "Exception",.type "BaseException",.type "object"]
end L2
namespace Ip
open PySem (Str)
noncomputable section
inductive D where
 | non | bl (b:Bool) | int (i:Int) | str (s:Str)
 | lst (xs:List D) | tup (xs:List D)
 | ins (c:Nat) (fs:List (Nat×D))
 | exc (c:Nat) (fs:List (Nat×D))
 deriving Inhabited
abbrev _root_.aH:=Nat×D
abbrev _root_.ax:=List D
inductive Ty where
 | int | bool | str | list | tuple | dict | verr | cls (c:Nat)
inductive Op where
 | add | sub | mul | fdiv | mod | pow | shr | neg | not
 | eq | ne | lt | le | gt | ge | isN | notN | isin | nin
 | lst | tup | ix | slL | slH | slLH | rev
 | fld (f:Nat) | isi (ts:List Ty)
 | len | list | lrng | lrev | tuple | all | any | toInt | sum | srt | srtSet | symd | min1 | min2 | max2
 | index | count
inductive Wk where
 | seq | rng1 | rng2 | rngD | enum | zip | rev
inductive Tg where
 | one (i:Nat) | many (is:aj)
inductive Ex where
 | var (i:Nat)
 | cst (d:D)
 | op (o:Op) (es:List Ex)
 | and (a b:Ex) | or (a b:Ex)
 | chain (o p:Op) (a b c:Ex)
 | sl2 (a l h:Ex)
 | comp (caps:List aC) (tg:Tg) (wk:Wk) (it:List Ex) (t:List Ex) (e:Ex)
 | call (f:Nat) (es:List Ex)
 | make (c:Nat) (es:List Ex)
 | meth (m:Nat) (o:Ex) (es:List Ex)
 | bad
 deriving Inhabited
abbrev _root_.aF:=List Ex
inductive Mu where
 | append | extend | clear | insert | remove | pop0
inductive S where
 | set (i:Nat) (e:Ex)
 | setT (is:aj) (e:Ex)
 | ret (e:Ex)
 | ex (e:Ex)
 | iff (c:Ex) (t e:List S)
 | fo (tg:Tg) (wk:Wk) (it:aF) (b:List S)
 | rais (c:Nat) (es:aF)
 | mut (x:Nat) (path:aF) (m:Mu) (es:aF)
 | put (x:Nat) (path:aF) (i e:Ex)
 | sfld (i:Nat) (f:Nat) (e:Ex)
 | xinit (es:aF)
 | tryE (b:List S) (c:Nat) (i x:Nat)
 | raisV (c:Nat)
 | nest (x:Nat) (is:aj) (rm:Bool) (j:Nat)
 | byref (f x:Nat) (es:aF)
 | bad
 deriving Inhabited
abbrev _root_.ay:=List S
structure Fn where
 np:Nat
 io:aj
 ns:Nat
 dfl:ax
 body:ay
structure Cl where
 init:aC
 meths:List (Nat×Nat)
 ups:aj
 isx:Bool
structure Pg where
 fn:Nat->Option Fn
 cl:Nat->Option Cl
@[simp] noncomputable def mB:Ty->Bool
 | .bool=>true | .int=>true | _=>false
@[simp] noncomputable def jh:Ty->Bool
 | .int=>true | _=>false
@[simp] noncomputable def jz:Ty->Bool
 | .str=>true | _=>false
@[simp] noncomputable def jw:Ty->Bool
 | .list=>true | _=>false
@[simp] noncomputable def i9:Ty->Bool
 | .tuple=>true | _=>false
@[simp] noncomputable def jx (G:Pg)(c d:Nat):Bool:=match G.cl c with
 | some K=>decide (d=c)||K.ups.contains d
 | none=>false
@[simp] noncomputable def jB (G:Pg)(c:Nat):Ty->Bool
 | .cls d=>jx G c d | _=>false
@[simp] noncomputable def jJ (G:Pg)(c:Nat):Ty->Bool
 | .cls d=>jx G c d | .verr=>true | _=>false
noncomputable def aZ (G:Pg):D->Ty->Bool
 | .bl _=>mB
 | .int _=>jh
 | .str _=>jz
 | .lst _=>jw
 | .tup _=>i9
 | .ins c _=>jB G c
 | .exc c _=>jJ G c
 | .non=>λ_=>false
end
end Ip
namespace Ip
open PySem
structure Tb where
 fns:List (Str×Nat)
 cls:List (Str×Nat)
 wb:Str
 att:ar
 fl:aj
 cst:List (Str×D)
 bare:List (Str×Nat)
 rf:aj
noncomputable def jS:List (Str×Ty):=[("int",.int),("bool",.bool),("str",.str),("list",.list),("tuple",.tuple),("dict",.dict),("ValueError",.verr)]
end Ip
namespace L2
open PySem PySem.Spec PyProof.Rows
open Ip (D Ex Op Pg Fn Wk Tg Tb)
noncomputable def cy:List (Str×Value):=[("len",.builtin "len"),("all",.builtin "all"),("any",.builtin "any"),("isinstance",.builtin "isinstance"),("max",.builtin "max"),("min",.builtin "min"),("list",.type "list"),("tuple",.type "tuple"),("range",.type "range"),("enumerate",.type "enumerate"),("zip",.type "zip"),("int",.type "int"),("sorted",.builtin "sorted"),("set",.type "set")]
section
noncomputable def oM (fl:aj)(att:ar):ar:=fl.filterMap λf=>att[f]?
end
end L2
namespace Hd
open PySem PySem.W PySem.Calls PyProof.Rows
noncomputable def gV (a ok:Thread->Bool)(stp:SharedT->Thread->Option (SharedT×Thread))(n:Nat):SharedT->Thread->Option SharedT:=
 @Nat.rec (λ_=>SharedT->Thread->Option SharedT) (λ_ _=>none) (λ_ b s t=>match a t with
  | true=>some s
  | false=>match ok t with
   | false=>none
   | true=>match stp s t with
    | some (d,c)=>b d c
    | none=>none) n
noncomputable def lookG {β α:Type}(b:ar)(c f:Heap->Heap->Bool)(d:Heap->Bool)(seen:Shared->β)(e:Shared->α)(a:Heap)(st:SharedT):Bool×β×α:=
 (c a st.abs.heap&&d st.abs.heap&&gensDone st.abs&&f a st.abs.heap,seen st.abs,e st.abs)
end Hd
namespace Hd
open PySem PySem.Spec PySem.W PyProof.Rows L2
abbrev wl:=(Str×Str×Arguments×FuncBody)×Scope×Addr×List (Str×Addr)×Value×Addr×Bool
noncomputable def jW (K:Frag)(f:Addr):Option wl:=match K.lookup f with
 | some ⟨_,_,.func a,_⟩=>some ((a.name,a.qualname,a.params,a.body),a.scope,a.globals,a.closure,a.defaults,a.builtins,codeIn K a.code a.qualname)
 | _=>none
abbrev sL:=Value×List Value×Bool×Bool×aA
noncomputable def oJ (K:Frag)(C:Addr):Option sL:=match K.lookup C with
 | some ⟨c,_,.cls a,⟨[_,_,_,_,b,_]⟩⟩=>some (c,a.mro,a.hasDict,a.hasDel,b)
 | _=>none
noncomputable def iK (K:Frag)(t:Addr):Option ao:=match K.lookup t with
 | some ⟨_,_,.seq a _,_⟩=>some a.toList
 | _=>none
noncomputable def nE (as:al)(h:Heap):Frag:=as.filterMap λa=>(h.get? a).map λo=>(a,o)
structure Fd where
 x:Str
 q:Str
 k:Nat
 f:Addr
 st:Stmt
 d:Option (Addr×Value)
abbrev OV:=Option aA
abbrev DV:=Option wl×Option (Option ao)
noncomputable def mG (d:Option (Addr×Value)):Value:=match d with
 | none=>.none
 | some p=>.ref p.1
noncomputable def qD (K:Frag)(d:Fd):DV:=(jW K d.f,d.d.map λp=>iK K p.1)
noncomputable def aD (d:Fd):DV:=(some ((d.x,d.q,aO d.st,.stmts (aS d.st)),bW d.st,mainGlobals,[],mG d.d,builtinsNs,true),d.d.map λp=>some [p.2])
section
structure Ic where
 x:Str
 c:Nat
 C:Addr
 d:Fd
structure Xc where
 x:Str
 c:Nat
 C:Addr
 tl:al
 d:Fd
noncomputable def qI (K:Frag)(a:ar)(e:Ic):OV×List Bool×List OV×List (Option Bool)×List OV×DV:=
  (nsIn K mainGlobals e.x,[plainGet K e.C Str.empty,hasDictIn K e.C,plainOver K e.C,makesIn K e.C,isFn K (.ref e.d.f),keepIn K (.ref e.C)],
   [findIn K (.ref e.C) "__setattr__",findIn K (.ref e.C) "__class__",specialIn K (.builtin "object.__class__") "__get__",findIn K (.ref e.C) "__init__"],
   [takesIn K (.builtin "object.__class__"),mroIn K e.C (.type "object")],a.map λn=>findIn K (.ref e.C) n,qD K e.d)
noncomputable def aI (a:ar)(e:Ic):OV×List Bool×List OV×List (Option Bool)×List OV×DV:=
  (some (some (.ref e.C)),[true,true,true,true,true,true],
   [some (some (.builtin "object.__setattr__")),some (some (.builtin "object.__class__")),some (some (.builtin "getset_descriptor.__get__")),some (some (.ref e.d.f))],
   [some true,some true],a.map λ_=>some none,aD e.d)
abbrev EV:=OV×Option sL×Bool×List OV×List (Option Bool)×List OV
noncomputable def qV (K:Frag)(a:ar)(x:Str)(C:Addr):EV:=
  (nsIn K mainGlobals x,oJ K C,keepIn K (.ref C),
   [findIn K (.ref C) "__init__",findIn K (.ref C) "__setattr__",findIn K (.ref C) "__getattribute__",findIn K (.ref C) "__getattr__",findIn K (.ref C) "__class__",specialIn K (.builtin "object.__class__") "__get__"],
   [takesIn K (.builtin "object.__class__"),mroIn K C (.type "object")],a.map λn=>findIn K (.ref C) n)
noncomputable def aV (b:ar)(C:Addr)(a:al)(fI:Value):EV:=
  (some (some (.ref C)),some (.type "type",.ref C::(a.map Value.ref++bU),true,false,some (.builtin "ValueError.__new__")),true,
   [some (some fI),some (some (.builtin "object.__setattr__")),some (some (.builtin "BaseException.__getattribute__")),some none,some (some (.builtin "object.__class__")),some (some (.builtin "getset_descriptor.__get__"))],
   [some true,some true],b.map λ_=>some none)
noncomputable def qT (K:Frag)(c b:List (Nat×Addr))(a:Value):List (Option Bool)×List (Option Bool)×List (Option Bool):=
 ([kitOne K (.type "NoneType") a,kitOne K (.type "bool") a,kitOne K (.type "int") a,kitOne K (.type "str") a,kitOne K (.type "list") a,kitOne K (.type "tuple") a],c.map λp=>kitOne K (.ref p.2) a,b.map λp=>kitOne K (.ref p.2) a)
noncomputable def aT (G:Ip.Pg)(b a:List (Nat×Addr))(t:Ip.Ty):List (Option Bool)×List (Option Bool)×List (Option Bool):=
 ([some (Ip.aZ G .non t),some (Ip.aZ G (.bl true) t),some (Ip.aZ G (.int 0) t),some (Ip.aZ G (.str "") t),some (Ip.aZ G (.lst []) t),some (Ip.aZ G (.tup []) t)],b.map λp=>some (Ip.aZ G (.ins p.1 []) t),a.map λp=>some (Ip.aZ G (.exc p.1 []) t))
end
structure Tl where
 fL:List Fd
 iC:List Ic
 xC:List Xc
 nC:List (Str×Nat×Addr)
 mL:List (Addr×Fd)
 wa:Addr
 cL:List (Str×Int×Nat)
 tL:List (Str×Addr×List (Str×Nat))
 vC:List (Str×Nat×Addr×al)
noncomputable def Tl.iL (B:Tl):List (Nat×Addr):=B.iC.map λe=>(e.c,e.C)
noncomputable def Tl.xL (B:Tl):List (Nat×Addr):=B.xC.map (λe=>(e.c,e.C))++B.vC.map λe=>(e.2.1,e.2.2.1)
noncomputable def tyV:List (Ip.Ty×Value):=[(.int,.type "int"),(.bool,.type "bool"),(.str,.type "str"),(.list,.type "list"),(.tuple,.type "tuple"),(.dict,.type "dict"),(.verr,.type "ValueError")]
noncomputable def Tl.ty (B:Tl):List (Ip.Ty×Value):=tyV++(B.nC.map (λe=>(.cls e.2.1,.ref e.2.2))++(B.iC.map (λe=>(.cls e.c,.ref e.C))++B.xC.map λe=>(.cls e.c,.ref e.C)))
noncomputable def zL:ar:=cy.map (·.1)++Ip.jS.map (·.1)
abbrev OB:=List (OV×Bool×DV)×List (OV×List Bool×List OV×List (Option Bool)×List OV×DV)×List (EV×Bool×DV)×List OV×List (OV×Bool×Bool×DV) ×
 (OV×Bool×Option CFound×Option sL)×List (List (Option Bool)×List (Option Bool)×List (Option Bool))×List OV×List OV×Bool×List (OV×Option (Value×Bool×Option ao))×List EV
noncomputable def iX (K:Frag)(a:Addr):Option (Value×Bool×Option ao):=(K.lookup a).map λo=>(o.cls,o.dict.isNone,match o.data with
 | .seq b _=>some b.toList
 | _=>none)
noncomputable def Tl.q (B:Tl)(ns:ar)(K:Frag):OB:=
  (B.fL.map λd=>(nsIn K mainGlobals d.x,keepIn K (.ref d.f),qD K d),B.iC.map (qI K ns),B.xC.map (λe=>(qV K ns e.x e.C,isFn K (.ref e.d.f),qD K e.d)),B.nC.map λe=>nsIn K mainGlobals e.1,
   B.mL.map λe=>(findIn K (.ref e.1) e.2.x,isFn K (.ref e.2.f),keepIn K (.ref e.2.f),qD K e.2),
   (specialIn K (.ref B.wa) "__getattribute__",readsIn K B.wa (.type "type"),findCls K (.ref B.wa) (.type "type") "__init__",oJ K B.wa),B.ty.map λe=>qT K B.iL B.xL e.2,
   zL.map λx=>nsIn K mainGlobals x,B.cL.map λc=>nsIn K mainGlobals c.1,K.all (λp=>!(p.2.cls == Value.type "list")),B.tL.map (λc=>(nsIn K mainGlobals c.1,iX K c.2.1)),B.vC.map λe=>qV K ns e.1 e.2.2.1)
noncomputable def Tl.a (B:Tl)(ns:ar)(G:Ip.Pg):OB:=
  (B.fL.map λd=>(some (some (.ref d.f)),true,aD d),B.iC.map (aI ns),B.xC.map (λe=>(aV ns e.C e.tl (.ref e.d.f),true,aD e.d)),B.nC.map λe=>some (some (.ref e.2.2)),
   B.mL.map λe=>(some (some (.ref e.2.f)),true,true,aD e.2),
   (some (some (.builtin "type.__getattribute__")),true,some (.val (.builtin "ValueError.__init__")),some (.type "type",.ref B.wa::(([]:List Addr).map Value.ref++bU),true,false,some (.builtin "ValueError.__new__"))),B.ty.map λe=>aT G B.iL B.xL e.1,
   zL.map λ_=>some none,B.cL.map λc=>some (some (.int c.2.1 c.2.2)),true,B.tL.map (λc=>(some (some (.ref c.2.1)),some (.type "tuple",true,some (c.2.2.map λs=>.str s.1 s.2)))),B.vC.map λe=>aV ns e.2.2.1 e.2.2.2 (.builtin "ValueError.__init__"))
end Hd
namespace Ip
open PySem (Str)
noncomputable def rZ:ar:=["__init__", "row", "garment", "over", "place", "first", "second", "moment", "name", "place_count", "covered_places", "spots", "many", "covers", "meet", "wardrobe", "prices", "start", "dressers", "beats", "scenes"]
noncomputable def T_k31:Tb:=⟨.append (α:=Str×Nat) [("is_whole",0),("is_below",1),("copied",2),("is_rising",15),("are_places",16),("check_garment",17),("worn_in",24),("put_on",25),("right_over",26),("take_off",27),("wearer",41),("check_free",42),("deed_done",43),("deeds_done",44),("are_crossed",54),("check_crossed",55),("beat_done",56),("_law_draw",135),("_law_mix",71),("_law_part",136),("_law_covers",99),("_law_wearer",137),("_law_above",138),("_law_do",139),("_law_frozen",140),("_law_thawed",141),("_law_bare",142),("_law_may",143),("_law_cross",144),("_law_deed",116)] [("_law_beat",145),("_law_done",88),("_law_fault",107),("_law_due",82),("_law_kinds",146),("_law_refusal",147),("_law_spoilt",80),("_law_right",113),("law",69)],[("WardrobeError",0),("TooMuch",1),("NoGarment",2),("Worn",3),("NotWorn",4),("Covered",5),("NoLook",6),("NoDeed",7),("Crossed",8),("TooMany",9),("NoRow",10),("OutOfPlace",11),("NoName",12),("Twice",13),("NoBeat",14),("NoHands",15),("NotSeen",16),("Wardrobe",17)], "WardrobeError",rZ,[1,2,3,4,5,6,7,8,9,10,15,16,17,18,19,20],[("DEEPEST",(.int (100))),("MOST_PLACES",(.int (6))),("MOST_GARMENTS",(.int (6))),("WORDS",(.tup [(.str "on"),(.str "off")]))],[("NoDeed",7)],[139,88]⟩
noncomputable def kZ:Fn:=⟨1,[],1,[],[
  .ret (.and (.op (.isi [.int]) [(.var 0)]) (.op .not [(.op (.isi [.bool]) [(.var 0)])]))]⟩
noncomputable def iV:Fn:=⟨2,[],2,[],[
  .ret (.and (.call 0 [(.var 0)]) (.chain .le .lt (.cst (.int (0))) (.var 0) (.var 1)))]⟩
noncomputable def l6:Fn:=⟨2,[],2,[(.int (0))],[
  .iff (.op .eq [(.var 1),(.cst (.int (100)))]) [.ret (.var 0)] [],
  .iff (.op (.isi [.list]) [(.var 0)]) [.ret (.comp [none,none,(some 1)] (.one 1) .seq [(.var 0)] [] (.call 2 [(.var 1),(.op .add [(.var 2),(.cst (.int (1)))])]))] [],
  .iff (.op (.isi [.tuple]) [(.var 0)]) [.ret (.op .tuple [(.comp [none,none,(some 1)] (.one 1) .seq [(.var 0)] [] (.call 2 [(.var 1),(.op .add [(.var 2),(.cst (.int (1)))])]))])] [],
  .iff (.op (.isi [.dict]) [(.var 0)]) [.ret .bad] [],
  .ret (.var 0)]⟩
noncomputable def og:Fn:=⟨1,[],1,[],[
  .ret (.op .all [(.comp [none,none,none] (.many [1,2]) .zip [(.var 0),(.op .slL [(.var 0),(.cst (.int (1)))])] [] (.op .lt [(.var 1),(.var 2)]))])]⟩
noncomputable def lG:Fn:=⟨2,[],2,[],[
  .iff (.or (.op .not [(.op (.isi [.list]) [(.var 0)])]) (.op .eq [(.op .len [(.var 0)]),(.cst (.int (0)))])) [.ret (.cst (.bl false))] [],
  .ret (.and (.op .all [(.comp [none,none,(some 1)] (.one 1) .seq [(.var 0)] [] (.call 1 [(.var 1),(.var 2)]))]) (.call 15 [(.var 0)]))]⟩
noncomputable def gQ:Fn:=⟨2,[],2,[],[
  .iff (.op .not [(.call 1 [(.var 1),(.meth 12 (.var 0) [])])]) [.rais 2 [(.var 1)]] []]⟩
noncomputable def je:Fn:=⟨1,[],3,[],[
  .set 1 (.op .lst []),
  .fo (.one 2) .seq [(.var 0)] [.mut 1 [] .extend [(.var 2)]],
  .ret (.op .srtSet [(.var 1)])]⟩
noncomputable def pi:Fn:=⟨3,[],5,[],[
  .ex (.call 17 [(.var 0),(.var 2)]),
  .iff (.op .isin [(.var 2),(.call 24 [(.var 1)])]) [.rais 3 [(.var 2)]] [],
  .set 3 (.op .list [(.var 1)]),
  .fo (.one 4) .seq [(.meth 13 (.var 0) [(.var 2)])] [.put 3 [] (.var 4) (.op .add [(.op .ix [(.var 3),(.var 4)]),(.op .tup [(.var 2)])])],
  .ret (.op .tuple [(.var 3)])]⟩
noncomputable def iB:Fn:=⟨3,[],7,[],[
  .ex (.call 17 [(.var 0),(.var 2)]),
  .iff (.op .nin [(.var 2),(.call 24 [(.var 1)])]) [.rais 4 [(.var 2)]] [],
  .set 3 (.op .lst []),
  .fo (.one 4) .seq [(.meth 13 (.var 0) [(.var 2)])] [.set 5 (.op .ix [(.var 1),(.var 4)]),.set 6 (.op .add [(.op .index [(.var 5),(.var 2)]),(.cst (.int (1)))]),.mut 3 [] .extend [(.sl2 (.var 5) (.var 6) (.op .add [(.var 6),(.cst (.int (1)))]))]],
  .ret (.op .srtSet [(.var 3)])]⟩
noncomputable def jA:Fn:=⟨3,[],6,[],[
  .set 3 (.call 26 [(.var 0),(.var 1),(.var 2)]),
  .iff (.op .gt [(.op .len [(.var 3)]),(.cst (.int (0)))]) [.rais 5 [(.var 2),(.op .ix [(.var 3),(.cst (.int (0)))])]] [],
  .set 4 (.op .list [(.var 1)]),
  .fo (.one 5) .seq [(.meth 13 (.var 0) [(.var 2)])] [.put 4 [] (.var 5) (.op .slH [(.op .ix [(.var 4),(.var 5)]),(.op .neg [(.cst (.int (1)))])])],
  .ret (.op .tuple [(.var 4)])]⟩
noncomputable def mo:Fn:=⟨2,[],4,[],[
  .fo (.many [2,3]) .enum [(.var 0)] [.iff (.op .isin [(.var 1),(.call 24 [(.var 3)])]) [.ret (.var 2)] []],
  .ret (.cst .non)]⟩
noncomputable def jM:Fn:=⟨3,[],3,[],[
  .ex (.call 17 [(.var 0),(.var 2)]),
  .iff (.op .notN [(.call 41 [(.var 1),(.var 2)])]) [.rais 3 [(.var 2)]] []]⟩
noncomputable def gX:Fn:=⟨3,[],7,[],[
  .set 3 (.op .ix [(.var 2),(.cst (.int (0)))]),
  .set 4 (.op .ix [(.var 2),(.cst (.int (1)))]),
  .set 5 (.op .ix [(.var 2),(.cst (.int (2)))]),
  .iff (.or (.op .not [(.call 1 [(.var 3),(.op .len [(.var 1)])])]) (.op .nin [(.var 4),(.cst (.tup [(.str "on"),(.str "off")]))])) [.raisV 7] [],
  .set 6 (.op .list [(.var 1)]),
  .iff (.op .eq [(.var 4),(.cst (.str "on"))]) [.ex (.call 42 [(.var 0),(.var 1),(.var 5)]),.put 6 [] (.var 3) (.call 25 [(.var 0),(.op .ix [(.var 1),(.var 3)]),(.var 5)])] [.put 6 [] (.var 3) (.call 27 [(.var 0),(.op .ix [(.var 1),(.var 3)]),(.var 5)])],
  .ret (.op .tuple [(.var 6)])]⟩
noncomputable def oi:Fn:=⟨3,[],4,[],[
  .fo (.one 3) .seq [(.var 2)] [.set 1 (.call 43 [(.var 0),(.var 1),(.var 3)])],
  .ret (.var 1)]⟩
noncomputable def o4:Fn:=⟨3,[],3,[],[
  .iff (.op .eq [(.op .ix [(.var 1),(.cst (.int (2)))]),(.op .ix [(.var 2),(.cst (.int (2)))])]) [.ret (.cst (.bl true))] [],
  .ret (.and (.op .eq [(.op .ix [(.var 1),(.cst (.int (0)))]),(.op .ix [(.var 2),(.cst (.int (0)))])]) (.meth 14 (.var 0) [(.op .ix [(.var 1),(.cst (.int (2)))]),(.op .ix [(.var 2),(.cst (.int (2)))])]))]⟩
noncomputable def ou:Fn:=⟨2,[],6,[],[
  .fo (.many [2,3]) .enum [(.var 1)] [.fo (.many [4,5]) .enum [(.var 1)] [.iff (.and (.op .lt [(.var 2),(.var 4)]) (.call 54 [(.var 0),(.var 3),(.var 5)])) [.rais 8 [(.var 2),(.var 4)]] []]]]⟩
noncomputable def lS:Fn:=⟨3,[],4,[],[
  .fo (.one 3) .seq [(.var 2)] [.ex (.call 43 [(.var 0),(.var 1),(.var 3)])],
  .ex (.call 55 [(.var 0),(.var 2)]),
  .ret (.call 44 [(.var 0),(.var 1),(.var 2)])]⟩
noncomputable def gZ:Fn:=⟨2,[],3,[],[
  .set 2 (.sl2 (.var 0) (.var 1) (.op .add [(.var 1),(.cst (.int (1)))])),
  .iff (.op .eq [(.var 2),(.op .lst [])]) [.ret (.cst (.int (0)))] [],
  .ret (.op .ix [(.var 2),(.cst (.int (0)))])]⟩
noncomputable def e7:Fn:=⟨3,[],7,[],[
  .iff (.op .eq [(.op .mod [(.var 0),(.cst (.int (2)))]),(.cst (.int (1)))]) [.set 3 (.op .ix [(.op .lst [(.cst (.int (1))),(.op .pow [(.cst (.int (10))),(.cst (.int (7)))]),(.op .pow [(.cst (.int (10))),(.cst (.int (14)))]),(.op .pow [(.cst (.int (10))),(.cst (.int (21)))]),(.op .pow [(.cst (.int (10))),(.cst (.int (28)))]),(.op .pow [(.cst (.int (10))),(.cst (.int (35)))]),(.op .pow [(.cst (.int (10))),(.cst (.int (42)))]),(.op .pow [(.cst (.int (10))),(.cst (.int (49)))])]),(.var 1)]),.ret (.op .mod [(.op .fdiv [(.op .fdiv [(.var 0),(.cst (.int (2)))]),(.var 3)]),(.var 2)])] [],
  .set 4 (.op .ix [(.op .lst [(.cst (.int (48271))),(.cst (.int (69621))),(.cst (.int (16807))),(.cst (.int (40692))),(.cst (.int (39373))),(.cst (.int (30269))),(.cst (.int (27183))),(.cst (.int (60013)))]),(.var 1)]),
  .set 5 (.op .ix [(.op .lst [(.cst (.int (999983))),(.cst (.int (999979))),(.cst (.int (999961))),(.cst (.int (999959))),(.cst (.int (999953))),(.cst (.int (999931))),(.cst (.int (999917))),(.cst (.int (999907)))]),(.var 1)]),
  .set 6 (.op .mod [(.var 0),(.cst (.int (2147483647)))]),
  .ret (.op .mod [(.op .fdiv [(.op .mod [(.op .add [(.op .add [(.op .mul [(.op .mul [(.cst (.int (3))),(.var 6)]),(.var 6)]),(.op .mul [(.var 4),(.var 6)])]),(.op .mul [(.cst (.int (7907))),(.op .add [(.var 1),(.cst (.int (1)))])])]),(.var 5)]),(.cst (.int (5)))]),(.var 2)])]⟩
noncomputable def mq:Fn:=⟨2,[],4,[],[
  .iff (.op .eq [(.op .mod [(.var 0),(.cst (.int (2)))]),(.cst (.int (0)))]) [.ret (.op .add [(.op .mod [(.var 0),(.op .pow [(.cst (.int (10))),(.cst (.int (15)))])]),(.op .mul [(.op .mul [(.cst (.int (976))),(.var 1)]),(.var 1)])])] [],
  .set 2 (.op .fdiv [(.var 0),(.cst (.int (2)))]),
  .fo (.one 3) .rng1 [(.var 1)] [.set 2 (.op .fdiv [(.var 2),(.op .pow [(.cst (.int (10))),(.cst (.int (56)))])])],
  .ret (.op .add [(.op .mul [(.cst (.int (2))),(.var 2)]),(.cst (.int (1)))])]⟩
noncomputable def ot:Fn:=⟨3,[],7,[],[
  .set 3 (.op .lst []),
  .fo (.one 4) .rng1 [(.var 2)] [.set 5 (.call 136 [(.var 0),(.var 4)]),.set 6 (.op .add [(.cst (.int (1))),(.call 71 [(.var 5),(.cst (.int (1))),(.op .ix [(.op .lst [(.cst (.int (1))),(.cst (.int (3))),(.cst (.int (7))),(.cst (.int (15))),(.cst (.int (31))),(.cst (.int (63)))]),(.op .sub [(.var 1),(.cst (.int (1)))])])])]),.iff (.op .eq [(.call 71 [(.var 5),(.cst (.int (4))),(.cst (.int (3)))]),(.cst (.int (1)))]) [.set 6 (.op .ix [(.op .lst [(.cst (.int (1))),(.cst (.int (2))),(.cst (.int (4))),(.cst (.int (8))),(.cst (.int (16))),(.cst (.int (32)))]),(.call 71 [(.var 5),(.cst (.int (5))),(.var 1)])])] [],.mut 3 [] .append [(.comp [none,none,(some 6)] (.one 1) .rng1 [(.var 1)] [(.op .eq [(.op .mod [(.op .fdiv [(.var 2),(.op .ix [(.op .lst [(.cst (.int (1))),(.cst (.int (2))),(.cst (.int (4))),(.cst (.int (8))),(.cst (.int (16))),(.cst (.int (32)))]),(.var 1)])]),(.cst (.int (2)))]),(.cst (.int (1)))])] (.var 1))]],
  .ret (.var 3)]⟩
noncomputable def iq:Fn:=⟨2,[],3,[],[
  .fo (.one 2) .rng1 [(.op .len [(.var 0)])] [.iff (.op .any [(.comp [none,none,(some 1)] (.one 1) .seq [(.op .ix [(.var 0),(.var 2)])] [] (.op .isin [(.var 2),(.var 1)]))]) [.ret (.var 2)] []],
  .ret (.cst .non)]⟩
noncomputable def kg:Fn:=⟨4,[],7,[],[
  .set 4 (.op .lst []),
  .fo (.one 5) .seq [(.op .ix [(.var 1),(.var 3)])] [.set 6 (.op .ix [(.op .ix [(.var 0),(.var 2)]),(.var 5)]),.iff (.op .ne [(.op .ix [(.var 6),(.op .neg [(.cst (.int (1)))])]),(.var 3)]) [.mut 4 [] .append [(.op .ix [(.var 6),(.op .add [(.op .index [(.var 6),(.var 3)]),(.cst (.int (1)))])])]] []],
  .ret (.var 4)]⟩
noncomputable def nR:Fn:=⟨3,[0],7,[],[
  .setT [3,4,5] (.var 2),
  .fo (.one 6) .seq [(.op .ix [(.var 1),(.var 5)])] [.iff (.op .eq [(.var 4),(.cst (.str "on"))]) [.nest 0 [3,6] false 5] [.nest 0 [3,6] true 5]]]⟩
noncomputable def k9:Fn:=⟨1,[],1,[],[
  .ret (.op .tuple [(.comp [none,none] (.one 1) .seq [(.var 0)] [] (.op .tuple [(.comp [none,none] (.one 1) .seq [(.var 1)] [] (.op .tuple [(.var 1)]))]))])]⟩
noncomputable def nD:Fn:=⟨1,[],1,[],[
  .ret (.comp [none,none] (.one 1) .seq [(.var 0)] [] (.comp [none,none] (.one 1) .seq [(.var 1)] [] (.op .list [(.var 1)])))]⟩
noncomputable def nP:Fn:=⟨2,[],2,[],[
  .ret (.comp [none,none,(some 1)] (.one 1) .rng1 [(.var 0)] [] (.comp [none,none] (.one 1) .rng1 [(.var 2)] [] (.op .lst [])))]⟩
noncomputable def mR:Fn:=⟨3,[],6,[],[
  .setT [3,4,5] (.var 2),
  .iff (.op .eq [(.var 4),(.cst (.str "on"))]) [.ret (.op .isN [(.call 137 [(.var 0),(.var 5)])])] [],
  .ret (.and (.op .eq [(.call 137 [(.var 0),(.var 5)]),(.var 3)]) (.op .eq [(.call 138 [(.var 0),(.var 1),(.var 3),(.var 5)]),(.op .lst [])]))]⟩
noncomputable def md:Fn:=⟨3,[],3,[],[
  .iff (.op .eq [(.op .ix [(.var 1),(.cst (.int (2)))]),(.op .ix [(.var 2),(.cst (.int (2)))])]) [.ret (.cst (.bl true))] [],
  .ret (.and (.op .eq [(.op .ix [(.var 1),(.cst (.int (0)))]),(.op .ix [(.var 2),(.cst (.int (0)))])]) (.op .any [(.comp [none,none,(some 0),(some 2)] (.one 1) .seq [(.op .ix [(.var 0),(.op .ix [(.var 1),(.cst (.int (2)))])])] [] (.op .isin [(.var 1),(.op .ix [(.var 2),(.op .ix [(.var 3),(.cst (.int (2)))])])]))]))]⟩
noncomputable def oN:Fn:=⟨3,[],5,[],[
  .set 3 (.call 71 [(.var 2),(.cst (.int (3))),(.op .len [(.var 1)])]),
  .set 4 (.call 137 [(.var 0),(.var 3)]),
  .iff (.op .isN [(.var 4)]) [.ret (.op .tup [(.call 71 [(.var 2),(.cst (.int (2))),(.op .len [(.var 0)])]),(.cst (.str "on")),(.var 3)])] [],
  .ret (.op .tup [(.var 4),(.cst (.str "off")),(.var 3)])]⟩
noncomputable def lm:Fn:=⟨4,[],7,[],[
  .set 4 (.op .lst []),
  .iff (.op .eq [(.var 1),(.op .lst [])]) [.ret (.var 4)] [],
  .fo (.one 5) .rng1 [(.call 71 [(.var 2),(.cst (.int (6))),(.op .add [(.var 3),(.cst (.int (1)))])])] [.set 6 (.call 116 [(.var 0),(.var 1),(.call 136 [(.var 2),(.var 5)])]),.iff (.and (.call 143 [(.var 0),(.var 1),(.var 6)]) (.op .not [(.op .any [(.comp [none,none,(some 1),(some 6)] (.one 1) .seq [(.var 4)] [] (.call 144 [(.var 2),(.var 3),(.var 1)]))])])) [.mut 4 [] .append [(.var 6)]] []],
  .ret (.var 4)]⟩
noncomputable def lB:Fn:=⟨3,[0],4,[],[
  .fo (.one 3) .seq [(.var 2)] [.byref 139 0 [(.var 1),(.var 3)]]]⟩
noncomputable def mh:Fn:=⟨3,[],6,[],[
  .setT [3,4,5] (.var 2),
  .iff (.or (.op .lt [(.var 3),(.cst (.int (0)))]) (.or (.op .ge [(.var 3),(.op .len [(.var 0)])]) (.op .nin [(.var 4),(.op .lst [(.cst (.str "on")),(.cst (.str "off"))])]))) [.ret (.op .tup [(.cst (.str "deed"))])] [],
  .iff (.or (.op .lt [(.var 5),(.cst (.int (0)))]) (.op .ge [(.var 5),(.op .len [(.var 1)])])) [.ret (.op .tup [(.cst (.str "garment")),(.var 5)])] [],
  .iff (.and (.op .eq [(.var 4),(.cst (.str "on"))]) (.op .notN [(.call 137 [(.var 0),(.var 5)])])) [.ret (.op .tup [(.cst (.str "worn")),(.var 5)])] [],
  .iff (.and (.op .eq [(.var 4),(.cst (.str "off"))]) (.op .ne [(.call 137 [(.var 0),(.var 5)]),(.var 3)])) [.ret (.op .tup [(.cst (.str "notworn")),(.var 5)])] [],
  .iff (.and (.op .eq [(.var 4),(.cst (.str "off"))]) (.op .ne [(.call 138 [(.var 0),(.var 1),(.var 3),(.var 5)]),(.op .lst [])])) [.ret (.op .tup [(.cst (.str "covered")),(.var 5),(.op .min1 [(.call 138 [(.var 0),(.var 1),(.var 3),(.var 5)])])])] [],
  .ret (.cst .non)]⟩
noncomputable def nJ:Fn:=⟨3,[],7,[],[
  .fo (.one 3) .seq [(.var 2)] [.set 4 (.call 107 [(.var 0),(.var 1),(.var 3)]),.iff (.op .notN [(.var 4)]) [.ret (.var 4)] []],
  .fo (.one 5) .rng1 [(.op .len [(.var 2)])] [.fo (.one 6) .rng2 [(.op .add [(.var 5),(.cst (.int (1)))]),(.op .len [(.var 2)])] [.iff (.call 144 [(.var 1),(.op .ix [(.var 2),(.var 5)]),(.op .ix [(.var 2),(.var 6)])]) [.ret (.op .tup [(.cst (.str "crossed")),(.var 5),(.var 6)])] []]],
  .ret (.cst .non)]⟩
noncomputable def pQ:Fn:=⟨1,[],2,[],[
  .set 1 (.op .lst []),
  .iff (.op (.isi [.cls 7]) [(.var 0)]) [.mut 1 [] .append [(.op .tup [(.cst (.str "deed"))])]] [],
  .iff (.op (.isi [.cls 2]) [(.var 0)]) [.mut 1 [] .append [(.op .tup [(.cst (.str "garment")),(.op (.fld 2) [(.var 0)])])]] [],
  .iff (.op (.isi [.cls 3]) [(.var 0)]) [.mut 1 [] .append [(.op .tup [(.cst (.str "worn")),(.op (.fld 2) [(.var 0)])])]] [],
  .iff (.op (.isi [.cls 4]) [(.var 0)]) [.mut 1 [] .append [(.op .tup [(.cst (.str "notworn")),(.op (.fld 2) [(.var 0)])])]] [],
  .iff (.op (.isi [.cls 5]) [(.var 0)]) [.mut 1 [] .append [(.op .tup [(.cst (.str "covered")),(.op (.fld 2) [(.var 0)]),(.op (.fld 3) [(.var 0)])])]] [],
  .iff (.op (.isi [.cls 8]) [(.var 0)]) [.mut 1 [] .append [(.op .tup [(.cst (.str "crossed")),(.op (.fld 5) [(.var 0)]),(.op (.fld 6) [(.var 0)])])]] [],
  .iff (.op .not [(.op (.isi [.verr]) [(.var 0)])]) [.ret (.op .lst [])] [],
  .iff (.op (.isi [.cls 14,.cls 15,.cls 6,.cls 12,.cls 10,.cls 16,.cls 11,.cls 9,.cls 1,.cls 13]) [(.var 0)]) [.ret (.op .lst [])] [],
  .ret (.var 1)]⟩
noncomputable def rT:Fn:=⟨3,[],5,[],[
  .set 3 (.cst .non),
  .tryE [.ex (.call 56 [(.var 0),(.var 1),(.var 2)])] 0 4 3,
  .ret (.call 146 [(.var 3)])]⟩
noncomputable def nM:Fn:=⟨4,[],9,[],[
  .set 1 (.op .list [(.var 1)]),
  .fo (.one 4) .rng1 [(.call 71 [(.call 135 [(.var 0),(.cst (.int (5)))]),(.cst (.int (2))),(.cst (.int (3)))])] [.set 5 (.call 135 [(.var 0),(.op .add [(.cst (.int (6))),(.var 4)])]),.set 6 (.op .sub [(.call 71 [(.var 5),(.cst (.int (1))),(.op .add [(.var 2),(.cst (.int (2)))])]),(.cst (.int (1)))]),.set 7 (.op .ix [(.op .lst [(.cst (.str "on")),(.cst (.str "off")),(.cst (.str "on")),(.cst (.str "off")),(.cst (.str "On")),(.cst (.str ""))]),(.call 71 [(.var 5),(.cst (.int (3))),(.cst (.int (6)))])]),.set 8 (.op .tup [(.var 6),(.var 7),(.op .sub [(.call 71 [(.var 5),(.cst (.int (4))),(.op .add [(.var 3),(.cst (.int (2)))])]),(.cst (.int (1)))])]),.mut 1 [] .insert [(.call 71 [(.var 5),(.cst (.int (5))),(.op .add [(.op .len [(.var 1)]),(.cst (.int (1)))])]),(.var 8)]],
  .ret (.var 1)]⟩
noncomputable def nH:Fn:=⟨4,[],10,[],[
  .set 4 (.call 140 [(.var 2)]),
  .set 5 (.call 82 [(.var 2),(.var 1),(.var 3)]),
  .set 6 (.op .list [(.var 3)]),
  .iff (.op .notN [(.var 5)]) [.ret (.and (.op .eq [(.call 147 [(.var 0),(.var 4),(.var 6)]),(.op .lst [(.var 5)])]) (.op .eq [(.var 6),(.var 3)]))] [],
  .set 7 (.call 56 [(.var 0),(.var 4),(.var 6)]),
  .set 8 (.call 56 [(.var 0),(.var 4),(.op .rev [(.var 3)])]),
  .set 9 (.call 141 [(.var 4)]),
  .byref 88 9 [(.var 1),(.var 3)],
  .ret (.and (.op .eq [(.var 7),(.call 140 [(.var 9)])]) (.and (.op .eq [(.var 8),(.var 7)]) (.and (.op (.isi [.tuple]) [(.var 7)]) (.op .eq [(.var 6),(.var 3)]))))]⟩
noncomputable def qg:Fn:=⟨1,[],9,[],[
  .set 1 (.op .add [(.cst (.int (1))),(.call 71 [(.call 135 [(.var 0),(.cst (.int (0)))]),(.cst (.int (1))),(.cst (.int (6)))])]),
  .set 2 (.call 71 [(.call 135 [(.var 0),(.cst (.int (1)))]),(.cst (.int (1))),(.cst (.int (7)))]),
  .set 3 (.op .add [(.cst (.int (1))),(.call 71 [(.call 135 [(.var 0),(.cst (.int (2)))]),(.cst (.int (1))),(.cst (.int (3)))])]),
  .set 4 (.call 99 [(.call 135 [(.var 0),(.cst (.int (3)))]),(.var 1),(.var 2)]),
  .set 5 (.make 17 [(.var 1),(.comp [none,none] (.one 1) .seq [(.var 4)] [] (.op .list [(.var 1)]))]),
  .set 6 (.call 142 [(.var 3),(.var 1)]),
  .fo (.one 7) .seq [(.sl2 (.var 0) (.cst (.int (8))) (.cst (.int (20))))] [.byref 88 6 [(.var 4),(.call 145 [(.var 6),(.var 4),(.var 7),(.cst (.int (1)))])]],
  .set 8 (.call 145 [(.var 6),(.var 4),(.call 135 [(.var 0),(.cst (.int (4)))]),(.cst (.int (6)))]),
  .iff (.op .not [(.call 113 [(.var 5),(.var 4),(.var 6),(.var 8)])]) [.ret (.cst (.bl false))] [],
  .ret (.call 113 [(.var 5),(.var 4),(.var 6),(.call 80 [(.var 0),(.var 8),(.var 3),(.var 2)])])]⟩
noncomputable def lH:Fn:=⟨2,[0],3,[],[
  .set 2 (.call 2 [(.var 1)]),
  .xinit [(.var 0),(.var 2)],
  .sfld 0 2 (.var 2)]⟩
noncomputable def lR:Fn:=⟨2,[0],2,[],[
  .xinit [(.var 0),(.var 1)],
  .sfld 0 2 (.var 1)]⟩
noncomputable def lA:Fn:=⟨2,[0],2,[],[
  .xinit [(.var 0),(.var 1)],
  .sfld 0 2 (.var 1)]⟩
noncomputable def ly:Fn:=⟨3,[0],3,[],[
  .xinit [(.var 0),(.var 1),(.var 2)],
  .sfld 0 2 (.var 1),
  .sfld 0 3 (.var 2)]⟩
noncomputable def lN:Fn:=⟨3,[0],3,[],[
  .xinit [(.var 0),(.var 1),(.var 2)],
  .sfld 0 5 (.var 1),
  .sfld 0 6 (.var 2)]⟩
noncomputable def lP:Fn:=⟨3,[0],5,[],[
  .iff (.or (.op .not [(.call 0 [(.var 1)])]) (.op .not [(.chain .le .le (.cst (.int (1))) (.var 1) (.cst (.int (6))))])) [.rais 1 []] [],
  .iff (.op .gt [(.op .len [(.var 2)]),(.cst (.int (6)))]) [.rais 1 []] [],
  .fo (.many [3,4]) .enum [(.var 2)] [.iff (.op .not [(.call 16 [(.var 4),(.var 1)])]) [.rais 2 [(.var 3)]] []],
  .sfld 0 9 (.var 1),
  .sfld 0 10 (.comp [none,none] (.one 1) .seq [(.var 2)] [] (.op .tuple [(.var 1)]))]⟩
noncomputable def kH:Fn:=⟨1,[],1,[],[
  .ret (.op .len [(.op (.fld 10) [(.var 0)])])]⟩
noncomputable def ij:Fn:=⟨2,[],2,[],[
  .ex (.call 17 [(.var 0),(.var 1)]),
  .ret (.op .list [(.op .ix [(.op (.fld 10) [(.var 0)]),(.var 1)])])]⟩
noncomputable def nk:Fn:=⟨3,[],4,[],[
  .set 3 (.meth 13 (.var 0) [(.var 1)]),
  .ret (.op .any [(.comp [none,none,(some 3)] (.one 1) .seq [(.meth 13 (.var 0) [(.var 2)])] [] (.op .isin [(.var 1),(.var 2)]))])]⟩
noncomputable def fnL_k31:List (Nat×Fn):=[(0,kZ),(1,iV),(2,l6),(15,og),(16,lG),(17,gQ),(24,je),(25,pi),(26,iB),(27,jA),(41,mo),(42,jM),(43,gX),(44,oi),(54,o4),(55,ou),(56,lS),(135,gZ),(71,e7),(136,mq),(99,ot),(137,iq),(138,kg),(139,nR),(140,k9),(141,nD),(142,nP),(143,mR),(144,md),(116,oN),(145,lm),(88,lB),(107,mh),(82,nJ),(146,pQ),(147,rT),(80,nM),(113,nH),(69,qg),(4,lH),(5,lR),(6,lA),(7,ly),(9,lN),(18,lP),(20,kH),(21,ij),(22,nk)]
noncomputable def clL_k31:List (Nat×Cl):=[(0,⟨none,[],[],true⟩),(1,⟨none,[],[0],true⟩),(2,⟨(some 4),[],[0],true⟩),(3,⟨(some 5),[],[0],true⟩),(4,⟨(some 6),[],[0],true⟩),(5,⟨(some 7),[],[0],true⟩),(6,⟨none,[],[0],true⟩),(7,⟨none,[],[0],true⟩),(8,⟨(some 9),[],[0],true⟩),(9,⟨none,[],[0],true⟩),(10,⟨none,[],[0],true⟩),(11,⟨none,[],[0],true⟩),(12,⟨none,[],[0],true⟩),(13,⟨none,[],[0],true⟩),(14,⟨none,[],[0],true⟩),(15,⟨none,[],[0],true⟩),(16,⟨none,[],[0],true⟩),(17,⟨(some 18),[(12,20),(13,21),(14,22)],[],false⟩)]
noncomputable def G_k31:Pg where
 fn:=λi=>fnL_k31.lookup i
 cl:=λi=>clL_k31.lookup i
end Ip
namespace Ek31
open PySem PySem.Spec PyProof.Rows L2
noncomputable abbrev Pw:=PySem.Challenge.pw_quickchange_k31_a_beat_done
noncomputable def sT (n:Nat):Stmt:=Pw.main.body.getD n (.Pass ⟨0,0,0,0⟩)
noncomputable def A8:Stmt:=sT 4
noncomputable def nY:Hd.Fd:=⟨"copied", "copied",2,34,A8,some (29,.int 0 206)⟩
noncomputable def nr:Stmt:=sT 67
noncomputable def vg:Hd.Fd:=⟨"law", "law",69,602,nr,none⟩
open PySem.W PySem.Calls Hd
set_option maxHeartbeats 0
noncomputable def B:Tl:=⟨[⟨"is_whole", "is_whole",0,21,sT 2,none⟩,⟨"is_below", "is_below",1,28,sT 3,none⟩,nY,⟨"is_rising", "is_rising",15,329,sT 26,none⟩,⟨"are_places", "are_places",16,334,sT 27,none⟩,⟨"check_garment", "check_garment",17,341,sT 28,none⟩,⟨"worn_in", "worn_in",24,393,sT 31,none⟩,⟨"put_on", "put_on",25,400,sT 32,none⟩,⟨"right_over", "right_over",26,407,sT 33,none⟩,⟨"take_off", "take_off",27,414,sT 34,none⟩,⟨"wearer", "wearer",41,422,sT 37,none⟩,⟨"check_free", "check_free",42,429,sT 38,none⟩,⟨"deed_done", "deed_done",43,436,sT 39,none⟩,⟨"deeds_done", "deeds_done",44,443,sT 40,none⟩,⟨"are_crossed", "are_crossed",54,450,sT 42,none⟩,⟨"check_crossed", "check_crossed",55,457,sT 43,none⟩,⟨"beat_done", "beat_done",56,464,sT 44,none⟩,⟨"_law_draw", "_law_draw",135,471,sT 46,none⟩,⟨"_law_mix", "_law_mix",71,478,sT 47,none⟩,⟨"_law_part", "_law_part",136,485,sT 48,none⟩,⟨"_law_covers", "_law_covers",99,490,sT 49,none⟩,⟨"_law_wearer", "_law_wearer",137,495,sT 50,none⟩,⟨"_law_above", "_law_above",138,502,sT 51,none⟩,⟨"_law_do", "_law_do",139,509,sT 52,none⟩,⟨"_law_frozen", "_law_frozen",140,514,sT 53,none⟩,⟨"_law_thawed", "_law_thawed",141,519,sT 54,none⟩,⟨"_law_bare", "_law_bare",142,524,sT 55,none⟩,⟨"_law_may", "_law_may",143,531,sT 56,none⟩,⟨"_law_cross", "_law_cross",144,536,sT 57,none⟩,⟨"_law_deed", "_law_deed",116,543,sT 58,none⟩,⟨"_law_beat", "_law_beat",145,548,sT 59,none⟩,⟨"_law_done", "_law_done",88,555,sT 60,none⟩,⟨"_law_fault", "_law_fault",107,562,sT 61,none⟩,⟨"_law_due", "_law_due",82,569,sT 62,none⟩,⟨"_law_kinds", "_law_kinds",146,576,sT 63,none⟩,⟨"_law_refusal", "_law_refusal",147,583,sT 64,none⟩,⟨"_law_spoilt", "_law_spoilt",80,590,sT 65,none⟩,⟨"_law_right", "_law_right",113,597,sT 66,none⟩,vg],[⟨"Wardrobe",17,382,⟨"__init__", "Wardrobe.__init__",18,353,bR (sT 29) 0,none⟩⟩],[⟨"NoGarment",2,84,[44],⟨"__init__", "NoGarment.__init__",4,81,bR (sT 8) 0,none⟩⟩,⟨"Worn",3,103,[44],⟨"__init__", "Worn.__init__",5,100,bR (sT 9) 0,none⟩⟩,⟨"NotWorn",4,122,[44],⟨"__init__", "NotWorn.__init__",6,119,bR (sT 10) 0,none⟩⟩,⟨"Covered",5,141,[44],⟨"__init__", "Covered.__init__",7,138,bR (sT 11) 0,none⟩⟩,⟨"Crossed",8,191,[44],⟨"__init__", "Crossed.__init__",9,188,bR (sT 14) 0,none⟩⟩],[("WardrobeError",0,44),("TooMuch",1,65),("NoLook",6,160),("NoDeed",7,172),("TooMany",9,210),("NoRow",10,229),("OutOfPlace",11,248),("NoName",12,267),("Twice",13,286),("NoBeat",14,298),("NoHands",15,310),("NotSeen",16,322)],[(382,⟨"many", "Wardrobe.many",20,367,bR (sT 29) 2,none⟩),(382,⟨"covers", "Wardrobe.covers",21,374,bR (sT 29) 3,none⟩),(382,⟨"meet", "Wardrobe.meet",22,379,bR (sT 29) 4,none⟩)],44,[("DEEPEST",100,189),("MOST_PLACES",6,611),("MOST_GARMENTS",6,613)],[("WORDS",415,[("on",740),("off",741)])],[("NoDeed",7,172,[44])]⟩
noncomputable def lb:ar:=oM Ip.T_k31.fl Ip.T_k31.att
noncomputable def T0 (P:Params):BT:=(.node (boot_o_0 P) (.node (boot_o_1 P) (.node (boot_o_3 P) (.node (boot_o_7 P) .nil .nil) .nil) (.node (boot_o_5 P) (.node (boot_o_9 P) .nil .nil) .nil)) (.node (boot_o_2 P) (.node (boot_o_4 P) (.node (boot_o_8 P) .nil .nil) .nil) (.node (boot_o_6 P) (.node (boot_o_10 P) .nil .nil) .nil)))
noncomputable def u9:al:=[2,3,15,17,18,20,21,22,24,25,27,28,29,30,33,34,35,42,43,44,45,48,55,56,58,59,61,62,63,64,65,68,75,77,78,80,81,82,83,84,87,94,96,97,99,100,101,102,103,106,113,115,116,118,119,120,121,122,125,132,134,135,137,138,139,140,141,144,151,153,154,156,157,158,159,160,163,170,171,172,175,182,184,185,187,188,189,190,191,194,201,203,204,206,207,208,209,210,213,220,222,223,225,226,227,228,229,232,239,241,242,244,245,246,247,248,251,258,260,261,263,264,265,266,267,270,277,279,280,282,283,284,285,286,289,296,297,298,301,308,309,310,313,320,321,322,325,328,329,330,333,334,335,337,338,340,341,349,352,353,354,356,357,359,360,361,363,364,366,367,368,370,371,373,374,375,378,379,380,381,382,383,384,387,389,390,392,393,394,396,397,399,400,401,403,404,406,407,408,410,411,413,414,415,416,418,419,421,422,423,425,426,428,429,430,432,433,435,436,437,439,440,442,443,444,446,447,449,450,451,453,454,456,457,458,460,461,463,464,465,467,468,470,471,472,474,475,477,478,479,481,482,484,485,486,489,490,491,494,495,496,498,499,501,502,503,505,506,508,509,510,513,514,515,518,519,520,523,524,525,527,528,530,531,532,535,536,537,539,540,542,543,544,547,548,549,551,552,554,555,556,558,559,561,562,563,565,566,568,569,570,572,573,575,576,577,579,580,582,583,584,586,587,589,590,591,593,594,596,597,598,601,602]
noncomputable def looseL:List Str:=(["DEEPEST", "is_whole", "is_below", "copied", "WardrobeError", "TooMuch", "NoGarment", "Worn", "NotWorn", "Covered", "NoLook", "NoDeed", "Crossed", "TooMany", "NoRow", "OutOfPlace", "NoName", "Twice", "NoBeat", "NoHands", "NotSeen", "MOST_PLACES", "MOST_GARMENTS", "is_rising", "are_places", "check_garment", "Wardrobe", "worn_in", "put_on", "right_over", "take_off", "WORDS", "wearer", "check_free", "deed_done", "deeds_done", "are_crossed", "check_crossed", "beat_done", "_law_draw", "_law_mix", "_law_part", "_law_covers", "_law_wearer", "_law_above", "_law_do", "_law_frozen", "_law_thawed", "_law_bare", "_law_may", "_law_cross", "_law_deed", "_law_beat", "_law_done", "_law_fault", "_law_due", "_law_kinds", "_law_refusal", "_law_spoilt", "_law_right"]:List String).map Str.ofString
noncomputable abbrev Xt (s:Shared):Bool:=xlAt (view Pw [67]) [] s&&recOk (PySem.Challenge.rw_quickchange_k31_a_beat_done.row.toRowW).records s
noncomputable def pU:Thread:=⟨do let code <-moduleCode Pw.main
                                       let frame <-newBodyFrame code mainNs mainNs
                                       let _ <-run (.body (behindTheImports Pw) { scope:=Pw.main.scope,locals:=mainNs,globals:=mainNs,cells:=[],code,frame:=some frame })
                                       ret .none,
   .builtin "claim.caller" {},default,[]⟩
noncomputable def runAll (w:World)(os:OsState):=(gV through (stepOk 11 (some (.ref 6))) (stepT (denote treeTable) Pw w) 5718 ⟨T0 w.params,11,(boot_heap w.params).life,Array.mk [],boot_drawn,boot_toks,os⟩ pU).map
 (lookG (importedModules Pw.main.body) (staticsOk (importedModules Pw.main.body)) laidKept (namesBound Pw) (openSeen (view Pw [67]) looseL (importedModules Pw.main.body) Xt true) (λs=>B.q lb (nE u9 s.heap)) (boot_heap w.params))
noncomputable def _root_.PySem.W.Fast.tw17433150271448099660:Program:=PySem.Challenge.pw_quickchange_k31_a_beat_done
theorem _root_.PySem.W.Fast.te17433150271448099660:PySem.Challenge.pw_quickchange_k31_a_beat_done=PySem.W.Fast.tw17433150271448099660:=rfl
noncomputable def dum {α:Type}(_:α):Bool:=true
def mk:dum runAll=true:=by k_qdec
theorem t0 (P:Params):absHeap (T0 P) 11 (boot_heap P).life=boot_heap P:=by kernel_rfl
def Dt (w:World)(os:OsState):runAll w os=some (true,openGood (view Pw [67]) looseL,B.a lb Ip.G_k31):=by
 rw[PySem.W.Fast.te11863230451546445163];kernel_rfl
end Ek31
namespace L2
open PySem PySem.Spec PyProof.Rows
abbrev e9:=Sum Int Str
noncomputable def jE:e9->Value->Bool
 | .inl k,v=>Value.isInt k v
 | .inr x,v=>Value.isStrOf x v
noncomputable def p0 (w:World):e9->Int
 | .inl k=>hashInt k
 | .inr x=>hashStr w x
def i0:∀{k:e9} {v:Value},jE k v=true->(∃i t,k=Sum.inl i/\v=Value.int i t)\/(∃x t,k=Sum.inr x/\v=Value.str x t):=by
 intro hZ;cases hZ with
 | inl i=>
  intro v h;obtain⟨t,e⟩:=Value.isInt_shape (k:=i) (v:=v) h;exact .inl ⟨i,t,rfl,e⟩
 | inr x=>
  intro v h;obtain⟨t,e⟩:=Value.isStrOf_shape (x:=x) (v:=v) h;exact .inr ⟨x,t,rfl,e⟩
def D8 (a b:Int):decide ((Sum.inl a:e9)=Sum.inl b)=(a == b):=by
 by_cases e:a=b
 .subst e; simp
 .have h:¬(Sum.inl a:e9)=Sum.inl b:=λq=>e (Sum.inl.inj q);rw[HG h];exact (HH.mpr e).symm
def Br (a b:Str):decide ((Sum.inr a:e9)=Sum.inr b)=decide (a=b):=by
 by_cases e:a=b
 .subst e; simp
 .have h:¬(Sum.inr a:e9)=Sum.inr b:=λq=>e (Sum.inr.inj q);rw[HG h,HG e]
def DP (a:Int)(b:Str):decide ((Sum.inl a:e9)=Sum.inr b)=false:=HG (λq=>nomatch q)
def BA (a:Str)(b:Int):decide ((Sum.inr a:e9)=Sum.inl b)=false:=HG (λq=>nomatch q)
noncomputable def gv (prog:Program)(w:World):PySem.KeyKind prog w e9 where
 is:=jE
 hash:=p0 w
 inj:=λv a b ha hb=>by
  rcases i0 ha with ⟨i,t,rfl,rfl⟩ | ⟨x,t,rfl,rfl⟩
  .rcases i0 hb with ⟨j,u,rfl,e⟩ | ⟨y,u,rfl,e⟩
   .injection e with e1 _; rw[e1]
   .exact nomatch e
  .rcases i0 hb with ⟨j,u,rfl,e⟩ | ⟨y,u,rfl,e⟩
   .exact nomatch e
   .injection e with e1 _; rw[e1]
 byValue:=λk v h=>by
  rcases i0 h with ⟨i,t,rfl,rfl⟩ | ⟨x,t,rfl,rfl⟩ <;> rfl
 pyHash:=λhv h=>by
  rcases i0 hv with ⟨i,t,rfl,rfl⟩ | ⟨x,t,rfl,rfl⟩
  .exact wpAny_pyHash_int h
  .exact wpAny_pyHash_str h
 eqBool:=λhu hv h=>by
  rcases i0 hu with ⟨i,t,rfl,rfl⟩ | ⟨x,t,rfl,rfl⟩
  .rcases i0 hv with ⟨j,u,rfl,rfl⟩ | ⟨y,u,rfl,rfl⟩
   .rw[D8] at h; exact wpAny_eqBool_int h
   .rw[DP] at h; exact SeqAt.EqAt.int_str i t y u _ _ _ _ h
  .rcases i0 hv with ⟨j,u,rfl,rfl⟩ | ⟨y,u,rfl,rfl⟩
   .rw[BA] at h; exact SeqAt.EqAt.str_int x t j u _ _ _ _ h
   .rw[Br] at h; exact wpAny_eqBool_str h
 «strs»:=λk x t v h=>by
  rcases i0 h with ⟨i,u,rfl,e⟩ | ⟨y,u,rfl,e⟩
  .exact nomatch e
  .injection e with e1 _;subst e1;cases v <;> rfl
inductive V where
 | non | bl (b:Bool) | int (i:Int) | str (x:Str) | byt (b:Array UInt8) | flt (b:UInt64) | ref (a:Addr) | ty (n:String)
 deriving DecidableEq
abbrev _root_.av:=List V
def RelV:V->Value->Prop
 | .non,u=>u=Value.none
 | .bl b,u=>u=Value.bool b
 | .int i,u=>∃t,u=Value.int i t
 | .str x,u=>∃t,u=Value.str x t
 | .byt b,u=>∃t,u=Value.bytes b t
 | .flt b,u=>∃t,u=Value.float b t
 | .ref a,u=>u=Value.ref a
 | .ty n,u=>u=Value.type n
abbrev Vals:av->ao->Prop:=Paired RelV
theorem Vals.length (r:Vals xs a):xs.length=a.length:=Paired.length r
theorem Vals.get:∀{a:av} {b:ao} {i:Nat} {x:V},Vals a b->a[i]? = some x->∃u,b[i]? = some u/\RelV x u
 | _,_,_,_,.nil,e=>by simp at e
 | _,_,0,_,.cons r _,e=>by simp at e; subst e; exact⟨_,rfl,r⟩
 | _,_,i+1,x,.cons _ t,e=>by
  obtain⟨u,d,c⟩:=Vals.get (i:=i) (x:=x) t (by simpa using e);exact⟨u,by simpa using d,c⟩
theorem Vals.set (r:RelV x u):∀{xs:av} {a:ao} (i:Nat),Vals xs a->Vals (xs.set i x) (a.set i u)
 | _,_,_,.nil=>.nil
 | _,_,0,.cons _ t=>.cons r t
 | _,_,i+1,.cons q t=>.cons q (Vals.set r i t)
def Vals.append:∀{xs b:av} {a c:ao},Vals xs a->Vals b c->Vals (xs++b) (a++c):=by
 intro _ _ _ _ hZ;induction hZ with
 | nil=>exact λs=>s
 | cons r t O=>exact λs=>.cons r (O s)
theorem Vals.take:∀{xs:av} {a:ao} (n:Nat),Vals xs a->Vals (xs.take n) (a.take n)
 | _,_,0,_=>.nil
 | _,_,_+1,.nil=>.nil
 | _,_,n+1,.cons r t=>.cons r (Vals.take n t)
theorem Vals.drop:∀{xs:av} {a:ao} (n:Nat),Vals xs a->Vals (xs.drop n) (a.drop n)
 | _,_,0,r=>r
 | _,_,_+1,.nil=>.nil
 | _,_,n+1,.cons _ t=>Vals.drop n t
def RelO:Option V->aA->Prop
 | some v,some u=>RelV v u
 | none,none=>True
 | _,_=>False
def KV {κ:Type}:List (κ×V)->List (κ×Value)->Prop:=Paired λ(p:κ×V) (q:κ×Value)=>p.1=q.1/\RelV p.2 q.2
noncomputable def kV:e9->V
 | .inl i=>.int i
 | .inr x=>.str x
inductive HO where
 | lst (xs:av)
 | tup (xs:av)
 | dK (kvs:List (e9×V)) | dT (kvs:List (List e9×V))
 | set (S:Int->Bool) (n:Nat)
 | ins (C dx:Addr) (fs:List (Str×V))
 | own (x:Addr)
 | exc (C:Addr) (nw:Bool) (fs:List (Str×V))
 | xd (fs:List (Str×V))
 | met (f x:Addr)
 | rng (lo hi:Int)
 | frz (o:Obj) (u:HO)
 | tbl (ps:aB)
 | ext (φ:Heap->Prop)
abbrev Hp:=Addr->Option HO
noncomputable def upd (H:Hp)(a:Addr)(o:HO):Hp:=λb=>if b=a then some o else H b
def bT:upd H a o a=some o:=by unfold upd; rw[if_pos rfl]
def bE (h:b≠a):upd H a o b=H b:=by unfold upd; rw[if_neg h]
def y3:upd (upd H a o) a u=upd H a u:=by
 funext b; unfold upd; split <;> rfl
def mw {H:Hp}{a b:Addr}{o:HO}(h:H a=some o)(c:H b=none):a≠b:=by
 intro e; subst e; rw[h] at c; cases c
section
variable (P:Program)(w:World)
def TupN (h:Heap)(a:Addr)(items:aB):Prop:=∃o,h.get? a=some o/\o.cls=.type "tuple" /\ (∃n,o.data=.seq items n)/\o.dict=none
def TupN.tup (x:TupN h a items):IsTup h a items:=let ⟨o,e,c,d,_⟩:=x; ⟨o,e,c,d⟩
def TupN.new (h:Heap)(items:aB):TupN (h.push { cls:=.type "tuple",data:=.seq items }) h.objs.size items:=⟨_,dH _ rfl,rfl,⟨_,rfl⟩,rfl⟩
def ObjOk (H:Hp)(h:Heap)(a:Addr):HO->Prop
 | .lst g=>g.length<=sizeLine/\∃(b:ao) (n:Nat),Vals g b/\h.get? a=some { cls:=.type "list",data:=.seq b.toArray n }
 | .tup g=>g.length<=sizeLine/\∃b:ao,Vals g b/\TupN h a b.toArray
 | .dK c=>c.length<=sizeLine/\(a == sysModules)=false/\∃j,KV c j/\h.DictOf (gv P w) a j
 | .dT c=>c.length<=sizeLine/\(a == sysModules)=false/\∃g:List (List e9×Addr×Value),
   Paired (λ(p:List e9×V) (q:List e9×Addr×Value)=>p.1=q.1/\H q.2.1=some (.tup (p.1.map kV))/\RelV p.2 q.2.2) c g /\
   ∃o l y,h.get? a=some o/\o.ExactDict/\o.data=.dict l y/\l.toList=g.map (entryOfKey (tupleKind (gv P w)))/\(g.map (·.1)).Nodup
 | .set S n=>h.SetOf (intKind P w) a S n
 | .ins C i e=>H i=some (.own a)/\e.length<=1000/\i≠a/\h.get? a=some (PySem.W.instObj C i) /\
   ∃d,h.Ns1 i d/\(∀f,RelO (e.lookup f) (d f))/\PySem.Within d (e.map (·.1))
 | .own _=>∃o,h.get? a=some o
 | .exc C z e=>e.length<=1000/\∃(o:Obj) (j:aB),h.get? a=some o/\o.cls=.ref C/\o.data=.fields j/\j.size=6/\(z=true->j[1]? = some Value.none) /\
   ((o.dict=none/\e=[])\/∃i,o.dict=some i/\H i=some (.own a)/\i≠a/\∃d,h.Ns1 i d/\(∀f,RelO (e.lookup f) (d f))/\PySem.Within d (e.map (·.1)))
 | .xd e=>∃d,h.Ns1 a d/\∀f,RelO (e.lookup f) (d f)
 | .rng lo r=>∃t u v,h.get? a=some { cls:=.type "range",data:=.fields #[.int lo t,.int r u,.int 1 v] }
 | .frz o u=>h.get? a=some o/\ObjOk H h a u
 | .tbl s=>h.get? a=some { cls:=.none,data:=.fields s }
 | .met f x=>h.get? a=some (PySem.W.methodObj (.ref f) (.ref x))
 | .ext φ=>φ h/\(∃o,h.get? a=some o)/\∀m k:Heap,φ m->(∀o,m.get? a=some o->k.get? a=some o)->φ k
def HOk (H:Hp)(h:Heap):Prop:=∀a o,H a=some o->ObjOk P w H h a o
end
section
variable {P:Program}{w:World}{H H':Hp}{h h':Heap}{a:Addr}{o:HO}
theorem ObjOk.lt (x:ObjOk P w H h a o):a<h.objs.size:=by
 cases o with
 | lst d=>obtain⟨_,_,_,_,e⟩:=x; exact bS e
 | tup d=>obtain⟨_,_,_,p⟩:=x; exact p.tup.lt
 | dK b=>obtain⟨_,_,_,_,o,_,_,e,_⟩:=x; exact bS e
 | dT b=>obtain⟨_,_,_,_,o,_,_,e,_⟩:=x; exact bS e
 | set S n=>obtain⟨o,_,_,_,e,_⟩:=x; exact bS e
 | ins C k c=>obtain⟨_,_,_,e,_⟩:=x; exact bS e
 | own y=>obtain⟨_,e⟩:=x; exact bS e
 | exc C l c=>obtain⟨_,_,_,e,_⟩:=x; exact bS e
 | xd c=>obtain⟨_,⟨_,_,_,e,_⟩,_⟩:=x; exact bS e
 | rng lo j=>obtain⟨_,_,_,e⟩:=x; exact bS e
 | frz g u=>obtain⟨e,_⟩:=x; exact bS e
 | tbl i=>exact bS (show h.get? a=some _ from x)
 | met f y=>exact bS (show h.get? a=some _ from x)
 | ext φ=>obtain⟨_,⟨_,e⟩,_⟩:=x; exact bS e
def Paired.mapP:∀{d:List α} {c:List β},Paired F d c->(∀a b,F a b->G a b)->Paired G d c:=by
 intro _ _ hZ;induction hZ with
 | nil=>exact λ_=>.nil
 | cons r t O=>exact λf=>.cons (f _ _ r) (O f)
def ObjOk.stay (x:ObjOk P w H h a o)(k:∀b u,(b=a\/H b=some (.own a))->h.get? b=some u->h'.get? b=some u)
  (L:∀b,H b=some (.own a)->H' b=some (.own a))(T:∀b m,H b=some (.tup m)->H' b=some (.tup m)):ObjOk P w H' h' a o:=by
 induction o with
 | lst m=>obtain⟨z,l,n,r,e⟩:=x; exact⟨z,l,n,r,k _ _ (.inl rfl) e⟩
 | tup m=>obtain⟨z,l,r,j,e,c⟩:=x; exact⟨z,l,r,j,k _ _ (.inl rfl) e,c⟩
 | dK E=>obtain⟨z,y,F,r,j,i,g,e,c⟩:=x; exact⟨z,y,F,r,j,i,g,k _ _ (.inl rfl) e,c⟩
 | dT E=>
  obtain⟨z,y,m,r,j,i,g,e,c⟩:=x;exact⟨z,y,m,Paired.mapP r λp q z=>⟨z.1,T _ _ z.2.1,z.2.2⟩,j,i,g,k _ _ (.inl rfl) e,c⟩
 | set S n=>obtain⟨j,i,g,t,e,c⟩:=x; exact⟨j,i,g,t,k _ _ (.inl rfl) e,c⟩
 | ins C M G=>
  obtain⟨d,z,ne,e,s,⟨A,i,g,B,c⟩,r⟩:=x;exact⟨L _ d,z,ne,k _ _ (.inl rfl) e,s,⟨A,i,g,k _ _ (.inr d) B,c⟩,r⟩
 | own y=>obtain⟨j,e⟩:=x; exact⟨j,k _ _ (.inl rfl) e⟩
 | exc C nw G=>
  obtain⟨z,o,F,e,c1,U,N,Z,q⟩:=x;refine⟨z,o,F,k _ _ (.inl rfl) e,c1,U,N,Z,?_⟩;rcases q with q | ⟨M,Y,J,Q,s,⟨A,i,g,B,c⟩,r⟩
  .exact .inl q
  .exact .inr ⟨M,Y,L _ J,Q,s,⟨A,i,g,k _ _ (.inr J) B,c⟩,r⟩
 | xd G=>obtain⟨s,⟨A,i,g,e,c⟩,r⟩:=x; exact⟨s,⟨A,i,g,k _ _ (.inl rfl) e,c⟩,r⟩
 | rng lo hi=>obtain⟨t,u,v,e⟩:=x; exact⟨t,u,v,k _ _ (.inl rfl) e⟩
 | frz j u X=>obtain⟨e,q⟩:=x; exact⟨k _ _ (.inl rfl) e,X q⟩
 | tbl I=>
  have e:h.get? a=some { cls:=.none,data:=.fields I }:=x;show h'.get? a=some { cls:=.none,data:=.fields I };exact k a _ (.inl rfl) e
 | met f y=>
  have e:h.get? a=some (PySem.W.methodObj (.ref f) (.ref y)):=x;show h'.get? a=some (PySem.W.methodObj (.ref f) (.ref y));exact k a _ (.inl rfl) e
 | ext φ=>obtain⟨p,⟨o,e⟩,st⟩:=x; exact⟨st _ _ p λo q=>k _ _ (.inl rfl) q,⟨o,k _ _ (.inl rfl) e⟩,st⟩
theorem HOk.lt (x:HOk P w H h)(e:H a=some o):a<h.objs.size:=(x a o e).lt
def HOk.fresh (x:HOk P w H h)(e:h.objs.size<=a):H a=none:=by
 cases q:H a with
 | none=>rfl
 | some u=>exact absurd (eD (x.lt q) e) (Hx _)
def HOk.kept (x:HOk P w H h)(k:∀b u,h.get? b=some u->h'.get? b=some u):HOk P w H h':=λa o e=>
 (x a o e).stay (λb u _ q=>k b u q) (λ_ q=>q) λ_ _ q=>q
def HOk.laid (x:HOk P w H h)(k:∀b u,h.get? b=some u->h'.get? b=some u)(g:h.objs.size<=a)(new:ObjOk P w (upd H a o) h' a o):HOk P w (upd H a o) h':=λb u e=>by
 have d:=x.fresh g;by_cases f:b=a
 .subst f; rw[bT] at e; cases e; exact new
 .rw[bE f] at e;exact (x b u e).stay (λc v _ q=>k c v q) (λc q=>by rw[bE (mw q d)]; exact q) λc i q=>by rw[bE (mw q d)]; exact q
end
def Rd (H:Hp)(a:Addr)(u:HO):Prop:=H a=some u\/∃o,H a=some (.frz o u)
def Rd.ok (r:Rd H a u)(x:HOk P w H h):ObjOk P w H h a u:=by
 rcases r with r | ⟨o,r⟩
 .exact x a u r
 .obtain⟨_,q⟩:=x a _ r;exact q
def nO:Option HO->Prop
 | some (.lst _)=>True
 | some (.dK _)=>True
 | some (.dT _)=>True
 | some (.set _ _)=>True
 | some (.ins _ _ _)=>True
 | some (.exc _ _ _)=>True
 | some (.ext _)=>True
 | _=>False
section
variable {P:Program}{w:World}{H:Hp}{h h':Heap}{x e:Addr}{a:HO}
def HOk.write (ok:HOk P w H h)(m:nO (H x))(o:e=x\/H e=some (.own x))(k:∀b u,b≠e->h.get? b=some u->h'.get? b=some u)(n:∃u,h'.get? e=some u)
  (new:ObjOk P w (upd H x a) h' x a):HOk P w (upd H x a) h':=λb u q=>by
 have f:∀c y,H c=some (.own y)->c≠x:=λc y r z=>by subst z; rw[r] at m; exact m
 have g:∀c l,H c=some (.tup l)->c≠x:=λc l r z=>by subst z; rw[r] at m; exact m
 by_cases i:b=x
 .subst i; rw[bT] at q; cases q; exact new
 .rw[bE i] at q;by_cases d:b=e
  .have p:H b=some (.own x):=by
    rcases o with z | z
    .exact absurd (d.trans z) i
    .rw[d]; exact z
   rw[q] at p; cases p;obtain⟨v,s⟩:=n;exact⟨v,by rw[d]; exact s⟩
  .refine (ok b u q).stay (λc v j r=>k c v ?_ r) (λc r=>by rw[bE (f c b r)]; exact r) λc l r=>by rw[bE (g c l r)]; exact r
   rcases j with rfl | j
   .exact d
   .rintro rfl;rcases o with z | z
    .exact f c b j z
    .rw[j] at z; cases z; exact i rfl
end
structure Un (fs ex:al)(H H':Hp)(h h':Heap):Prop where
 keep:∀b o,h.get? b=some o->H b=none->b∉fs->b∉ex->h'.get? b=some o
 slot:∀b o,h.get? b=some o->H b=none->b∈fs->b∉ex->∃sl,h'.get? b=some { o with slots:=sl }
 free:∀b o,h.get? b=some o->H b=none->b∉ex->H' b=none
 there:∀b o,h.get? b=some o->b∉ex->∃o',h'.get? b=some o'
 tups:∀b xs,H b=some (.tup xs)->H' b=some (.tup xs)
 frzs:∀b o u,H b=some (.frz o u)->H' b=some (.frz o u)
 tbls:∀b ps,H b=some (.tbl ps)->∃more,H' b=some (.tbl (ps++more))
section
variable {fs fs' ex ex':al}{H H1 H2:Hp}{h h1 h2 h':Heap}{a x e:Addr}{o:HO}
def Un.any (u:Un fs ex H H1 h h1)(q:h.get? b=some c)(n:H b=none)(f:b∉ex):∃g,h1.get? b=some { c with slots:=g }:=by
 by_cases d:b∈fs
 .exact u.slot b c q n d f
 .exact⟨c.slots,u.keep b c q n d f⟩
def Un.trans (a:Un fs ex H H1 h h1)(b:Un fs ex H1 H2 h1 h2):Un fs ex H H2 h h2 where
 keep:=λc ob q n hc hx=>b.keep c ob (a.keep c ob q n hc hx) (a.free c ob q n hx) hc hx
 slot:=λc ob q n hc hx=>by
  obtain⟨sl,e1⟩:=a.slot c ob q n hc hx;obtain⟨sl',e2⟩:=b.slot c _ e1 (a.free c ob q n hx) hc hx;exact⟨sl',e2⟩
 free:=λc ob q n hx=>by
  obtain⟨o',e1⟩:=a.there c ob q hx;exact b.free c o' e1 (a.free c ob q n hx) hx
 there:=λc ob q hx=>by
  obtain⟨o',e1⟩:=a.there c ob q hx;exact b.there c o' e1 hx
 tups:=λc xs q=>b.tups c xs (a.tups c xs q)
 frzs:=λc ob xs q=>b.frzs c ob xs (a.frzs c ob xs q)
 tbls:=λc ps q=>by
  obtain⟨m1,e1⟩:=a.tbls c ps q;obtain⟨m2,e2⟩:=b.tbls c _ e1;exact⟨m1++m2,by rw[e2,Array.append_assoc]⟩
def Un.kept (k:∀b u,h.get? b=some u->h'.get? b=some u):Un fs ex H H h h':=
 ⟨λb c q _ _ _=>k b c q,λb c q _ _ _=>⟨c.slots,k b c q⟩,λ_ _ _ n _=>n,λb c q _=>⟨c,k b c q⟩,λ_ _ q=>q,λ_ _ _ q=>q,λ_ d q=>⟨#[],by rw[q]; simp⟩⟩
def Un.refl:Un fs ex H H h h:=Un.kept λ_ _ q=>q
def Un.laid (k:∀b u,h.get? b=some u->h'.get? b=some u)(hp:h.objs.size<=a)(hn:H a=none):Un fs ex H (upd H a o) h h' where
 keep:=λb u q _ _ _=>k b u q
 slot:=λb u q _ _ _=>⟨u.slots,k b u q⟩
 free:=λb u q n _=>by rw[bE (IF (Nat.lt_of_lt_of_le (Heap.lt_size q) hp))]; exact n
 there:=λb u q _=>⟨u,k b u q⟩
 tups:=λb xs q=>by rw[bE (mw q hn)]; exact q
 frzs:=λb u xs q=>by rw[bE (mw q hn)]; exact q
 tbls:=λb ps q=>⟨#[],by rw[bE (mw q hn),q]; simp⟩
def Un.write (d:nO (H x))(l:e=x\/H e=some (.own x))(k:∀b u,b≠e->h.get? b=some u->h'.get? b=some u)(g:∃u,h'.get? e=some u):Un fs ex H (upd H x o) h h':=by
 have j:∀b,H b=none->b≠x:=λb n z=>by subst z; rw[n] at d; exact d
 have i:∀b,H b=none->b≠e:=λb n z=>by
  subst z;rcases l with r | r
  .exact j b n r
  .rw[n] at r; cases r
 have f:∀b u,H b=some u->¬nO (some u)->b≠x:=λb u q m z=>by subst z; rw[q] at d; exact m d
 refine⟨λb u q n _ _=>k b u (i b n) q,λb u q n _ _=>⟨u.slots,k b u (i b n) q⟩,λb u q n _=>by rw[bE (j b n)]; exact n,λb u q _=>?_,
  λb p q=>by rw[bE (f b _ q λz=>z)]; exact q,λb u p q=>by rw[bE (f b _ q λz=>z)]; exact q,λb s q=>⟨#[],by rw[bE (f b _ q λz=>z),q]; simp⟩⟩
 by_cases c:b=e
 .subst c; exact g
 .exact⟨u,k b u c q⟩
end
noncomputable def o7 (h:Heap)(H:Hp):al:=(List.range h.objs.size).filter λa=>(H a).isSome
noncomputable def eR (h:Heap)(H:Hp):Heap:=PySem.W.hideAll h (o7 h H)
def yU (h:Heap)(H:Hp):(eR h H).objs.size=h.objs.size:=PySem.W.hideAll_size _ _
def A6 (e:h.get? b=some o)(n:H b=none):(eR h H).get? b=some o:=
 PySem.W.hideAll_get _ e λa=>by
  have q:(H b).isSome=true:=(G1.mp a).2;rw[n] at q; simp at q
def DX (e:(eR h H).get? b=some o):h.get? b=some o/\H b=none:=by
 have a:h.get? b=some o:=PySem.W.of_hideAll (o7 h H) e;refine⟨a,?_⟩;cases q:H b with
 | none=>rfl
 | some x=>
  have c:b∈o7 h H:=G1.mpr ⟨Hh.mpr (bS a),by simp[q]⟩;have z:(eR h H).get? b=none:=PySem.W.hideAll_none (o7 h H) c;rw[z] at e; cases e
noncomputable def iJ (g h:Heap)(L:Addr):ah:=(List.range h.objs.size).filterMap λa=>if a=L\/(g.get? a).isSome=true then none else (h.get? a).map λo=>(a,o)
noncomputable def rest (g h:Heap)(L d:Addr):ah:=(iJ g h L).filter λp=>decide (p.1≠d)
structure Mod (K:bh)(mg:Str->aA)(base:Heap):Prop where
 kin:K.In base
 glob:base.Ns mainGlobals mg
 blt:∃mb,base.Ns builtinsNs mb/\∀x:Str,x ≠ "__name__" -> mb x=bootBuiltins x
 nolimit:base.NoLimit
structure Cx where
 prog:Program
 w:World
 K:bh
 mg:Str->aA
 base:Heap
 A:Around
 N:ar
 s₀:Shared
 H₀:Hp
 env:Env
 outer:List Env
 stack:List Env
 ex:al
 fn:Str->Bool
 calm:Bool
 pn:ah
 xe:Value->Shared->Prop
noncomputable def fG (l:List Env):al:=l.filterMap (·.frame)
noncomputable abbrev Cx.fs (X:Cx):al:=fG X.outer
def oy (a:Scope)(x:Str):Prop:=a.names.lookup x=some .local\/a.names.lookup x=some .cell\/a.names.lookup x=some .free
def Loc (a:Scope)(x:Str):Prop:=a.names.lookup x=some .local\/a.names.lookup x=some .cell
def Look (a:Env)(h:Heap)(m:Str->aA)(x:Str)(u:Value):Prop:=
 (a.kindOf x=some .local/\m x=some u)\/((a.kindOf x=some .cell\/a.kindOf x=some .free)/\∃c,a.cells.lookup x=some c/\h.IsCell c (some u))
structure Cx.Ok (X:Cx):Prop where
 mod:Mod X.K X.mg X.base
 kind:X.env.scope.kind=.function
 glob:X.env.globals=mainGlobals
 blt:X.env.builtins=builtinsNs
 above:X.s₀.heap.objs.size<=X.env.locals
 inj:∀x y c,X.env.cells.lookup x=some c->X.env.cells.lookup y=some c->x=y
 has:∀x,(X.env.kindOf x=some .cell\/X.env.kindOf x=some .free)->∃c,X.env.cells.lookup x=some c
 cab:∀x c,X.fn x=true->X.env.cells.lookup x=some c->X.s₀.heap.objs.size<=c
 hd:X.calm=true->X.A.handled=none
 frames:X.A.frames=some X.stack
 stk:X.stack=X.outer\/(X.stack=X.env::X.outer/\X.env.frame=some X.env.locals)
 exf:∀b∈X.ex,b≠X.env.locals/\∀x c,X.env.cells.lookup x=some c->c≠b
 bs:∀b o,X.base.get? b=some o->X.s₀.heap.get? b=some o/\X.H₀ b=none
 bsz:X.base.objs.size<=X.s₀.heap.objs.size
 noex:∀b o,X.base.get? b=some o->b∉X.ex
 exfs:∀b∈X.ex,b∉X.fs
 funs:X.s₀.heap.FunFrames X.base X.outer
 frf:∀b∈X.fs,X.H₀ b=none
structure Inv (X:Cx)(pins:ah)(σ:List (Option V))(H:Hp)(s:Shared):Prop where
 ok:X.Ok
 os:s.os=X.s₀.os
 bare:AllBare s.gens
 base:Un X.fs X.ex X.H₀ H X.s₀.heap s.heap
 loc:∃m,s.heap.Ns X.env.locals m/\∀(i:Nat) (x:Str) (v:V),X.N[i]? = some x->σ[i]? = some (some v)->oy X.env.scope x->∃u,RelV v u/\Look X.env s.heap m x u
 cell:∀x c,X.env.cells.lookup x=some c->∃v,s.heap.IsCell c v
 free:H X.env.locals=none
 freeC:∀x c,X.env.cells.lookup x=some c->H c=none
 pin:∀p∈X.pn++pins,s.heap.get? p.1=some p.2/\H p.1=none/\p.1≠X.env.locals/\p.1∉X.fs/\∀v,p.2.data≠.cell v
 hok:HOk X.prog X.w H s.heap
 len:σ.length=X.N.length
section
variable {X:Cx}{f:ah}{σ:List (Option V)}{H H':Hp}{s:Shared}{h':Heap}
def Cx.Ok.nofr (ok:X.Ok)(e:X.base.get? b=some o):b∉X.fs:=λa=>by
 have:=(ok.funs.mem a).1;rw[e] at this; cases this
theorem Inv.bs (I:Inv X f σ H s):∀b o,X.base.get? b=some o->s.heap.get? b=some o/\H b=none:=λb o e=>
 ⟨I.base.keep b o (I.ok.bs b o e).1 (I.ok.bs b o e).2 (I.ok.nofr e) (I.ok.noex b o e),I.base.free b o (I.ok.bs b o e).1 (I.ok.bs b o e).2 (I.ok.noex b o e)⟩
def Inv.bk (I:Inv X f σ H s):∀b o,X.base.get? b=some o->s.heap.get? b=some o:=λb o e=>(I.bs b o e).1
theorem Inv.mod (I:Inv X f σ H s):Mod X.K X.mg X.base:=I.ok.mod
def Inv.kIn (I:Inv X f σ H s):X.K.In s.heap:=I.ok.mod.kin.keeps I.bk
theorem Inv.nolimit (I:Inv X f σ H s):s.heap.NoLimit:=I.ok.mod.nolimit.keeps I.bk
theorem Inv.lt (I:Inv X f σ H s):X.env.locals<s.heap.objs.size:=let ⟨_,a,_⟩:=I.loc; a.lt
def Inv.sz (I:Inv X f σ H s):X.s₀.heap.objs.size<=s.heap.objs.size:=bC I.ok.above (HK I.lt)
def Inv.nofs (I:Inv X f σ H s)(h:s.heap.objs.size<=a):a∉X.fs:=λb=>by
 obtain⟨_,o,c,_⟩:=I.ok.funs.mem b;exact absurd (eD (bS c) (bC I.sz h)) (Hx _)
def Inv.cne (I:Inv X f σ H s):∀x c,X.env.cells.lookup x=some c->c≠X.env.locals:=λx c e z=>by
 obtain⟨v,o,d,hd⟩:=I.cell x c e;obtain⟨m,⟨i,h,g,a,b,_⟩,_⟩:=I.loc;rw[z,a] at d; cases d; rw[b] at hd; cases hd
theorem Inv.funs (I:Inv X f σ H s):s.heap.FunFrames X.base X.outer:=by
 have all:∀(l:List Env),(∀b∈fG l,b∈X.fs)->X.s₀.heap.FunFrames X.base l->s.heap.FunFrames X.base l:=by
  intro l;induction l with
  | nil=>intro _ _; trivial
  | cons h r m=>
   intro hs j;obtain⟨i,⟨L,o,a,k,n,hd⟩,g⟩:=j;have d:L∈X.fs:=hs L (by unfold fG; rw[List.filterMap_cons,a]; exact bP);obtain⟨p,e⟩:=I.base.slot L o n (I.ok.frf L d) d λz=>I.ok.exfs L z d;exact⟨i,⟨L,_,a,k,e,hd⟩,m (λb c=>hs b (by unfold fG; rw[List.filterMap_cons,a]; exact bK _ c)) g⟩
 exact all X.outer (λ_ c=>c) I.ok.funs
theorem Inv.stack (I:Inv X f σ H s):s.heap.FunFrames X.base X.stack:=by
 rcases I.ok.stk with e | ⟨e,a⟩
 .rw[e]; exact I.funs
 .rw[e];obtain⟨m,b,_⟩:=I.loc;refine .cons (by rw[I.ok.kind]; decide) a b ?_ I.funs;exact IB (bC I.ok.bsz I.ok.above)
def Inv.stkSub (I:Inv X f σ H s):∀b∈fG X.stack,b∈X.env.locals::X.fs:=λb a=>by
 rcases I.ok.stk with e | ⟨e,c⟩
 .rw[e] at a; exact bK _ a
 .rw[e] at a;unfold fG at a;rw[List.filterMap_cons,c] at a;exact a
def Inv.stkFree (I:Inv X f σ H s):∀b∈fG X.stack,H b=none:=λb a=>by
 rcases ck (I.stkSub b a) with e | a
 .rw[e]; exact I.free
 .obtain⟨_,o,c,_⟩:=I.ok.funs.mem a;exact I.base.free b o c (I.ok.frf b a) λz=>I.ok.exfs b z a
def Inv.step {g':Array GenState}{t':Nat}{d':Drawn}{ch:al}(I:Inv X f σ H s)
  (g:∀b∈ch,(b∈X.ex\/X.s₀.heap.objs.size<=b)/\b≠X.env.locals/\(∀x c,X.env.cells.lookup x=some c->c≠b)/\∀p∈X.pn++f,p.1≠b)
  (keep:∀b o,b≠X.env.locals->b∉X.fs->b∉ch->s.heap.get? b=some o->H b=none->h'.get? b=some o)
  (slot:∀b o,b≠X.env.locals->b∈X.fs->b∉ch->s.heap.get? b=some o->H b=none->∃T,h'.get? b=some { o with slots:=T })(free:∀b o,b∉ch->s.heap.get? b=some o->H b=none->H' b=none)
  (there:∀b o,b∉ch->s.heap.get? b=some o->∃L,h'.get? b=some L)
  (E:∀b A,H b=some (.tup A)->H' b=some (.tup A))(F:∀b o u,H b=some (.frz o u)->H' b=some (.frz o u))(G:∀b N,H b=some (.tbl N)->∃more,H' b=some (.tbl (N++more)))
  (ns:∀m,s.heap.Ns X.env.locals m->h'.Ns X.env.locals m)(P:HOk X.prog X.w H' h')(hg:AllBare g') :
  Inv X f σ H' { s with heap:=h',gens:=g',drawn:=d',toks:=t' }:=by
 have M:∀b o,X.s₀.heap.get? b=some o->b≠X.env.locals:=λb o e=>dA (eD (bS e) I.ok.above);have t:∀b o,X.s₀.heap.get? b=some o->b∉X.ex->b∉ch:=λb o e a B=>by
  rcases (g b B).1 with z | z
  .exact a z
  .exact absurd (eD (bS e) z) (Hx _)
 have j:∀x c,X.env.cells.lookup x=some c->∀v,s.heap.IsCell c v->h'.IsCell c v:=λx c e v ⟨o,C,hd⟩=>by
  have h:c∉ch:=λz=>(g c z).2.2.1 x c e rfl;by_cases Y:c∈X.fs
  .obtain⟨T,q⟩:=slot c o (I.cne x c e) Y h C (I.freeC x c e);exact⟨_,q,hd⟩
  .exact⟨o,keep c o (I.cne x c e) Y h C (I.freeC x c e),hd⟩
 refine⟨I.ok,I.os,hg,⟨λb o e n B a=>?_,λb o e n B a=>?_,λb o e n a=>?_,λb o e a=>?_,λb A e=>E b A (I.base.tups b A e),λb o A e=>F b o A (I.base.frzs b o A e),λb N e=>?_⟩,?_,λx c e=>?_,?_,λx c e=>?_,λp U=>?_,P,I.len⟩
 .exact keep b o (M b o e) B (t b o e a) (I.base.keep b o e n B a) (I.base.free b o e n a)
 .obtain⟨T,y⟩:=I.base.slot b o e n B a;obtain⟨Q,J⟩:=slot b _ (M b o e) B (t b o e a) y (I.base.free b o e n a);exact⟨Q,J⟩
 .obtain⟨L,y⟩:=I.base.there b o e a;exact free b L (t b o e a) y (I.base.free b o e n a)
 .obtain⟨L,y⟩:=I.base.there b o e a;exact there b L (t b o e a) y
 .obtain⟨m1,y⟩:=I.base.tbls b N e;obtain⟨m2,J⟩:=G b _ y;exact⟨m1++m2,by rw[J,Array.append_assoc]⟩
 .obtain⟨m,hn,Z⟩:=I.loc;refine⟨m,ns m hn,λi x v y J e3=>?_⟩;obtain⟨u,r,l⟩:=Z i x v y J e3;refine⟨u,r,?_⟩;rcases l with l | ⟨k,c,e,z⟩
  .exact .inl l
  .exact .inr ⟨k,c,e,j x c e _ z⟩
 .obtain⟨v,z⟩:=I.cell x c e;exact⟨v,j x c e v z⟩
 .obtain⟨m,⟨o,_,_,C,_⟩,_⟩:=I.loc;exact free _ o (λz=>(g _ z).2.1 rfl) C I.free
 .obtain⟨v,o,C,hd⟩:=I.cell x c e;exact free c o (λz=>(g c z).2.2.1 x c e rfl) C (I.freeC x c e)
 .obtain⟨e,n,ne,W,d⟩:=I.pin p U;have h:p.1∉ch:=λz=>(g p.1 z).2.2.2 p U rfl;exact⟨keep p.1 p.2 ne W h e n,free p.1 p.2 h e n,ne,W,d⟩
def Inv.un {t':Nat}(I:Inv X f σ H s)(u:Un X.fs [] H H' s.heap h')(d:HOk X.prog X.w H' h'):Inv X f σ H' { s with heap:=h',toks:=t' }:=by
 obtain⟨m,⟨o,v,t,i,r⟩,_⟩:=id I.loc;obtain⟨q,k⟩:=u.any i I.free (by simp);exact I.step (g':=s.gens) (d':=s.drawn) (ch:=[]) (λ_ z=>nomatch z) (λb o _ h _ e n=>u.keep b o e n h (by simp)) (λb o _ h _ e n=>u.slot b o e n h (by simp)) (λb o _ e n=>u.free b o e n (by simp)) (λb o _ e=>u.there b o e (by simp)) u.tups u.frzs u.tbls (λp l=>by
  obtain⟨x,c,g,a,j⟩:=l;rw[i] at a; cases a;exact⟨_,c,g,k,j⟩) d I.bare
def Inv.call {g':Array GenState}{t':Nat}{d':Drawn}{ch:al}(I:Inv X f σ H s)(u:Un (fG X.stack) ch H H' s.heap h')(j:HOk X.prog X.w H' h')(v:AllBare g')
  (d:∀b∈ch,(b∈X.ex\/X.s₀.heap.objs.size<=b)/\b≠X.env.locals/\(∀x c,X.env.cells.lookup x=some c->c≠b)/\∀p∈X.pn++f,p.1≠b) :
  Inv X f σ H' { s with heap:=h',gens:=g',drawn:=d',toks:=t' }:=by
 obtain⟨m,⟨o,F,A,l,r⟩,_⟩:=id I.loc;obtain⟨E,k⟩:=u.any l I.free λz=>(d _ z).2.1 rfl;exact I.step (ch:=ch) d (λb o k q a e n=>u.keep b o e n (λz=>(ck (I.stkSub b z)).elim k q) a) (λb o _ _ a e n=>u.any e n a) (λb o a e n=>u.free b o e n a) (λb o a e=>u.there b o e a) u.tups u.frzs u.tbls (λC y=>by
  obtain⟨B,h,i,g,t⟩:=y;rw[l] at g; cases g;exact⟨_,h,i,k,t⟩) j v
def Inv.turned {t':Nat}{it:Addr}(I:Inv X f σ H s)(k:∀b o,b≠it->s.heap.get? b=some o->h'.get? b=some o)(t:H it=none)(g:it≠X.env.locals)
  (B:it∈X.ex\/X.s₀.heap.objs.size<=it)(w:∀x c,X.env.cells.lookup x=some c->c≠it)(j:∀p∈X.pn++f,p.1≠it):Inv X f σ H { s with heap:=h',toks:=t' }:=by
 have d:∀b u,H b=some u->b≠it:=λb u e z=>by rw[z,t] at e; cases e
 refine I.step (g':=s.gens) (d':=s.drawn) (ch:=[it]) (λb i=>?_) (λb o _ _ a e _=>k b o (λz=>a (by simp[z])) e) (λb o _ _ a e _=>⟨o.slots,k b o (λz=>a (by simp[z])) e⟩) (λ_ _ _ _ n=>n)
  (λb o a e=>⟨o,k b o (λz=>a (by simp[z])) e⟩) (λ_ _ e=>e) (λ_ _ _ e=>e) (λb C e=>⟨#[],by rw[e]; simp⟩) (λm A=>?_) (λb u e=>?_) I.bare
 .have e:b=it:=by simpa using i
  subst e;exact⟨B,g,w,j⟩
 .obtain⟨o,y,h,l,r⟩:=A;exact⟨o,y,h,k _ o (Ij g) l,r⟩
 .refine (I.hok b u e).stay (λc v a q=>k c v ?_ q) (λ_ q=>q) λ_ _ q=>q;rcases a with z | z
  .rw[z]; exact d b u e
  .exact d c _ z
def Inv.tok (I:Inv X f σ H s)(t:Nat):Inv X f σ H { s with toks:=t }:=I.un (h':=s.heap) (t':=t) Un.refl I.hok
theorem Inv.kept (I:Inv X f σ H s)(k:∀b u,s.heap.get? b=some u->h'.get? b=some u):Inv X f σ H { s with heap:=h',toks:=t' }:=I.un (Un.kept k) (I.hok.kept k)
theorem Inv.laid (I:Inv X f σ H s)(k:∀b u,s.heap.get? b=some u->h'.get? b=some u)(c:s.heap.objs.size<=a)(new:ObjOk X.prog X.w (upd H a o) h' a o) :
  Inv X f σ (upd H a o) { s with heap:=h',toks:=t' }:=I.un (Un.laid k c (I.hok.fresh c)) (I.hok.laid k c new)
theorem Inv.write (I:Inv X f σ H s)(d:nO (H x))(c:e=x\/H e=some (.own x))(k:∀b u,b≠e->s.heap.get? b=some u->h'.get? b=some u)(a:∃u,h'.get? e=some u)
  (new:ObjOk X.prog X.w (upd H x o) h' x o):Inv X f σ (upd H x o) { s with heap:=h',toks:=t' }:=I.un (Un.write d c k a) (I.hok.write d c k a new)
def Inv.pins_of (I:Inv X f σ H s)(h:∀p∈a,s.heap.get? p.1=some p.2/\H p.1=none/\p.1≠X.env.locals/\p.1∉X.fs/\∀v,p.2.data≠.cell v):Inv X a σ H s:=
 ⟨I.ok,I.os,I.bare,I.base,I.loc,I.cell,I.free,I.freeC,λp b=>(dL b).elim (λz=>I.pin p (ev _ z)) (h p),I.hok,I.len⟩
def n0 {N:ar}(e:N.Nodup){i j:Nat}{x:Str}(a:N[i]? = some x)(b:N[j]? = some x):i=j:=by
 obtain⟨h,d⟩:=di a;obtain⟨g,c⟩:=di b;exact (List.getElem_inj e).mp (d.trans c.symm)
def Dm {M:Model}{A:Around}{E:Value->Shared->Prop}{i:Nat}{x:Str}{v:V}{u:Value}{Q:Unit->Shared->Prop}(I:Inv X f σ H s)(hN:X.N.Nodup)(Z:X.N[i]? = some x)(B:Loc X.env.scope x)(r:RelV v u)
  (h:∀s',Inv X f (σ.set i (some v)) H s'->(∃a,Heap.SameBut a s.heap s'.heap/\(a=X.env.locals\/X.env.cells.lookup x=some a))->Q () s')(hf:X.fn x=true\/X.env.scope.names.lookup x=some .local:=by first | exact .inl rfl | exact .inr rfl | assumption):wpAny M A (storeName X.env x u) Q E s:=by
 obtain⟨m,hn,hl⟩:=id I.loc;have a1:(X.env.scope.kind == .class||(X.env.scope.kind == .module&&X.env.locals != X.env.globals))=false:=by rw[I.ok.kind]; rfl
 have G:i < σ.length:=by rw[I.len]; exact (di Z).1
 have T:=I.cne;have g:∀{a:Addr} {h':Heap},(∃o,s.heap.get? a=some o/\H a=none)->Heap.SameBut a s.heap h'->HOk X.prog X.w H h':=λ{a h'} ha hs b ob e=>by
  obtain⟨_,_,C⟩:=ha;refine (I.hok b ob e).stay (λc w' t q=>(hs.2 c ?_).trans q) (λ_ q=>q) λ_ _ q=>q;rintro rfl;rcases t with rfl | t
  .rw[C] at e; cases e
  .rw[C] at t; cases t
 rcases B with J | J
 .refine wpAny_storeName_local J hn (λh' a3 hs=>?_) a1;obtain⟨oL,_,_,a4,_⟩:=id hn;refine h _ ⟨I.ok,I.os,I.bare,⟨λb o e n L B=>?_,λb o e n L B=>?_,I.base.free,λb o e B=>?_,I.base.tups,I.base.frzs,I.base.tbls⟩,⟨_,a3,λj y v' l F e3=>?_⟩,λy c e=>?_,I.free,I.freeC,λp hp=>?_,g ⟨oL,a4,I.free⟩ hs,by simpa using I.len⟩ ⟨_,hs,.inl rfl⟩
  .exact (hs.2 b (dA (eD (bS e) I.ok.above))).trans (I.base.keep b o e n L B)
  .obtain⟨sl,l⟩:=I.base.slot b o e n L B;exact⟨sl,(hs.2 b (dA (eD (bS e) I.ok.above))).trans l⟩
  .obtain⟨o',l⟩:=I.base.there b o e B;exact⟨o',(hs.2 b (dA (eD (bS e) I.ok.above))).trans l⟩
  .by_cases P:j=i
   .subst P;rw[Z] at l; cases l;rw[GL G] at F;cases F;exact⟨u,r,.inl ⟨J,by simp⟩⟩
   .rw[GG (Ij P)] at F;obtain⟨u',r',q⟩:=hl j y v' l F e3;refine⟨u',r',?_⟩;rcases q with ⟨k,e⟩ | ⟨k,c,e,z⟩
    .refine .inl ⟨k,?_⟩;have:y≠x:=λe=>P (n0 hN l (e ▸ Z));simp[this,e]
    .exact .inr ⟨k,c,e,z.sameBut hs (T y c e)⟩
  .obtain⟨w',z⟩:=I.cell y c e;exact⟨w',z.sameBut hs (T y c e)⟩
  .obtain⟨e,n,ne,nf,d⟩:=I.pin p hp;exact⟨(hs.2 p.1 ne).trans e,n,ne,nf,d⟩
 .have U:X.fn x=true:=by
   rcases hf with z | z
   .exact z
   .rw[z] at J; cases J
  obtain⟨c,t⟩:=I.ok.has x (.inl J);obtain⟨w',z⟩:=I.cell x c t;refine wpAny_storeName_cell I.ok.kind J t z (λh' W hs=>?_);obtain⟨oc,a0,Y⟩:=id z;refine h { s with heap:=h' } ⟨I.ok,I.os,I.bare,⟨λb o e n L B=>?_,λb o e n L B=>?_,I.base.free,λb o e B=>?_,I.base.tups,I.base.frzs,I.base.tbls⟩,⟨m,hn.sameBut hs (Ij (T x c t)),λj y v' l F e3=>?_⟩,λy c' e=>?_,I.free,I.freeC,λp hp=>?_,g ⟨oc,a0,I.freeC x c t⟩ hs,by simpa using I.len⟩ ⟨c,hs,.inr t⟩
  .exact (hs.2 b (dA (eD (bS e) (I.ok.cab x c U t)))).trans (I.base.keep b o e n L B)
  .obtain⟨sl,l⟩:=I.base.slot b o e n L B;exact⟨sl,(hs.2 b (dA (eD (bS e) (I.ok.cab x c U t)))).trans l⟩
  .obtain⟨o',l⟩:=I.base.there b o e B;exact⟨o',(hs.2 b (dA (eD (bS e) (I.ok.cab x c U t)))).trans l⟩
  .by_cases P:j=i
   .subst P;rw[Z] at l; cases l;rw[GL G] at F;cases F;exact⟨u,r,.inr ⟨.inl J,c,t,W⟩⟩
   .rw[GG (Ij P)] at F;obtain⟨u',r',q⟩:=hl j y v' l F e3;refine⟨u',r',?_⟩;rcases q with q | ⟨k,c',e,z'⟩
    .exact .inl q
    .refine .inr ⟨k,c',e,z'.sameBut hs ?_⟩;rintro rfl;exact P (n0 hN l (I.ok.inj _ _ _ e t ▸ Z))
  .by_cases a2:c'=c
   .subst a2; exact⟨_,W⟩
   .obtain⟨w2,z2⟩:=I.cell y c' e;exact⟨w2,z2.sameBut hs a2⟩
  .obtain⟨e,n,ne,nf,d⟩:=I.pin p hp;refine⟨(hs.2 p.1 ?_).trans e,n,ne,nf,d⟩;intro q;rw[q,a0] at e;have q':oc=p.2:=cm e;exact d w' (by rw[<-q']; exact Y)
def qS (I:Inv X f σ H s)(e:X.N.Nodup)(d:X.N[i]? = some x)(g:Loc X.env.scope x)(r:RelV v u)
  (h:∀a,Inv X f (σ.set i (some v)) H a->Q () a)(b:X.fn x=true\/X.env.scope.names.lookup x=some .local:=by first | exact .inl rfl | exact .inr rfl | assumption):wpAny M A (storeName X.env x u) Q E s:=
 Dm I e d g r (λa c _=>h a c) b
def Inv.call' (I:Inv X f σ H s)(ho:s'.os=s.os)(u:Un (fG X.stack) ch H H' s.heap s'.heap)(hok:HOk X.prog X.w H' s'.heap)(hg:AllBare s'.gens)
  (hch:∀b∈ch,(b∈X.ex\/X.s₀.heap.objs.size<=b)/\b≠X.env.locals/\(∀x c,X.env.cells.lookup x=some c->c≠b)/\∀p∈X.pn++f,p.1≠b):Inv X f σ H' s':=by
 obtain⟨h',h,k,j,l⟩:=s';have e:l=s.os:=ho;subst e;exact I.call (g':=h) (t':=j) (d':=k) u hok hg hch
end
abbrev XK:=Value->aE->Hp->Prop
abbrev St:=List (Option V)
abbrev VK:=V->Hp->Prop
abbrev TE:=St->Hp->VK->Prop
abbrev TT:=St->Hp->(Bool->Hp->Prop)->Prop
abbrev TA:=St->Hp->(av->Hp->Prop)->Prop
structure Ends where
 nx:St->Hp->Prop
 rt:VK
 bk:St->Hp->Prop:=λ_ _=>False
 ct:St->Hp->Prop:=λ_ _=>False
abbrev TS:=Ends->St->Hp->Prop
def EP (X:Cx)(a:ah)(σ:St)(Q:VK)(u:Value)(c:Shared):Prop:=∃v b,Inv X a σ b c/\RelV v u/\Q v b
def TP (X:Cx)(a:ah)(σ:St)(Q:Bool->Hp->Prop)(b:Bool)(d:Shared):Prop:=∃c,Inv X a σ c d/\Q b c
def AP (X:Cx)(a:ah)(σ:St)(Q:av->Hp->Prop)(e:ao)(d:Shared):Prop:=∃c b,Inv X a σ b d/\Vals c e/\Q c b
def SP (X:Cx)(a:ah)(D:Ends)(f:Flow)(c:Shared):Prop:=
 match f with
 | .next=>∃σ' b,Inv X a σ' b c/\D.nx σ' b
 | .brk=>∃σ' b,Inv X a σ' b c/\D.bk σ' b
 | .cont=>∃σ' b,Inv X a σ' b c/\D.ct σ' b
 | .ret u=>∃v σ' b,Inv X a σ' b c/\RelV v u/\D.rt v b
def PE (X:Cx)(e:Expr)(t:TE):Prop:=
 ∀(a:ah) (s:Shared) (σ:St) (H:Hp) (Q:VK),Inv X a σ H s->t σ H Q->wpAny (model X.prog X.w) X.A (eval e X.env) (EP X a σ Q) X.xe s
def PT (X:Cx)(e:Expr)(t:TT):Prop:=
 ∀(a:ah) (s:Shared) (σ:St) (H:Hp) (Q:Bool->Hp->Prop),Inv X a σ H s->t σ H Q->wpAny (model X.prog X.w) X.A (isTrue e X.env (eval e X.env)) (TP X a σ Q) X.xe s
def PW (X:Cx)(e:Expr)(t:TT):Prop:=
 ∀(whole:Sem Value) (a:ah) (s:Shared) (σ:St) (H:Hp) (Q:Bool->Hp->Prop),Inv X a σ H s->t σ H Q->wpAny (model X.prog X.w) X.A (isTrue e X.env whole) (TP X a σ Q) X.xe s
def PW.pt (h:PW X e t):PT X e t:=h _
def PA (X:Cx)(b:au)(t:TA):Prop:=
 ∀(pos:Pos) (a:ah) (s:Shared) (σ:St) (H:Hp) (Q:av->Hp->Prop),Inv X a σ H s->t σ H Q->wpAny (model X.prog X.w) X.A (spliced (backTo pos (starEach b X.env))) (AP X a σ Q) X.xe s
def PS (X:Cx)(st:Stmt)(t:TS):Prop:=
 ∀(a:ah) (s:Shared) (σ:St) (H:Hp) (D:Ends),Inv X a σ H s->t D σ H->wpAny (model X.prog X.w) X.A (exec st X.env) (SP X a D) X.xe s
def PSs (X:Cx)(st:aG)(t:TS):Prop:=
 ∀(a:ah) (s:Shared) (σ:St) (H:Hp) (D:Ends),Inv X a σ H s->t D σ H->wpAny (model X.prog X.w) X.A (execs st X.env) (SP X a D) X.xe s
def bc (h:wpAny M A t Q E s)(c:∀a s,Q a s->b a s):wpAny M A t b E s:=Hl h c λ_ _ x=>x
section
variable {X:Cx}
def cu (i:Nat):TE:=λσ H Q=>∃v,σ[i]? = some (some v)/\Q v H
def tC (v:V):TE:=λ_ H Q=>Q v H
def oE (p:X.N[i]? = some x)(q:oy X.env.scope x)(hd:(x == ("__debug__" : Str))=false:=by decide)(j:(x == ("__classdict__" : Str))=false:=by decide):PE X (.Name x pos) (cu i):=by
 intro g s σ H Q I h;obtain⟨v,e,h⟩:=h;obtain⟨m,o,n⟩:=I.loc;obtain⟨u,r,l⟩:=n i x v p e q;have fin:EP X g σ Q u s:=⟨v,H,I,r,h⟩
 rcases l with ⟨f,t⟩ | ⟨f,c,k,d⟩
 .exact wpAny_Name (wpAny_loadName_local I.ok.kind f o t fin) hd
 .rcases f with f | f
  .exact wpAny_Name (wpAny_loadName_cell I.ok.kind f k d fin) hd
  .exact wpAny_Name (wpAny_loadName_free I.ok.kind f k d fin j) hd
def vE {i j pos}:PE X (.Constant (.int i) j pos) (tC (.int i)):=λ_ _ _ H _ I h=>wpAny_Constant_int ⟨.int i,H,I.tok _,⟨_,rfl⟩,h⟩
def yw {b j pos}:PE X (.Constant (.bool b) j pos) (tC (.bl b)):=λ_ _ _ H _ I h=>Constant_bool ⟨.bl b,H,I,rfl,h⟩
def xN {j pos}:PE X (.Constant .none j pos) (tC .non):=λ_ _ _ H _ I h=>Constant_none ⟨.non,H,I,rfl,h⟩
def zR {x j pos}:PE X (.Constant (.str x) j pos) (tC (.str x)):=λ_ _ _ H _ I h=>Calls.Constant_str ⟨.str x,H,I.tok _,⟨_,rfl⟩,h⟩
def Gl (X:Cx)(x:Str):Prop:=X.env.kindOf x=some .globalImplicit
def ie (I:Inv X c σ H s)(d:Gl X x)(e:X.mg x=some u)(h:Q u s)
  (hd:(x == ("__debug__" : Str))=false:=by decide):wpAny (model X.prog X.w) X.A (eval (.Name x pos) X.env) Q E s:=
 Calls.Name_function_global I.ok.kind d (Calls.loadGlobal_global (by rw[I.ok.glob]; exact I.mod.glob.keeps I.bk) e h) hd
def iD (I:Inv X c σ H s)(d:Gl X x)(i:X.mg x=none)(e:bootBuiltins x=some u)(h:Q u s)
  (f:x ≠ "__name__":=by decide)(hd:(x == ("__debug__" : Str))=false:=by decide):wpAny (model X.prog X.w) X.A (eval (.Name x pos) X.env) Q E s:=by
 obtain⟨k,j,g⟩:=I.mod.blt;exact Calls.Name_function_global I.ok.kind d (Calls.loadGlobal_builtin (by rw[I.ok.glob]; exact I.mod.glob.keeps I.bk) i (by rw[I.ok.blt]; exact j.keeps I.bk) ((g x f).trans e) h) hd
def vY (c:Gl X x)(d:X.mg x=some u)(r:RelV v u)(hd:(x == ("__debug__" : Str))=false:=by decide):PE X (.Name x pos) (tC v):=
 λ_ _ _ H _ I h=>ie I c d ⟨v,H,I,r,h⟩ hd
def Gr (c:Gl X x)(f:X.mg x=none)(d:bootBuiltins x=some u)(r:RelV v u)(e:x ≠ "__name__":=by decide)(hd:(x == ("__debug__" : Str))=false:=by decide):PE X (.Name x pos) (tC v):=
 λ_ _ _ H _ I h=>iD I c f d ⟨v,H,I,r,h⟩ e hd
variable {a b:Expr}{ta tb:TE}{pos:Pos}
def PC (X:Cx)(op:CmpOp)(a b:Expr)(t:TE):Prop:=
 ∀(c:ah) (s:Shared) (σ:St) (H:Hp) (Q:VK),Inv X c σ H s->t σ H Q ->
  wpAny (model X.prog X.w) X.A (eval a X.env) (λv d=>wpAny (model X.prog X.w) X.A (eval b X.env) (λu e=>wpAny (model X.prog X.w) X.A (compareOp op v u) (EP X c σ Q) X.xe e) X.xe d) X.xe s
def tW (b:Expr)(h:op≠.In)(e:op≠.NotIn):behindInMarks op b=false:=by
 have d:(op == CmpOp.In)=false:=by cases op <;> first | rfl | exact absurd rfl h
 have c:(op == CmpOp.NotIn)=false:=by cases op <;> first | rfl | exact absurd rfl e
 cases b <;> simp[behindInMarks,d,c]
def pM (ta:TE):TE:=λσ H Q=>ta σ H λx c=>Q (.bl (decide (x=.non))) c
def nv (ta:TE):TE:=λσ H Q=>ta σ H λx c=>Q (.bl (!decide (x=.non))) c
def RelV.none_iff (r:RelV x v):(v == Value.none)=decide (x=.non):=by
 cases x with
 | non=>cases r; rfl
 | bl _=>cases r; rfl
 | int _=>obtain⟨t,rfl⟩:=r; rfl
 | str _=>obtain⟨t,rfl⟩:=r; rfl
 | byt _=>obtain⟨t,rfl⟩:=r; rfl
 | flt _=>obtain⟨t,rfl⟩:=r; rfl
 | ref _=>cases r; rfl
 | ty _=>cases r; rfl
def vK {j c}(g:PE X a ta):PC X .Is a (.Constant .none j c) (pM ta):=by
 intro d s σ H Q I h;refine bc (g d s σ H _ I h) λv l z=>?_;obtain⟨x,f,i,e,k⟩:=z;exact Constant_none (is_none_gen ⟨.bl _,f,i,by rw[e.none_iff]; rfl,k⟩)
def vo {j c}(g:PE X a ta):PC X .IsNot a (.Constant .none j c) (nv ta):=by
 intro d s σ H Q I h;refine bc (g d s σ H _ I h) λv l z=>?_;obtain⟨x,f,i,e,k⟩:=z;exact Constant_none (isnot_none_gen ⟨.bl _,f,i,by rw[e.none_iff]; rfl,k⟩)
def tB (t:TE):TT:=λσ H Q=>t σ H λx d=>∃c,x=.bl c/\Q c d
def uO (h:PC X op a b t)(e:behindInMarks op b=false:=by first | exact tW _ (by decide) (by decide) | rfl):PE X (.Compare a [op] [b] pos) t:=λc s σ H Q I d=>wpAny_Compare1 (h c s σ H Q I d) e
def wg (h:PC X op a b t)(f:behindInMarks op b=false:=by first | exact tW _ (by decide) (by decide) | rfl):PT X (.Compare a [op] [b] pos) (tB t):=by
 intro e s σ H Q I g;refine wpAny_isTrue_Compare1 (bc (h e s σ H _ I g) λv n f=>bc f λu o i=>bc i λc p hZz=>?_) f;obtain⟨x,j,l,m,k⟩:=hZz;obtain⟨d,rfl,q⟩:=k;cases m;exact Hi ⟨j,l,q⟩
def Ab (h:PE X e t)(f:∀whole,isTrue e X.env whole=(do let v <-whole; standAt e.pos; holding [v] (truthy v)):=by intro _; rfl):PT X e (tB t):=by
 intro c s σ H Q I g;refine isTrue_plain (bc (h c s σ H _ I g) λv m hZz=>?_) (f _);obtain⟨x,i,l,k,j⟩:=hZz;obtain⟨d,rfl,q⟩:=j;cases k;exact Hi ⟨i,l,q⟩
variable {tA tB':TT}{rest:au}
def j8 (t u:TT):TT:=λσ H Q=>t σ H λc d=>if c=true then u σ d Q else Q false d
def rQ (t u:TT):TT:=λσ H Q=>t σ H λc d=>if c=true then Q true d else u σ d Q
def kK (t:TT):TT:=λσ H Q=>t σ H λc d=>Q (!c) d
def Dc (f:PT X a tA):PW X (.BoolOp .And [a] pos) tA:=by
 intro i d s σ H Q I h;refine isTrue_and (bc (f d s σ H Q I h) λc g e=>?_);cases c with
 | true=>exact isTrue_and_nil e
 | false=>exact e
def zW (f:PT X a tA):PW X (.BoolOp .Or [a] pos) tA:=by
 intro i d s σ H Q I h;refine isTrue_or (bc (f d s σ H Q I h) λc g e=>?_);cases c with
 | false=>exact isTrue_or_nil e
 | true=>exact e
def Gk (j:PT X a tA)(k:PW X (.BoolOp .And (b::rest) pos) tB'):PW X (.BoolOp .And (a::b::rest) pos) (j8 tA tB'):=by
 intro l d s σ H Q I h;refine isTrue_and (bc (j d s σ H _ I h) λc i hZz=>?_);obtain⟨e,g,f⟩:=hZz;cases c with
 | true=>exact k l d i σ e Q g f
 | false=>exact⟨e,g,f⟩
def DH (j:PT X a tA)(k:PW X (.BoolOp .Or (b::rest) pos) tB'):PW X (.BoolOp .Or (a::b::rest) pos) (rQ tA tB'):=by
 intro l d s σ H Q I h;refine isTrue_or (bc (j d s σ H _ I h) λc i hZz=>?_);obtain⟨e,g,f⟩:=hZz;cases c with
 | true=>exact⟨e,g,f⟩
 | false=>exact k l d i σ e Q g f
def zN (e:PT X a tA):PT X (.UnaryOp .Not a pos) (kK tA):=by
 intro d s σ H Q I h;exact isTrue_not (e d s σ H (λc f=>Q (!c) f) I h)
def gR (ta tb:TE):TE:=λσ H Q=>ta σ H λx d=>∃c,x=.bl c/\if c=true then tb σ d Q else Q (.bl false) d
def kl (ta tb:TE):TE:=λσ H Q=>ta σ H λx d=>∃c,x=.bl c/\if c=true then Q (.bl true) d else tb σ d Q
def nu (ta:TE):TE:=λσ H Q=>ta σ H λx d=>∃c,x=.bl c/\Q (.bl (!c)) d
def yS {op}(h:PE X a t):PE X (.BoolOp op [a] pos) t:=λc s σ H Q I d=>BoolOp_one (h c s σ H Q I d)
def DU (j:PE X a ta)(k:PE X (.BoolOp .And (b::rest) pos) tb):PE X (.BoolOp .And (a::b::rest) pos) (gR ta tb):=by
 intro d s σ H Q I h;refine BoolOp_and (bc (j d s σ H _ I h) λv i z=>?_);obtain⟨x,f,g,l,e⟩:=z;obtain⟨c,rfl,e⟩:=e;cases l;refine Hi ?_;cases c with
 | true=>exact k d i σ f Q g e
 | false=>exact⟨.bl false,f,g,rfl,e⟩
def zF (j:PE X a ta)(k:PE X (.BoolOp .Or (b::rest) pos) tb):PE X (.BoolOp .Or (a::b::rest) pos) (kl ta tb):=by
 intro d s σ H Q I h;refine BoolOp_or (bc (j d s σ H _ I h) λv i z=>?_);obtain⟨x,f,g,l,e⟩:=z;obtain⟨c,rfl,e⟩:=e;cases l;refine Hi ?_;cases c with
 | false=>exact k d i σ f Q g e
 | true=>exact⟨.bl true,f,g,rfl,e⟩
def Aq (i:PE X a ta):PE X (.UnaryOp .Not a pos) (nu ta):=by
 intro d s σ H Q I h;refine UnaryOp_ (bc (i d s σ H _ I h) λv k z=>?_);obtain⟨x,g,j,f,e⟩:=z;obtain⟨c,rfl,e⟩:=e;cases f;exact not_of (Hi ⟨.bl (!c),g,j,rfl,e⟩)
end
def SqL (K:bh)(H:Hp)(a:Addr)(c:av):Prop:=
 Rd H a (.lst c) \/
  ∃(o:Obj) (b:aB) (n:Nat),K.lookup a=some o/\o.cls=.type "list" /\ o.dict=none/\o.data=.seq b n/\b.size<=sizeLine/\Vals c b.toList
def SqT (K:bh)(H:Hp)(a:Addr)(c:av):Prop:=
 Rd H a (.tup c) \/
  ∃(o:Obj) (b:aB) (n:Nat),K.lookup a=some o/\o.cls=.type "tuple" /\ o.dict=none/\o.data=.seq b n/\b.size<=sizeLine/\Vals c b.toList
noncomputable def rj:Value->Option V
 | .none=>some .non
 | .bool b=>some (.bl b)
 | .int i _=>some (.int i)
 | .str x _=>some (.str x)
 | .bytes b _=>some (.byt b)
 | .float b _=>some (.flt b)
 | .ref a=>some (.ref a)
 | .type n=>some (.ty n)
 | _=>none
def RelV.abs (r:RelV x u):rj u=some x:=by
 cases x with
 | non=>cases r; rfl
 | bl _=>cases r; rfl
 | int _=>obtain⟨t,rfl⟩:=r; rfl
 | str _=>obtain⟨t,rfl⟩:=r; rfl
 | byt _=>obtain⟨t,rfl⟩:=r; rfl
 | flt _=>obtain⟨t,rfl⟩:=r; rfl
 | ref _=>cases r; rfl
 | ty _=>cases r; rfl
theorem RelV.inj (r:RelV x u)(q:RelV y u):x=y:=cm (r.abs.symm.trans q.abs)
theorem Vals.inj:∀{a c:av} {b:ao},Vals a b->Vals c b->a=c:=by
 intro a c b h;induction h generalizing c with
 | nil=>intro g; cases g; rfl
 | cons r t O=>intro g; cases g with | cons d e=>rw[r.inj d,O e]
section
variable {X:Cx}{pins:ah}{σ:St}{H:Hp}{s:Shared}{a:Addr}{xs ys:av}
def SqT.of {K:bh}(h:H a=some (.tup xs)):SqT K H a xs:=.inl (.inl h)
def Inv.list (I:Inv X pins σ H s)(h:SqL X.K H a xs):∃b:ao,Vals xs b/\PlainL s.heap a b.toArray/\xs.length<=sizeLine:=by
 rcases h with h | ⟨o,b,n,d,c,hd,hs,f,r⟩
 .obtain⟨z,b,n,r,e⟩:=h.ok I.hok;exact⟨b,r,⟨_,n,e,rfl,rfl,rfl⟩,z⟩
 .refine⟨b.toList,r,⟨o,n,I.kIn a o d,c,hd,by simpa using hs⟩,?_⟩;have e:=r.length;dsimp only[Array.length_toList] at e;omega
def Inv.tupN (I:Inv X pins σ H s)(h:SqT X.K H a xs):∃b:ao,Vals xs b/\TupN s.heap a b.toArray/\xs.length<=sizeLine:=by
 rcases h with h | ⟨o,b,n,f,d,c,hs,g,r⟩
 .obtain⟨z,b,r,p⟩:=h.ok I.hok;exact⟨b,r,p,z⟩
 .refine⟨b.toList,r,⟨o,I.kIn a o f,d,⟨n,by simpa using hs⟩,c⟩,?_⟩;have e:=r.length;dsimp only[Array.length_toList] at e;omega
def Inv.tuple (I:Inv X pins σ H s)(h:SqT X.K H a xs):∃b:ao,Vals xs b/\IsTup s.heap a b.toArray/\xs.length<=sizeLine:=
 let ⟨b,r,p,z⟩:=I.tupN h
 ⟨b,r,p.tup,z⟩
def Inv.list_inj (I:Inv X pins σ H s)(h:SqL X.K H a xs)(h':SqL X.K H a ys):xs=ys:=by
 obtain⟨its,r,⟨o,n,e,_,_,d⟩,_⟩:=I.list h;obtain⟨its',r',⟨o',n',e',_,_,d'⟩,_⟩:=I.list h';rw[e] at e'; cases e';rw[d] at d';injection d' with d1 _;have:its=its':=by simpa using congrArg Array.toList d1
 subst this;exact r.inj r'
def Inv.tuple_inj (I:Inv X pins σ H s)(h:SqT X.K H a xs)(h':SqT X.K H a ys):xs=ys:=by
 obtain⟨its,r,⟨o,e,_,n,d⟩,_⟩:=I.tuple h;obtain⟨its',r',⟨o',e',_,n',d'⟩,_⟩:=I.tuple h';rw[e] at e'; cases e';rw[d] at d';injection d' with d1 _;have:its=its':=by simpa using congrArg Array.toList d1
 subst this;exact r.inj r'
end
noncomputable abbrev Cx.wish (X:Cx)(E:Value->Shared->Prop):Cx:={ X with xe:=E }
noncomputable abbrev Cx.nox (X:Cx):Cx:=X.wish λ_ _=>False
theorem Cx.Ok.wish {X:Cx}(ok:X.Ok)(E:Value->Shared->Prop):(X.wish E).Ok:=
 ⟨ok.mod,ok.kind,ok.glob,ok.blt,ok.above,ok.inj,ok.has,ok.cab,ok.hd,ok.frames,ok.stk,ok.exf,ok.bs,ok.bsz,ok.noex,ok.exfs,ok.funs,ok.frf⟩
def Cx.Ok.unwish {X:Cx}{E:Value->Shared->Prop}(ok:(X.wish E).Ok):X.Ok:=
 ⟨ok.mod,ok.kind,ok.glob,ok.blt,ok.above,ok.inj,ok.has,ok.cab,ok.hd,ok.frames,ok.stk,ok.exf,ok.bs,ok.bsz,ok.noex,ok.exfs,ok.funs,ok.frf⟩
section
variable {X:Cx}{a:ah}{σ:St}{H:Hp}{s:Shared}{E:Value->Shared->Prop}
theorem Inv.wish (I:Inv X a σ H s)(E:Value->Shared->Prop):Inv (X.wish E) a σ H s:=⟨I.ok.wish E,I.os,I.bare,I.base,I.loc,I.cell,I.free,I.freeC,I.pin,I.hok,I.len⟩
theorem Inv.unwish (I:Inv (X.wish E) a σ H s):Inv X a σ H s:=⟨I.ok.unwish,I.os,I.bare,I.base,I.loc,I.cell,I.free,I.freeC,I.pin,I.hok,I.len⟩
theorem SP.unwish (h:SP (X.wish E) a D f s'):SP X a D f s':=by
 cases f with
 | next=>obtain⟨σ',b,I,q⟩:=h; exact⟨σ',b,I.unwish,q⟩
 | brk=>obtain⟨σ',b,I,q⟩:=h; exact⟨σ',b,I.unwish,q⟩
 | cont=>obtain⟨σ',b,I,q⟩:=h; exact⟨σ',b,I.unwish,q⟩
 | ret u=>obtain⟨v,σ',b,I,r,q⟩:=h; exact⟨v,σ',b,I.unwish,r,q⟩
theorem PE.nox (h:PE X.nox e t):PE X e t:=λa s σ H Q I b=>
 Hl (h a s σ H Q (I.wish _) b) (λ_ _ y=>by obtain⟨v,c,d,r,q⟩:=y; exact⟨v,c,d.unwish,r,q⟩) λ_ _ z=>False.elim z
theorem PT.nox (h:PT X.nox e t):PT X e t:=λa s σ H Q I b=>
 Hl (h a s σ H Q (I.wish _) b) (λ_ _ ⟨c,d,q⟩=>⟨c,d.unwish,q⟩) λ_ _ z=>False.elim z
theorem PSs.nox {st:aG}{t:TS}(h:PSs X.nox st t):PSs X st t:=λa s σ H D I b=>
 Hl (h a s σ H D (I.wish _) b) (λ_ _ q=>q.unwish) λ_ _ z=>False.elim z
end
section
variable {X:Cx}{st:Stmt}{rest:aG}{t u:TS}{e:Expr}{g:TE}{pos:Pos}
def mC:TS:=λD σ H=>D.nx σ H
def qX (t u:TS):TS:=λD σ H=>t { D with nx:=u D } σ H
def Dv:PSs X [] mC:=λ_ _ σ H _ I h=>Jp ⟨σ,H,I,h⟩
def Gh (i:PS X st t)(c:PSs X rest u):PSs X (st::rest) (qX t u):=by
 intro a s σ H D I h;refine wpAny_execs_cons (bc (i a s σ H { D with nx:=u D } I h) λf d q=>?_);cases f with
 | next=>
  obtain⟨σ',j,b,q⟩:=q;exact c a d σ' j D b q
 | ret v=>exact q
 | brk=>exact q
 | cont=>exact q
def y1 (b:PS X st t):PSs X [st] t:=by
 intro a s σ H D I h;refine wpAny_execs_cons (bc (b a s σ H D I h) λf c q=>?_);cases f with
 | next=>exact Jp q
 | ret v=>exact q
 | brk=>exact q
 | cont=>exact q
def Inv.quiet (I:Inv X a σ H s):interactive X.env=false:=by simp[interactive,I.ok.kind]
def cG (g:TE):TS:=λD σ H=>g σ H λ_ a=>D.nx σ a
def jn (b:PE X e g)(hs:swapsWith e none pos.line X.env=pure false:=by rfl):PS X (.Expr e pos) (cG g):=by
 intro a s σ H D I h;exact wpAny_Expr_any (bc (b a s σ H _ I h) λv i z=>by obtain⟨x,c,f,j,d⟩:=z; exact⟨σ,c,f,d⟩) I.quiet hs
def pH (g:TE):TS:=λD σ H=>g σ H D.rt
def sY (b:PE X e g):PS X (.Return (some e) pos) (pH g):=by
 intro a s σ H D I h;exact wpAny_Return_some (bc (b a s σ H _ I h) λv j z=>by obtain⟨x,d,f,c,i⟩:=z; exact⟨x,σ,d,f,c,i⟩)
def l0:TS:=λD _ H=>D.rt .non H
def zC:PS X (.Return none pos) l0:=λ_ _ σ H _ I h=>wpAny_Return_none ⟨.non,σ,H,I,rfl,h⟩
def kG (c:TT)(t u:TS):TS:=λD σ H=>c σ H λb a=>if b=true then t D σ a else u D σ a
def yE (p:PT X c n)(m:PSs X a t)(o:PSs X b u):PS X (.If c a b pos) (kG n t u):=by
 intro f s σ H D I h;refine wpAny_If (bc (p f s σ H _ I h) λd j hZz=>?_);obtain⟨i,l,k⟩:=hZz;cases d with
 | true=>exact m f j σ i D l k
 | false=>exact o f j σ i D l k
end
abbrev TG:=V->St->Hp->(St->Hp->Prop)->Prop
abbrev lE:=av->St->Hp->(St->Hp->Prop)->Prop
def PG (X:Cx)(target:Expr)(t:TG):Prop:=
 ∀(a:ah) (s:Shared) (σ:St) (H:Hp) (v:V) (u:Value) (Q:St->Hp->Prop),Inv X a σ H s->RelV v u->t v σ H Q ->
  wpAny (model X.prog X.w) X.A (assign target X.env u) (λ_ c=>∃σ' b,Inv X a σ' b c/\Q σ' b) X.xe s
def lU (X:Cx)(f:au)(t:lE):Prop:=
 ∀(a:ah) (s:Shared) (σ:St) (H:Hp) (d:av) (b:ao) (Q:St->Hp->Prop),Inv X a σ H s->Vals d b->t d σ H Q ->
  wpAny (model X.prog X.w) X.A (assignInOrder ((assignEach f X.env).map (·.2)) b) (λ_ e=>∃σ' c,Inv X a σ' c e/\Q σ' c) X.xe s
abbrev qL:=V->V->V->Hp->(Hp->Prop)->Prop
def qC (X:Cx)(t:qL):Prop:=
 ∀(a:ah) (s:Shared) (σ:St) (H:Hp) (o i v:V) (d c u:Value) (Q:Hp->Prop),Inv X a σ H s->RelV o d->RelV i c->RelV v u->t o i v H Q ->
  wpAny (model X.prog X.w) X.A (setItem d c u) (λ_ e=>∃b,Inv X a σ b e/\Q b) X.xe s
section
variable {X:Cx}{pos:Pos}
def dW (i:Nat):TG:=λv σ H Q=>Q (σ.set i (some v)) H
def rJ (e:X.N.Nodup)(c:X.N[i]? = some x)(f:Loc X.env.scope x)(d:X.fn x=true\/X.env.scope.names.lookup x=some .local:=by first | exact .inl rfl | exact .inr rfl | assumption):PG X (.Name x pos) (dW i):=by
 intro a s σ H v u Q I r h;exact wpAny_assign_Name (qS I e c f r (λg b=>⟨_,H,b,h⟩) d)
def nz:lE:=λa σ H Q=>a=[]/\Q σ H
def jl (t:TG)(u:lE):lE:=λb σ H Q=>∃v r,b=v::r/\t v σ H λσ' a=>u r σ' a Q
def Ff:lU X [] nz:=by
 intro a s σ H c b Q I r h;obtain⟨e,h⟩:=h;subst e;cases r;exact assignInOrder_nil ⟨σ,H,I,h⟩
def AB (k:PG X e t)(d:lU X b u)
  (hs:(assignEach (e::b) X.env).map (·.2)=assign e X.env::(assignEach b X.env).map (·.2):=by rfl):lU X (e::b) (jl t u):=by
 intro a s σ H n m Q I r h;obtain⟨v,o,j,h⟩:=h;subst j;cases r with
 | cons r c=>
  rw[hs];refine assignInOrder_cons (bc (k a s σ H _ _ _ I r h) λ_ g z=>?_);obtain⟨σ1,f,l,i⟩:=z;exact d a g σ1 f _ _ Q l c i
def mv (K:bh)(n:Nat)(t:lE):TG:=λv σ H Q=>∃a b,v=.ref a/\SqT K H a b/\b.length=n/\t b σ H Q
def Gc (y:X.calm=true)(h:lU X g t)
  (q:(assignEach g X.env).length=n:=by rfl)(f:(assignEach g X.env).findIdx? (·.1)=none:=by rfl):PG X (.Tuple g k pos) (mv X.K n t):=by
 intro c s σ H v u Q I r d;obtain⟨a,z,x,m,p,d⟩:=d;subst x;cases r;obtain⟨j,i,w,C⟩:=I.tuple m;refine assign_Tuple_tuple (I.ok.hd y) w (by simp[q,<-p,i.length]) f λl A=>?_;have B:Inv X c σ H { s with heap:=l }:=I.kept (t':=s.toks) λb o e=>A b o (dA (bS e)) e;exact h c _ σ H z _ Q B (by simpa using i) d
def g9 (b:TE)(g:TG):TS:=λD σ H=>b σ H λx a=>g x σ a D.nx
def vw (c:PE X e j)(m:PG X b g)(hs:swapsWithSole [b] e pos.line X.env=pure false:=by rfl)(d:swappedStores [b] e X.env=pure none:=by rfl)
  (k:(assignEach [b] X.env).map (·.2)=[assign b X.env]:=by rfl):PS X (.Assign [b] e pos) (g9 j g):=by
 intro a s σ H D I h;refine wpAny_Assign_stores (bc (c a s σ H _ I h) λv i hZz=>?_) hs d;obtain⟨x,f,o,n,l⟩:=hZz;rw[k];exact bc (m a i σ f x v _ o n l) λ_ p q=>q
def rC (k:X.N.Nodup)(j:X.N[i]? = some x)(l:Loc X.env.scope x)(c:PE X e n)(hs:swapsWith e (some (.Name x a)) pos.line X.env=pure false:=by rfl)(d:X.fn x=true\/X.env.scope.names.lookup x=some .local:=by first | exact .inl rfl | exact .inr rfl | assumption) :
  PS X (.Assign [.Name x a] e pos) (g9 n (dW i)):=by
 intro b s σ H D I h;refine wpAny_Assign_Name (bc (c b s σ H _ I h) λv r hZz=>?_) hs;obtain⟨y,m,o,g,p⟩:=hZz;exact qS o k j l g (λq f=>⟨_,m,f,p⟩) d
end
structure It where
 go:Nat->Hp->Prop
 yld:Nat->Hp->V->Hp->Prop
 stop:Nat->Hp->Prop
def dh (X:Cx)(a:ah)(H:Hp)(b:Addr):Prop:=
 H b=none/\b≠X.env.locals/\b∉X.fs/\(b∈X.ex\/X.s₀.heap.objs.size<=b)/\(∀x c,X.env.cells.lookup x=some c->c≠b)/\∀p∈X.pn++a,p.1≠b
def Inv.fpOk (I:Inv X a σ H s)(d:s.heap.objs.size<=b)(g:h b=none):dh X a h b:=by
 refine⟨g,HL (eD I.lt d),I.nofs d,.inr (bC I.sz d),λx c e z=>?_,λp f z=>?_⟩
 .obtain⟨v,q⟩:=I.cell x c e;exact absurd (eD q.lt (by rw[z]; exact d)) (Hx _)
 .exact absurd (eD (bS (I.pin p f).1) (by rw[z]; exact d)) (Hx _)
structure Turn (P:Program)(w:World)(K:bh)(tg:Expr)(J:It)(fp:al)(it:Addr)(tn:Nat->Heap->Prop):Prop where
 mem:it∈fp
 obj:∀i h,tn i h->∀b∈fp,∃o,h.get? b=some o/\∀v,o.data≠.cell v
 keep:∀i h h',tn i h->(∀b∈fp,∀o,h.get? b=some o->h'.get? b=some o)->tn i h'
 item:∀(X:Cx),X.prog=P->X.w=w->X.K=K->X.calm=true->∀(i:Nat) (pins:ah) (s:Shared) (σ:St) (H:Hp) (E:Value->Shared->Prop),Inv X pins σ H s->(∀b∈fp,dh X pins H b)->tn i s.heap->J.go i H ->
  wpAny (model P w) X.A (pyNext (.ref it)) (λr s1=>∃u,r=some u /\
   wpAny (model P w) X.A (letOwnedTupleGo tg (.ref it) u) (λ_ s2=>∃x H',Inv X pins σ H' s2/\RelV x u/\J.yld i H x H'/\tn (i+1) s2.heap/\∀b∈fp,H' b=none) E s1) E s
 done:∀(X:Cx),X.prog=P->X.w=w->X.K=K->X.calm=true->∀(i:Nat) (pins:ah) (s:Shared) (σ:St) (H:Hp) (E:Value->Shared->Prop),Inv X pins σ H s->(∀b∈fp,dh X pins H b)->tn i s.heap->J.stop i H ->
  wpAny (model P w) X.A (pyNext (.ref it)) (λr s1=>r=none/\Inv X pins σ H s1) E s
 self:∀(A:Around) (i:Nat) (s:Shared) (Q:Value->Shared->Prop) (E:Value->Shared->Prop),tn i s.heap->Q (.ref it) s->wpAny (model P w) A (pyIter (.ref it)) Q E s
abbrev TI:=St->Hp->(It->Hp->Prop)->Prop
def vn (X:Cx)(a:ah)(σ:St)(i:Expr)(R:It->Hp->Prop)(c:Value)(e:Shared):Prop:=
 ∃(g:Addr) (h:al) (f:Nat->Heap->Prop) (J:It) (d:Hp),c=.ref g/\Inv X a σ d e/\Turn X.prog X.w X.K i J h g f/\f 0 e.heap/\(∀b∈h,dh X a d b)/\R J d
def PI (X:Cx)(b iter:Expr)(d:TI):Prop:=
 ∀(a:ah) (s:Shared) (σ:St) (H:Hp) (R:It->Hp->Prop),Inv X a σ H s->d σ H R ->
  wpAny (model X.prog X.w) X.A (eval iter X.env) (λv c=>wpAny (model X.prog X.w) X.A (pyIter v) (vn X a σ b R) X.xe c) X.xe s
def rz (g:s.heap.get? d=some o)(b:o.cls=.type n)(hd:o.data=.fields c)
    (e:["enumerate", "zip", "dict_itemiterator", "dict_reverseitemiterator", "odict_iterator", "itertools.zip_longest", "itertools.pairwise"].contains n=false)(a:Q () s):wpAny M A (letOwnedTupleGo f (.ref d) u) Q E s:=by
  unfold letOwnedTupleGo;cases f <;> first
    | exact ba a
    | (cases u <;> first
        | exact ba a
        | (refine aL (wpAny_load g ?_)
           rw[b,hd];show wpAny M A (if (["enumerate", "zip", "dict_itemiterator", "dict_reverseitemiterator", "odict_iterator", "itertools.zip_longest", "itertools.pairwise"].contains n&&c[0]? == some (rawInt _))=true then _ else _) Q E s;rw[if_neg (by intro h; rw[e,Bool.false_and] at h; cases h)];exact ba a))
noncomputable def qO (K:bh)(a:Addr):It:=
 ⟨λi H=>∃b x,SqL K H a b/\b[i]? = some x,λi H x c=>c=H/\∀b,SqL K H a b->b[i]? = some x,λi H=>∃b,SqL K H a b/\b.length<=i⟩
noncomputable def pO (K:bh)(a:Addr):It:=
 ⟨λi H=>∃b x,SqT K H a b/\b[i]? = some x,λi H x c=>c=H/\∀b,SqT K H a b->b[i]? = some x,λi H=>∃b,SqT K H a b/\b.length<=i⟩
noncomputable def mE (lo:Int)(n:Nat):It:=⟨λi _=>i<n,λi H x a=>a=H/\x=.int (lo+i),λi _=>n<=i⟩
def zo {P:Program}{w:World}{K:bh}{tg:Expr}(a it:Addr):Turn P w K tg (qO K a) [it] it (λi h=>h.IsListIter it a i) where
 mem:=by simp
 obj:=λi h st b hb=>by
  have e:b=it:=by simpa using hb
  subst e;obtain⟨o,e,c,d⟩:=st;exact⟨o,e,λv z=>by rw[d] at z; cases z⟩
 keep:=λi h h' st k=>st.at λo e=>k it (by simp) o e
 item:=by
  intro X hP hw hK hc i pins s σ H E I hf st hg;subst hP hw hK;obtain⟨xs,x,hq,hx⟩:=hg;obtain⟨its,rv,p,hz⟩:=I.list hq;obtain⟨u,hu,ru⟩:=rv.get hx;obtain⟨f0,f1,f2,f3,f4,f5⟩:=hf it (by simp);refine wpAny_pyNext_list_item st p.isList (x:=u) (by simpa using hu) λh' st' sb=>?_;have I1:Inv X pins σ H { s with heap:=h' }:=I.turned (t':=s.toks) (λb o hb e=>(sb.2 b hb).trans e) f0 f1 f3 f4 f5;obtain⟨o,e,c,d⟩:=id st';exact⟨u,rfl,rz (s:={ s with heap:=h' }) e c d (by decide) ⟨x,H,I1,ru,⟨rfl,λys hy=>by rw[I.list_inj hy hq]; exact hx⟩,st',λb hb=>(hf b hb).1⟩⟩
 done:=by
  intro X hP hw hK hc i pins s σ H E I hf st hg;subst hP hw hK;obtain⟨xs,hq,hx⟩:=hg;obtain⟨its,rv,p,hz⟩:=I.list hq;obtain⟨f0,f1,f2,f3,f4,f5⟩:=hf it (by simp);have hl:=rv.length;exact wpAny_pyNext_list_end (I.ok.hd hc) st p.isList (by simp; omega) λh' eb=>⟨rfl,I.turned (t':=s.toks) (λb o hb e=>eb b o hb e) f0 f1 f3 f4 f5⟩
 self:=λ_ _ _ _ _ st h=>wpAny_pyIter_listiter st h
def zh {P:Program}{w:World}{K:bh}{tg:Expr}(a it:Addr):Turn P w K tg (pO K a) [it] it (λi h=>h.IsTupleIter it a i) where
 mem:=by simp
 obj:=λi h st b hb=>by
  have e:b=it:=by simpa using hb
  subst e;obtain⟨o,e,c,d⟩:=st;exact⟨o,e,λv z=>by rw[d] at z; cases z⟩
 keep:=λi h h' st k=>st.at λo e=>k it (by simp) o e
 item:=by
  intro X hP hw hK hc i pins s σ H E I hf st hg;subst hP hw hK;obtain⟨xs,x,hq,hx⟩:=hg;obtain⟨its,rv,p,hz⟩:=I.tuple hq;obtain⟨u,hu,ru⟩:=rv.get hx;obtain⟨f0,f1,f2,f3,f4,f5⟩:=hf it (by simp);refine wpAny_pyNext_tuple_item st (show s.heap.IsTuple a its.toArray from p) (x:=u) (by simpa using hu) λh' st' sb=>?_;have I1:Inv X pins σ H { s with heap:=h' }:=I.turned (t':=s.toks) (λb o hb e=>(sb.2 b hb).trans e) f0 f1 f3 f4 f5;obtain⟨o,e,c,d⟩:=id st';exact⟨u,rfl,rz (s:={ s with heap:=h' }) e c d (by decide) ⟨x,H,I1,ru,⟨rfl,λys hy=>by rw[I.tuple_inj hy hq]; exact hx⟩,st',λb hb=>(hf b hb).1⟩⟩
 done:=by
  intro X hP hw hK hc i pins s σ H E I hf st hg;subst hP hw hK;obtain⟨xs,hq,hx⟩:=hg;obtain⟨its,rv,p,hz⟩:=I.tuple hq;obtain⟨f0,f1,f2,f3,f4,f5⟩:=hf it (by simp);have hl:=rv.length;exact wpAny_pyNext_tuple_end (I.ok.hd hc) st (show s.heap.IsTuple a its.toArray from p) (by simp; omega) λh' eb=>⟨rfl,I.turned (t':=s.toks) (λb o hb e=>eb b o hb e) f0 f1 f3 f4 f5⟩
 self:=λ_ _ _ _ _ st h=>wpAny_pyIter_tupleiter st h
def Dp {P:Program}{w:World}{K:bh}{tg:Expr}(it:Addr)(lo:Int)(n:Nat):Turn P w K tg (mE lo n) [it] it (λi h=>IsRangeIter h it (lo+(i:Nat) * 1) ((n:Int) - (i:Nat)) 1) where
 mem:=by simp
 obj:=λi h st b hb=>by
  have e:b=it:=by simpa using hb
  subst e;exact⟨_,st,λv z=>by
   have z':Data.fields _=Data.cell v:=z;cases z'⟩
 keep:=λi h h' st k=>k it (by simp) _ st
 item:=by
  intro X hP hw hK hc i pins s σ H E I hf st hg;subst hP hw hK;obtain⟨f0,f1,f2,f3,f4,f5⟩:=hf it (by simp);have W:=Walks.range (prog:=X.prog) (w:=X.w) (I.ok.hd hc) it lo 1 n;refine W.item i s _ _ hg st λv h' tk hv st' kk=>?_;obtain⟨t,rfl⟩:=hv;have I1:Inv X pins σ H { s with heap:=h',toks:=tk }:=I.turned (λb o hb e=>kk b o (by simpa using hb) e) f0 f1 f3 f4 f5;refine⟨_,rfl,rz (s:={ s with heap:=h',toks:=tk }) (n := "range_iterator") st' rfl rfl (by decide) ⟨.int (lo+i),H,I1,⟨t,?_⟩,⟨rfl,rfl⟩,st',λb hb=>(hf b hb).1⟩⟩;rw[Int.mul_one]
 done:=by
  intro X hP hw hK hc i pins s σ H E I hf st hg;subst hP hw hK;obtain⟨f0,f1,f2,f3,f4,f5⟩:=hf it (by simp);exact wpAny_pyNext_range_end (I.ok.hd hc) st (by have:n<=i:=hg; omega) λh' eb=>⟨rfl,I.turned (t':=s.toks) (λb o hb e=>eb b o hb e) f0 f1 f3 f4 f5⟩
 self:=λ_ _ _ _ _ st h=>wpAny_pyIter_rangeiter st h
section
variable {X:Cx}{c:Expr}
def mT (K:bh)(e:TE):TI:=λσ H R=>e σ H λx b=>∃a,x=.ref a/\(∃d,SqL K b a d)/\R (qO K a) b
def rF (K:bh)(e:TE):TI:=λσ H R=>e σ H λx b=>∃a,x=.ref a/\(∃d,SqT K b a d)/\R (pO K a) b
def wh {l:Expr}{i:TE}(r:PE X l i):PI X c l (mT X.K i):=by
 intro d s σ H R I h;refine bc (r d s σ H _ I h) λv f Z=>?_;obtain⟨x,t,g,m,u⟩:=Z;obtain⟨a,e,⟨w,n⟩,q⟩:=u;subst e;cases m;obtain⟨j,y,p,z⟩:=g.list n;refine IV p.isList ?_;refine⟨f.heap.objs.size,[f.heap.objs.size],_,_,t,rfl,g.kept (t':=f.toks) λb o e=>cb _ e,zo a _,⟨_,dH _ rfl,rfl,rfl⟩,λb k=>?_,q⟩;have e:b=f.heap.objs.size:=by simpa using k
 subst e;exact g.fpOk (bA _) (g.hok.fresh (bA _))
def yX {l:Expr}{j:TE}(r:PE X l j):PI X c l (rF X.K j):=by
 intro d s σ H R I h;refine bc (r d s σ H _ I h) λv f Z=>?_;obtain⟨x,t,g,m,u⟩:=Z;obtain⟨a,e,⟨w,n⟩,q⟩:=u;subst e;cases m;obtain⟨i,y,p,z⟩:=g.tuple n;refine Jv (show f.heap.IsTuple a i.toArray from p) ?_;refine⟨f.heap.objs.size,[f.heap.objs.size],_,_,t,rfl,g.kept (t':=f.toks) λb o e=>cb _ e,zh a _,⟨_,dH _ rfl,rfl,rfl⟩,λb k=>?_,q⟩;have e:b=f.heap.objs.size:=by simpa using k
 subst e;exact g.fpOk (bA _) (g.hok.fresh (bA _))
def uM {d:ah}{σ:St}{H:Hp}{s:Shared}{R:It->Hp->Prop}{E:Value->Shared->Prop}{lo a:Int}{t u v:Tok}{g:Nat}(I:Inv X d σ H s)(n : -(2 ^ 62)<=lo)(m:lo<2 ^ 62)(k : -(2 ^ 62)<=a)(j:a<2 ^ 62)
  (q:R (mE lo (a - lo).toNat) H):wpAny (model X.prog X.w) X.A (pyIter (.ref s.heap.objs.size)) (vn X d σ c R) E { s with heap:=s.heap.push { cls:=.type "range",data:=.fields #[.int lo t,.int a u,.int 1 v] },toks:=g }:=by
 refine wpAny_pyIter_range (IsRange.new ..) (small_one n m k j) ?_;have f:Inv X d σ H { s with heap:=s.heap.push { cls:=.type "range",data:=.fields #[.int lo t,.int a u,.int 1 v] },toks:=g }:=I.kept λb o e=>cb _ e;refine⟨(s.heap.push { cls:=.type "range",data:=.fields #[.int lo t,.int a u,.int 1 v] }).objs.size,[(s.heap.push { cls:=.type "range",data:=.fields #[.int lo t,.int a u,.int 1 v] }).objs.size],_,_,H,rfl,
  f.kept (t':=g) λb o e=>cb _ e,Dp _ lo (a - lo).toNat,?_,λb i=>?_,q⟩
 .have h:lo+((0:Nat):Int) * 1=lo:=by simp
  have l:(((a - lo).toNat:Nat):Int) - ((0:Nat):Int)=Builtin.Range.rangeSize lo a 1:=by rw[rangeSize_one]; split <;> omega
  show IsRangeIter _ _ (lo+((0:Nat):Int) * 1) ((((a - lo).toNat:Nat):Int) - ((0:Nat):Int)) 1;rw[h,l];exact dH _ rfl
 .have e:b=(s.heap.push { cls:=.type "range",data:=.fields #[.int lo t,.int a u,.int 1 v] }).objs.size:=by simpa using i
  subst e;exact f.fpOk (bA _) (f.hok.fresh (bA _))
def ng (d:TA):TI:=λσ H R=>d σ H λb a=>∃j:Int,b=[.int j] /\ -(2 ^ 62)<=j/\j<2 ^ 62/\R (mE 0 j.toNat) a
def lV (d:TA):TI:=λσ H R=>d σ H λb a=>∃i j:Int,b=[.int i,.int j]/\(-(2 ^ 62)<=i/\i<2 ^ 62 /\ -(2 ^ 62)<=j/\j<2 ^ 62)/\R (mE i (j - i).toNat) a
def yB {a:Expr}{f:TA}{p pos:Pos}(k:Gl X "range")(n:X.mg "range" = none)(i:PA X [a] f)(hs:starEach [a] X.env=[(false,eval a X.env)]:=by rfl):PI X c (.Call (.Name "range" p) [a] [] pos) (ng f):=by
 intro b s σ H R I h;refine Call_ (iD I k n boot_range (Ho (bc (i pos b s σ H _ I h) λu w hZz=>?_) hs rfl));obtain⟨x,v,o,m,d⟩:=hZz;obtain⟨j,e,d,l,q⟩:=d;subst e;cases m with
 | cons r g=>
  cases g;obtain⟨t,rfl⟩:=r;exact call_range_1 (uM o (by omega) (by omega) d l (by simpa using q))
def yN (v:Gl X "range")(y:X.mg "range" = none)(o:PA X [a,b] n)(hs:starEach [a,b] X.env=[(false,eval a X.env),(false,eval b X.env)]:=by rfl)(d:starEach [b] X.env=[(false,eval b X.env)]:=by rfl) :
  PI X c (.Call (.Name "range" p) [a,b] [] pos) (lV n):=by
 intro f s σ H R I h;refine Call_ (iD I v y boot_range (Ho (bc (o pos f s σ H _ I h) λB E hZz=>?_) (by rw[hs,d]) (by rw[d]; rfl)));obtain⟨F,C,z,x,k⟩:=hZz;obtain⟨i,j,e,⟨k,w,m,u⟩,q⟩:=k;subst e;cases x with
 | cons r g=>
  cases g with
  | cons l g=>
   cases g;obtain⟨t,rfl⟩:=r;obtain⟨A,rfl⟩:=l;exact call_range_2 (uM z k w m u q)
def kM (h:TI)(g:TG)(e:TS):TS:=λD σ H=>h σ H λJ d=>∃W:Nat->Nat->St->Hp->Prop,(∃m,W 0 m σ d)/\∀i m σ H,W i m σ H ->
 (J.stop i H/\D.nx σ H)\/(J.go i H/\∃N:St->Hp->Prop,(∀σ' a,N σ' a->∃b,b<m/\W (i+1) b σ' a)/\∀x a,J.yld i H x a->g x σ a λσ2 f=>e { D with nx:=N,ct:=N,bk:=D.nx } σ2 f)
noncomputable def du (fp:al)(h:Heap):ah:=fp.filterMap λb=>(h.get? b).map λo=>(b,o)
def lc (a:b∈fp)(e:h.get? b=some o):(b,o)∈du fp h:=Ik.mpr ⟨b,a,by rw[e]; rfl⟩
def zc (f:p∈du g h):p.1∈g/\h.get? p.1=some p.2:=by
 obtain⟨b,a,e⟩:=Ik.mp f;cases q:h.get? b with
 | none=>rw[q] at e; cases e
 | some o=>
  rw[q] at e;have d:(b,o)=p:=cm e;subst d;exact⟨a,q⟩
def Inv.pinned (I:Inv X a σ H s)(j:∀b∈fp,dh X a H b)(k:∀b∈fp,∃o,s.heap.get? b=some o/\∀v,o.data≠.cell v):Inv X (a++du fp s.heap) σ H s:=
 I.pins_of λp i=>(dL i).elim (λz=>I.pin p (cx _ z)) λz=>by
  obtain⟨f,e⟩:=zc z;obtain⟨h,f1,f2,_⟩:=j p.1 f;obtain⟨o,g,d⟩:=k p.1 f;rw[e] at g; cases g;exact⟨e,h,f1,f2,d⟩
def Inv.unpinned (I:Inv X (a++d) σ H s):Inv X a σ H s:=I.pins_of λp b=>I.pin p (cx _ (ev _ b))
def Am (hp:PassesOwn (model X.prog X.w) X.A X.env X.xe)(hc:X.calm=true)(hi:PI X c iter wi)(hg:PG X c g)(hb:PSs X body tb)
  (hs:∀x,foldedSetIterable iter X.env x=pure x:=by intro _; rfl):PS X (.For c iter body [] pos) (kM wi g tb):=by
 intro pins s σ H D I h;refine wpAny_For (bc (hi pins s σ H _ I h) λv s1 h1=>bc h1 λitv s2 h2=>?_) hs;obtain⟨it,fp,tn,J,H2,e,I2,T,st2,f2,W,⟨m0,w0⟩,turn⟩:=h2;subst e;have stat:∀{H':Hp},(∀b∈fp,H' b=none)->∀b∈fp,dh X pins H' b:=λhn b hb=>⟨hn b hb,(f2 b hb).2⟩
 refine codeAny_forLoop_any (λn s'=>∃i σ' H',Inv X pins σ' H' s'/\tn i s'.heap/\(∀b∈fp,H' b=none)/\W i n σ' H') ?_ m0 ⟨0,σ,H2,I2,st2,λb hb=>(f2 b hb).1,w0⟩;rintro n s3 ⟨i,σ3,H3,I3,st3,fr3,w3⟩;rcases turn i n σ3 H3 w3 with ⟨stop,qn⟩ | ⟨go,N,hN,step⟩
 .refine IQ hp (bc (T.done X rfl rfl rfl hc i pins s3 σ3 H3 X.xe I3 (stat fr3) st3 stop) λr s4 hZz=>?_);obtain⟨hr,I4⟩:=hZz;subst hr;exact Jp ⟨σ3,H3,I4,qn⟩
 .refine IQ hp (bc (T.item X rfl rfl rfl hc i pins s3 σ3 H3 X.xe I3 (stat fr3) st3 go) λr s4 hZz=>?_);obtain⟨u,hr,h4⟩:=hZz;subst hr;refine IQ hp (bc h4 λ_ s5 z=>?_);obtain⟨x,H5,I5,r5,y5,st5,fr5⟩:=z;have I5':=I5.pinned (stat fr5) (T.obj _ _ st5);refine IQ hp (bc (hg _ s5 σ3 H5 x u _ I5' r5 (step x H5 y5)) λ_ s6 y=>?_);obtain⟨σ6,H6,I6,q6⟩:=y;refine IQ hp (bc (hb _ s6 σ6 H6 _ I6 q6) λf s7 q7=>?_);have again:∀{σ7:St} {H7:Hp},Inv X (pins++du fp s5.heap) σ7 H7 s7->N σ7 H7->∃m,m<n/\∃i σ' H',Inv X pins σ' H' s7/\tn i s7.heap/\(∀b∈fp,H' b=none)/\W i m σ' H':=λ{σ7 H7} I7 n7=>by
   obtain⟨m',hm,w7⟩:=hN σ7 H7 n7;refine⟨m',hm,i+1,σ7,H7,I7.unpinned,T.keep _ _ _ st5 λb hb o e=>(I7.pin (b,o) (cx _ (cx _ (lc hb e)))).1,λb hb=>?_,w7⟩;obtain⟨o,e,d⟩:=T.obj _ _ st5 b hb;exact (I7.pin (b,o) (cx _ (cx _ (lc hb e)))).2.1
  cases f with
  | next=>obtain⟨σ7,H7,I7,n7⟩:=q7; exact again I7 n7
  | cont=>obtain⟨σ7,H7,I7,n7⟩:=q7; exact again I7 n7
  | brk=>obtain⟨σ7,H7,I7,q7⟩:=q7; exact⟨σ7,H7,I7.unpinned,q7⟩
  | ret v=>obtain⟨x7,σ7,H7,I7,r7,q7⟩:=q7; exact⟨x7,σ7,H7,I7.unpinned,r7,q7⟩
end
abbrev R2:=V->V->Hp->VK->Prop
def OpR (X:Cx)(f:Value->Value->Sem Value)(r:R2):Prop:=
 ∀(a:ah) (s:Shared) (σ:St) (H:Hp) (x y:V) (v u:Value) (Q:VK),Inv X a σ H s->RelV x v->RelV y u->r x y H Q ->
  wpAny (model X.prog X.w) X.A (f v u) (EP X a σ Q) X.xe s
def sy (X:Cx)(f:Value->Sem Value)(r:V->Hp->VK->Prop):Prop:=
 ∀(a:ah) (s:Shared) (σ:St) (H:Hp) (x:V) (v:Value) (Q:VK),Inv X a σ H s->RelV x v->r x H Q ->
  wpAny (model X.prog X.w) X.A (f v) (EP X a σ Q) X.xe s
def CallR (X:Cx)(f:Value)(r:av->Hp->VK->Prop):Prop:=
 ∀(a:ah) (s:Shared) (σ:St) (H:Hp) (b:av) (c:ao) (Q:VK),Inv X a σ H s->Vals b c->r b H Q ->
  wpAny (model X.prog X.w) X.A (call f c) (EP X a σ Q) X.xe s
def jg (r:R2)(d b:TE):TE:=λσ H Q=>d σ H λx a=>b σ a λy c=>r x y c Q
def sF (r:V->Hp->VK->Prop)(b:TE):TE:=λσ H Q=>b σ H λx a=>r x a Q
def rI (C:Int->Int->Prop)(g:Int->Int->V):R2:=λx y H Q=>∃i j,x=.int i/\y=.int j/\C i j/\Q (g i j) H
def i7 (g:Int->Int->V):R2:=λx y H Q=>∃i j,x=.int i/\y=.int j/\Q (g i j) H
def rU (g:Int->V):V->Hp->VK->Prop:=λx H Q=>∃i,x=.int i/\Q (g i) H
section
variable {X:Cx}{a b c:Expr}{d e l:TE}{pos:Pos}
def jO (C:PE X a d)(p:PE X b e){g:ah}{s:Shared}{σ:St}{H:Hp}{R:V->V->Hp->Prop}(I:Inv X g σ H s)
  (h:d σ H λx n=>e σ n λy i=>R x y i){Q:Value->Shared->Prop}{f:Value->Value->Sem Value}
  (o:∀v u m x y i,Inv X g σ i m->RelV x v->RelV y u->R x y i->wpAny (model X.prog X.w) X.A (f v u) Q X.xe m) :
  wpAny (model X.prog X.w) X.A (eval a X.env) (λv j=>wpAny (model X.prog X.w) X.A (eval b X.env) (λu k=>wpAny (model X.prog X.w) X.A (f v u) Q X.xe k) X.xe j) X.xe s:=by
 refine bc (C g s σ H _ I h) λv z l=>?_;obtain⟨x,n,E,t,F⟩:=l;refine bc (p g z σ n _ E F) λu m c=>?_;obtain⟨y,i,q,B,r⟩:=c;exact o v u m x y i q t B r
def lh {op:Operator}{r:R2}(k:OpR X (binaryOp op) r)(n:PE X a d)(p:PE X b e):PE X (.BinOp a op b pos) (jg r d e):=by
 intro f s σ H Q I h;exact wpAny_BinOp (jO n p I h λv u o x y m i j g q=>k f o σ m x y v u Q i j g q)
def ud (g:sy X (unaryOp op) r)(k:PE X a d):PE X (.UnaryOp op a pos) (sF r d):=by
 intro f s σ H Q I h;exact UnaryOp_ (bc (k f s σ H _ I h) λv j z=>by obtain⟨x,i,o,n,m⟩:=z; exact g f j σ i x v Q o n m)
def oF {f:Value->Value->Sem Value}{C:Int->Int->Prop}{g:Int->Int->Int}
  (rule:∀(i j:Int) (t u:Tok) (s:Shared) (Q:Value->Shared->Prop) (E:Value->Shared->Prop),C i j->Q (.int (g i j) s.toks) { s with toks:=s.toks+1 }->wpAny (model X.prog X.w) X.A (f (.int i t) (.int j u)) Q E s) :
  OpR X f (rI C λi j=>.int (g i j)):=by
 intro k s σ H x y v u Q I o m h;obtain⟨i,j,rfl,rfl,p,q⟩:=h;obtain⟨t,rfl⟩:=o;obtain⟨n,rfl⟩:=m;exact rule i j t n s _ _ p ⟨.int (g i j),H,I.tok _,⟨_,rfl⟩,q⟩
def nc {f:Value->Value->Sem Value}{g:Int->Int->Int}
  (rule:∀(i j:Int) (t u:Tok) (s:Shared) (Q:Value->Shared->Prop) (E:Value->Shared->Prop),Q (.int (g i j) s.toks) { s with toks:=s.toks+1 }->wpAny (model X.prog X.w) X.A (f (.int i t) (.int j u)) Q E s) :
  OpR X f (i7 λi j=>.int (g i j)):=by
 intro k s σ H x y v u Q I o m h;obtain⟨i,j,rfl,rfl,q⟩:=h;obtain⟨t,rfl⟩:=o;obtain⟨n,rfl⟩:=m;exact rule i j t n s _ _ ⟨.int (g i j),H,I.tok _,⟨_,rfl⟩,q⟩
def iZ {f:Value->Value->Sem Value}{g:Int->Int->Bool}
  (rule:∀(i j:Int) (t u:Tok) (s:Shared) (Q:Value->Shared->Prop) (E:Value->Shared->Prop),Q (.bool (g i j)) s->wpAny (model X.prog X.w) X.A (f (.int i t) (.int j u)) Q E s) :
  OpR X f (i7 λi j=>.bl (g i j)):=by
 intro k s σ H x y v u Q I o m h;obtain⟨i,j,rfl,rfl,q⟩:=h;obtain⟨t,rfl⟩:=o;obtain⟨n,rfl⟩:=m;exact rule i j t n s _ _ ⟨.bl (g i j),H,I,rfl,q⟩
def so (i j:Int):Prop:=0<=j/\j<=1000000/\i.natAbs<2 ^ 64
def CMul (i j:Int):Prop:=(-(2 ^ 64)<i/\i<2 ^ 64)\/(-(2 ^ 64)<j/\j<2 ^ 64)
def CMul.ok (h:CMul i j):IntMulOk i j:=by
 rcases h with ⟨g,f⟩ | ⟨g,f⟩
 .exact .of_left (intBits_le_64 g f)
 .exact .of_right (intBits_le_64 g f)
def DK:OpR X (binaryOp .Add) (i7 λi j=>.int (i+j)):=nc λ_ _ _ _ _ _ _ q=>add_int q
def Bw:OpR X (binaryOp .Sub) (i7 λi j=>.int (i - j)):=nc λ_ _ _ _ _ _ _ q=>sub_int q
def xx:OpR X (binaryOp .Mult) (rI CMul λi j=>.int (i * j)):=oF λ_ _ _ _ _ _ _ f q=>mul_int q f.ok
def E9:OpR X (binaryOp .Mod) (rI (λ_ j=>0<j) λi j=>.int (i % j)):=oF λi j _ _ _ _ _ f q=>by
 have g:(0:Int)<j:=f;exact mod_int' (by omega) (by rw[Int.fmod_eq_emod_of_nonneg i (by omega)]; exact q)
def Bv:OpR X (binaryOp .Pow) (rI so λi j=>.int (i ^ j.toNat)):=oF λ_ _ _ _ _ _ _ f q=>pow_int_small f.1 f.2.1 f.2.2 q
def FS {f:Value->Sem Value}{g:Int->Int}
  (rule:∀(i:Int) (t:Tok) (s:Shared) (Q:Value->Shared->Prop) (E:Value->Shared->Prop),Q (.int (g i) s.toks) { s with toks:=s.toks+1 }->wpAny (model X.prog X.w) X.A (f (.int i t)) Q E s) :
  sy X f (rU λi=>.int (g i)):=by
 intro j s σ H x v Q I k h;obtain⟨i,rfl,q⟩:=h;obtain⟨t,rfl⟩:=k;exact rule i t s _ _ ⟨.int (g i),H,I.tok _,⟨_,rfl⟩,q⟩
def uV:sy X (unaryOp .USub) (rU λi=>.int (-i)):=FS λ_ _ _ _ _ q=>neg_int q
end
noncomputable def scal:V->V->Bool
 | .non,.non=>true | .non,.int _=>true | .int _,.non=>true | .non,.bl _=>true | .bl _,.non=>true | .non,.str _=>true | .str _,.non=>true
 | .int _,.int _=>true | .bl _,.bl _=>true | .str _,.str _=>true | .byt _,.byt _=>true
 | .int _,.str _=>true | .str _,.int _=>true | .bl _,.str _=>true | .str _,.bl _=>true
 | _,_=>false
section
variable {X:Cx}{a b c:Expr}{g l A:TE}{pos:Pos}
def ym:OpR X (compareOp .Lt) (i7 λi j=>.bl (decide (i<j))):=iZ λ_ _ _ _ _ _ _ q=>lt_int q
def yD:OpR X (compareOp .LtE) (i7 λi j=>.bl (decide (i<=j))):=iZ λ_ _ _ _ _ _ _ q=>le_int q
def Ep:OpR X (compareOp .Gt) (i7 λi j=>.bl (decide (j<i))):=iZ λ_ _ _ _ _ _ _ q=>gt_int q
def Aj:OpR X (compareOp .GtE) (i7 λi j=>.bl (decide (j<=i))):=iZ λ_ _ _ _ _ _ _ q=>ge_int q
def OpR.or (h:OpR X f r)(k:OpR X f j):OpR X f (λx y H Q=>r x y H Q\/j x y H Q):=by
 intro d s σ H x y v u Q I i e q;rcases q with q | q
 .exact h d s σ H x y v u Q I i e q
 .exact k d s σ H x y v u Q I i e q
def kR (b:Expr)(h:op≠.In:=by decide)(f:op≠.NotIn:=by decide):behindInMarks op b=false:=by
 have d:(op == CmpOp.In)=false:=by cases op <;> first | rfl | exact absurd rfl h
 have e:(op == CmpOp.NotIn)=false:=by cases op <;> first | rfl | exact absurd rfl f
 cases b <;> simp[behindInMarks,d,e]
def ED {op:CmpOp}{r:R2}(p:OpR X (compareOp op) r)(k:PE X a g)(n:PE X b l)(o:behindInMarks op b=false):PE X (.Compare a [op] [b] pos) (jg r g l):=by
 intro d s σ H Q I h;exact wpAny_Compare1 (jO k n I h λv u m x y j f i e q=>p d m σ j x y v u Q f i e q) o
def i5 (t:TE):TT:=λσ H Q=>t σ H λx d=>∃k,x=.bl k/\Q k d
def CI (M:OpR X (compareOp op) r)(q:PE X a g)(C:PE X b l)(J:behindInMarks op b=false):PT X (.Compare a [op] [b] pos) (i5 (jg r g l)):=by
 intro d s σ H Q I h;refine wpAny_isTrue_Compare1 (bc (q d s σ H _ I h) λv p ⟨x,m,B,F,t⟩=>bc (C d p σ m _ B t) λu w ⟨y,o,j,n,E⟩=>
  bc (M d w σ o x y v u _ j F n E) λc N ⟨z,f,G,L,k,e,i⟩=>?_) J
 subst e;cases L;exact Hi ⟨f,G,i⟩
def eZ (r e:R2)(g l A:TE):TE:=λσ H Q=>g σ H λx h=>l σ h λy j=>r x y j λz d=>∃k,z=.bl k /\
 (if k=true then A σ d λf i=>e y f i Q else Q (.bl false) d)
def E8 (ho:OpR X (compareOp op) r)(ho':OpR X (compareOp op') r')(ha:PE X a g)(hb:PE X b l)(hc:PE X c A)
  (hm:lastMarks [op,op'] [b,c]=false:=by with_unfolding_all rfl):PE X (.Compare a [op,op'] [b,c] pos) (eZ r r' g l A):=by
 intro f s σ H Q I h;refine Compare_chain (bc (ha f s σ H _ I h) λv B ⟨x,w,N,r1,E⟩=>chain_link (bc (hb f B σ w _ N E) λu s2 ⟨y,W,U,q,J⟩=>
  bc (ho f s2 σ W x y v u _ U r1 q J) λd s3 ⟨z,n,o,r3,k,e,p⟩=>?_)) hm
 subst e;cases r3;refine Hi ?_;cases k with
 | false=>exact ite_ff ⟨.bl false,n,o,rfl,p⟩
 | true=>exact ite_tt (chain_last (bc (hc f s3 σ n _ o p) λZ t T=>by obtain⟨M,L,I4,F,Y⟩:=T; exact ho' f t σ L y M u Z Q I4 q F Y))
def Bu (ho:OpR X (compareOp op) r)(ho':OpR X (compareOp op') r')(ha:PE X a g)(hb:PE X b l)(hc:PE X c A)
  (hm:lastMarks [op,op'] [b,c]=false:=by with_unfolding_all rfl):PT X (.Compare a [op,op'] [b,c] pos) (i5 (eZ r r' g l A)):=by
 intro f s σ H Q I h;refine isTrue_chain (bc (ha f s σ H _ I h) λv B ⟨x,w,U,r1,E⟩=>test_link (bc (hb f B σ w _ U E) λu s2 ⟨y,H2,Z,q,L⟩=>
  bc (ho f s2 σ H2 x y v u _ Z r1 q L) λd s3 ⟨z,n,o,r3,k,e,p⟩=>?_)) hm
 subst e;cases r3;refine Hi ?_;cases k with
 | false=>
  obtain⟨k',e',M⟩:=p;cases e';exact ite_ff ⟨n,o,M⟩
 | true=>
  refine ite_tt (test_last (bc (hc f s3 σ n _ o p) λw' t ⟨T,P,I4,F,q4⟩=>bc (ho' f t σ P y T u w' _ I4 q F q4) λd' s5 W=>?_));obtain⟨z2,H5,G,r5,k2,N,q5⟩:=W;subst N;cases r5;exact Hi ⟨H5,G,q5⟩
def eT:(sizeLine:Nat)<2 ^ 63:=by rw[sizeLine_eq]; decide
def vals1 (r:Vals [x] d):∃u,d=[u]/\RelV x u:=by
 cases r with
 | cons f e=>cases e; exact⟨_,rfl,f⟩
def vals2 (r:Vals [x,y] us):∃u w',us=[u,w']/\RelV x u/\RelV y w':=by
 cases r with
 | cons f i=>
  cases i with
  | cons j e=>cases e; exact⟨_,_,rfl,f,j⟩
end
structure ObjM (h:Heap)(x dx C:Addr)(mA:Str->aA):Prop where
 obj:h.get? x=some (PySem.W.instObj C dx)
 ns:h.Ns1 dx mA
 ne:dx≠x
def AO {h:Heap}{f:Addr}{c:Str->aA}(n:h.Ns1 f c):∃d,h.get? f=some d/\∀name,PySem.W.lookIn name d=some (c name):=by
 obtain⟨o,g,p,m,hd,k,_,l⟩:=n;refine⟨o,m,λname=>?_⟩;have e:=l name;unfold nsFind findBy at e;rw[<-Array.find?_toList] at e;unfold PySem.W.lookIn;rw[hd];dsimp only;split
 .rename_i y q;rw[q] at e;exact congrArg some e
 .rename_i q;rw[q] at e;have a:g.toList.any (·.refKey)=false:=by
   rw[List.any_eq_false];intro y j;obtain⟨z,t,b⟩:=k y (Array.mem_toList_iff.mp j);simp[DictEntry.refKey,b]
  have i:¬g.toList.any (·.refKey)=true:=by rw[a]; exact Hb
  rw[if_neg i];exact congrArg some e
def ObjM.look (I:ObjM h x c C d):∃a,PySem.W.InstAt h x (PySem.W.instObj C c) C (some a)/\∀name,PySem.W.lookIn name a=some (d name):=
 let ⟨a,e,b⟩:=AO I.ns
 ⟨a,⟨I.obj,rfl,rfl,e⟩,b⟩
section
variable {c:Program}{w:World}{A:Around}{E:Value->Shared->Prop}{s:Shared}{K:bh}{x i C f:Addr}{e:Str->aA}{name:Str}{v:Value}
def AC (X:K.In s.heap)(I:ObjM s.heap x i C e)(b:PySem.W.plainGet K C name=true)(j:PySem.W.hasDictIn K C=true)
  (k:PySem.W.findIn K (.ref C) name=some none)(d:e name=some v)(a:PySem.W.handedIn v=true)(h:Q v { s with toks:=s.toks+1 }) :
  wpAny (model c w) A (getAttr (.ref x) name expr) Q E s:=by
 obtain⟨l,J,g⟩:=I.look;exact PySem.W.get_value X J (Jr b).1 (PySem.W.findObj_own j k rfl (by rw[g,d])) a h
def yH (X:K.In s.heap)(I:ObjM s.heap x i C e)(a:PySem.W.plainGet K C name=true)
  (b:PySem.W.findIn K (.ref C) name=some (some (.ref f)))(k:PySem.W.isFn K (.ref f)=true)(g:e name=none)(h:Q (.ref f,[.ref x]) s) :
  wpAny (model c w) A (getMethod (.ref x) name l) Q E s:=by
 obtain⟨d,J,j⟩:=I.look;exact PySem.W.method_fn X J (Jr a).1 (Jr a).2 b (GN.mp k) (by show (PySem.W.lookIn name d).map (·.isSome)=some false; rw[j,g]; rfl) h
def CS (X:K.In s.heap)(I:ObjM s.heap x i C e)
  (hs:PySem.W.findIn K (.ref C) "__setattr__" = some (some (.builtin "object.__setattr__")))(t:PySem.W.plainOver K C=true)(z:PySem.W.takerIn K C name=some none)(H:PySem.W.hasDictIn K C=true)
  (q:PySem.Within e u)(F:u.length<=sizeLine)
  (h:∀j,ObjM j x i C (λy=>if y=name then some v else e y)->Heap.SameBut i s.heap j->Q () { s with heap:=j,toks:=s.toks+2 }) :
  wpAny (model c w) A (setAttr (.ref x) name v) Q E s:=by
 obtain⟨P,J,M⟩:=I.look;refine PySem.W.set_plain X J hs (PySem.W.osa_open (s:={ s with toks:=s.toks+1 }) (r:=none) X J t z λb=>?_);obtain⟨L,B,n⟩:=PySem.W.any_some H;have G:s.heap.get? x=some ⟨.ref C,some i,.plain,#[]⟩:=I.obj;refine aL (ba (aL (aL (wpAny_loadPart G (aL (PySem.W.Looks.here (s:={ s with toks:=s.toks+1 }) (PySem.W.looks_clsIn X B) ?_))))));rw[n];refine ba (a:=some i) (aL (ba (aL ?_)));refine wpAny_nsSet1 (s:={ s with toks:=s.toks+1 }) I.ns λj d g=>?_;obtain⟨N,o,p,m,k,l⟩:=d.count (PySem.Within.cons name v q);refine aL (wpAny_lookBehind m (by rw[k]; exact pastItsLine_dict (bC l (by rw[List.length_cons]; omega))) ?_);exact ba (h _ ⟨(g.2 _ (Ij I.ne)).trans I.obj,d,I.ne⟩ g)
def ER (X:K.In s.heap)(l:PySem.W.makesIn K C=true)
  (k:PySem.W.findIn K (.ref C) "__init__" = some (some (.ref f)))(j:PySem.W.typeIn K (.ref f)=some (.type "function"))
  (h:codeAny (model c w) (A.under (.builtin "type.__call__" ⟨.ref C::b,a⟩)) (.call (.ref f) ⟨.ref (s.heap.objs.size+1)::b,a⟩) (PySem.W.InitBack (s.heap.objs.size+1) R)
   { s with heap:=(s.heap.push PySem.W.emptyDict).push (PySem.W.instObj C s.heap.objs.size) }) :
  codeAny (model c w) A (.call (.ref C) ⟨b,a⟩) R s:=by
 obtain⟨m,g,d,t,os⟩:=s;exact PySem.W.make_core (PySem.W.makes_of X l) (PySem.W.looks_findIn X k) (λself=>PySem.W.bind_fn X self j) (.inl rfl) h
end
noncomputable def putF (f:Str)(v:V):List (Str×V)->List (Str×V)
 | []=>[(f,v)]
 | (g,x)::r=>if g=f then (g,v)::r else (g,x)::putF f v r
theorem r4 (f g:Str)(v:V):∀c:List (Str×V),(putF f v c).lookup g=if g=f then some v else c.lookup g
 | []=>by
  show List.lookup g [(f,v)]=_;by_cases h:g=f
  .have a:(g == f)=true:=GN.mpr h;simp only[List.lookup,a,if_pos h]
  .have a:(g == f)=false:=HH.mpr h;simp only[List.lookup,a,if_neg h]
 | (k,x)::r=>by
  have d:=r4 f g v r;rw[show putF f v ((k,x)::r)=(if k=f then (k,v)::r else (k,x)::putF f v r) from rfl];by_cases b:k=f
  .rw[if_pos b];by_cases h:g=k
   .have a:(g == k)=true:=GN.mpr h;simp only[List.lookup,a,if_pos (h.trans b)]
   .have a:(g == k)=false:=HH.mpr h;simp only[List.lookup,a,if_neg (λe:g=f=>h (e.trans b.symm))]
  .rw[if_neg b];by_cases h:g=k
   .have a:(g == k)=true:=GN.mpr h;simp only[List.lookup,a,if_neg (λe:g=f=>b (h.symm.trans e))]
   .have a:(g == k)=false:=HH.mpr h;simp only[List.lookup,a];exact d
theorem mO (f:Str)(v:V):∀a:List (Str×V),f∈(putF f v a).map (·.1)/\∀g,g∈a.map (·.1)->g∈(putF f v a).map (·.1)
 | []=>⟨by simp[putF],λg h=>by simp at h⟩
 | (k,x)::r=>by
  obtain⟨c,d⟩:=mO f v r;rw[show putF f v ((k,x)::r)=(if k=f then (k,v)::r else (k,x)::putF f v r) from rfl];by_cases b:k=f
  .rw[if_pos b];subst b;exact⟨by simp,λg h=>by simpa using h⟩
  .rw[if_neg b];refine⟨?_,λg h=>?_⟩
   .rw[GM];exact bK _ c
   .rw[GM] at h ⊢;rcases ck h with e | e
    .exact GY.mpr (.inl e)
    .exact bK _ (d g e)
theorem r6 (f:Str)(v:V):∀a:List (Str×V),(putF f v a).length<=a.length+1
 | []=>by simp[putF]
 | (k,x)::r=>by
  have c:=r6 f v r;rw[show putF f v ((k,x)::r)=(if k=f then (k,v)::r else (k,x)::putF f v r) from rfl];by_cases b:k=f
  .rw[if_pos b,List.length_cons,List.length_cons]; omega
  .rw[if_neg b,List.length_cons,List.length_cons]; omega
def RelO.some_of (r:RelO (some v) o):∃u,o=some u/\RelV v u:=by
 cases o with
 | none=>exact (show False from r).elim
 | some u=>exact⟨u,rfl,r⟩
def RelO.none_of (r:RelO none o):o=none:=by
 cases o with
 | none=>rfl
 | some u=>exact (show False from r).elim
def vf (r:RelV v u):PySem.W.handedIn u=true:=by
 cases v with
 | non=>cases (show u=Value.none from r); rfl
 | bl b=>cases (show u=Value.bool b from r); rfl
 | int i=>obtain⟨t,e⟩:=(show ∃t,u=Value.int i t from r); cases e; rfl
 | str x=>obtain⟨t,e⟩:=(show ∃t,u=Value.str x t from r); cases e; rfl
 | byt b=>obtain⟨t,e⟩:=(show ∃t,u=Value.bytes b t from r); cases e; rfl
 | flt b=>obtain⟨t,e⟩:=(show ∃t,u=Value.float b t from r); cases e; rfl
 | ref a=>cases (show u=Value.ref a from r); rfl
 | ty n=>cases (show u=Value.type n from r); rfl
section
variable {P:Program}{w:World}{H i:Hp}{h j:Heap}{a C c:Addr}{b g:List (Str×V)}
def mK (l:HOk P w H h)(e:H a=some (.ins C c b)):∃k,ObjM h a c C k/\(∀f,RelO (b.lookup f) (k f))/\PySem.Within k (b.map (·.1))/\b.length<=1000/\H c=some (.own a):=by
 obtain⟨d,z,ne,m,k,n,r,q⟩:=(show ObjOk P w H h a (.ins C c b) from l a _ e)
 exact⟨k,⟨m,n,ne⟩,r,q,z,d⟩
end
structure Cls (K:bh)(C:Addr):Prop where
 pg:PySem.W.plainGet K C Str.empty=true
 hd:PySem.W.hasDictIn K C=true
 po:PySem.W.plainOver K C=true
 sa:PySem.W.findIn K (.ref C) "__setattr__" = some (some (.builtin "object.__setattr__"))
def Cls.get {K:bh}{C:Addr}(c:Cls K C)(f:Str):PySem.W.plainGet K C f=true:=c.pg
def NoAttr (K:bh)(C:Addr)(f:Str):Prop:=PySem.W.findIn K (.ref C) f=some none
def NoAttr.taker {K:bh}{C:Addr}{f:Str}(n:NoAttr K C f):PySem.W.takerIn K C f=some none:=by
 unfold PySem.W.takerIn;rw[show PySem.W.findIn K (.ref C) f=some none from n];rfl
structure Meth (K:bh)(C:Addr)(m:Str)(f:Addr):Prop where
 at_:PySem.W.findIn K (.ref C) m=some (some (.ref f))
 fn:PySem.W.isFn K (.ref f)=true
 kp:PySem.W.keepIn K (.ref f)=true
section
variable {X:Cx}{d:ah}{σ:St}{H:Hp}{s:Shared}{a C j:Addr}{i:List (Str×V)}{f:Str}{v:V}{A:Around}{E:Value->Shared->Prop}
def zH (I:Inv X d σ H s)(e:H a=some (.ins C j i))(c:Cls X.K C)(n:NoAttr X.K C f)(l:i.lookup f=some v)
  (h:∀u k,Inv X d σ H k->RelV v u->Q u k):wpAny (model X.prog X.w) A (getAttr (.ref a) f b) Q E s:=by
 obtain⟨p,O,r,_,_,_⟩:=mK I.hok e;obtain⟨u,m,g⟩:=RelO.some_of (v:=v) (o:=p f) (by rw[<-l]; exact r f);exact AC I.kIn O (c.get f) c.hd n m (vf g) (h u _ (I.tok _) g)
def s0 (I:Inv X d σ H s)(e:H a=some (.ins C j i))(c:Cls X.K C)(k:Meth X.K C m g)(l:i.lookup m=none)
  (h:Q (.ref g,[.ref a]) s):wpAny (model X.prog X.w) A (getMethod (.ref a) m pl) Q E s:=by
 obtain⟨b,O,r,_,_,_⟩:=mK I.hok e;have n:b m=none:=RelO.none_of (by rw[<-l]; exact r m);exact yH I.kIn O (c.get m) k.at_ k.fn n h
def BD (I:Inv X d σ H s)(e:H a=some (.ins C j i))(c:Cls X.K C)(n:NoAttr X.K C f)(P:i.length<1000)(B:RelV y u)
  (h:∀t,Inv X d σ (upd H a (.ins C j (putF f y i))) t->Q () t):wpAny (model X.prog X.w) A (setAttr (.ref a) f u) Q E s:=by
 obtain⟨l,O,r,m,_,p⟩:=mK I.hok e;have J:(i.map (·.1)).length<=sizeLine:=by rw[GH,sizeLine_eq]; omega
 refine CS I.kIn O c.sa c.po n.taker c.hd m J λL k F=>h _ ?_;have hd:∃o,L.get? j=some o:=let ⟨o,_,_,N,_⟩:=k.ns; ⟨o,N⟩
 refine I.write (x:=a) (e:=j) (by rw[e]; exact IC) (.inr p) (λb q G z=>(F.2 b G).trans z) hd ?_;refine⟨by rw[bE O.ne]; exact p,?_,O.ne,k.obj,_,k.ns,λg=>?_,λg M=>?_⟩
 .have:=r6 f y i; omega
 .show RelO ((putF f y i).lookup g) (if g=f then some u else l g);rw[r4];by_cases q:g=f
  .rw[if_pos q,if_pos q]; exact B
  .rw[if_neg q,if_neg q]; exact r g
 .by_cases q:g=f
  .rw[q]; exact (mO f y i).1
  .refine (mO f y i).2 g (m g λz=>M ?_);show (if g=f then some u else l g)=none;rw[if_neg q]; exact z
def Inv.made (I:Inv X d σ H s):Inv X d σ (upd (upd H s.heap.objs.size (.own (s.heap.objs.size+1))) (s.heap.objs.size+1) (.ins C s.heap.objs.size []))
  { s with heap:=(s.heap.push PySem.W.emptyDict).push (PySem.W.instObj C s.heap.objs.size) }:=by
 have c:(s.heap.push PySem.W.emptyDict).get? s.heap.objs.size=some PySem.W.emptyDict:=dH s.heap rfl;have l:((s.heap.push PySem.W.emptyDict).push (PySem.W.instObj C s.heap.objs.size)).get? (s.heap.objs.size+1)=some (PySem.W.instObj C s.heap.objs.size):=by
  have:=dH (s.heap.push PySem.W.emptyDict) (o:=PySem.W.instObj C s.heap.objs.size) rfl
  rwa [G0] at this
 have k:(s.heap.push PySem.W.emptyDict).Ns s.heap.objs.size (λ_=>none):=⟨PySem.W.emptyDict,#[],_,c,rfl,(λe g=>absurd g (by simp)),λ_=>rfl⟩
 have m:=I.laid (a:=s.heap.objs.size) (o:=.own (s.heap.objs.size+1)) (h':=s.heap.push PySem.W.emptyDict) (t':=s.toks) (λb u q=>cb _ q) (bA _) ⟨_,c⟩;refine m.laid (a:=s.heap.objs.size+1) (o:=.ins C s.heap.objs.size []) (t':=s.toks) (λb u q=>cb _ q) (Jt (G0 _ _)) ?_;have ne:s.heap.objs.size≠s.heap.objs.size+1:=dA (Ie _);refine⟨by rw[bE ne,bT],G3 _,ne,l,λ_=>none,(Heap.Ns1.of_empty k).at λo q=>cb _ q,λ_=>IC,λy h=>absurd rfl h⟩
def uA (k:attributeBase e f b (eval e b)=eval e b)
  (h:wpAny (model c w) A (eval e b) (λo g=>wpAny (model c w) A (getAttr o f true) Q E g) E s):wpAny (model c w) A (eval (.Attribute e f pos) b) Q E s:=
 Attribute_any_ h (by rw[arm_eval_Attribute,k])
end
def p8 (K:bh)(e:TE)(f:Str):TE:=λσ H Q=>e σ H λx b=>∃a C d c v,x=.ref a/\b a=some (.ins C d c)/\Cls K C/\NoAttr K C f/\c.lookup f=some v/\Q v b
def i3 (K:bh)(h g:TE)(f:Str):TS:=λD σ H=>g σ H λy e=>h σ e λx d=>∃a C c b,x=.ref a/\d a=some (.ins C c b)/\Cls K C/\NoAttr K C f/\b.length<1000 /\
 D.nx σ (upd d a (.ins C c (putF f y b)))
section
variable {X:Cx}{o e value:Expr}{f:Str}{pos pos' d:Pos}{b p:TE}
def Gq (i:PE X e b)(k:attributeBase e f X.env (eval e X.env)=eval e X.env):PE X (.Attribute e f pos) (p8 X.K b f):=by
 intro g s σ H Q I h;refine uA k (bc (i g s σ H _ I h) λu E p=>?_);obtain⟨x,t,y,r,a,C,B,F,v,ex,w,c,n,l,q⟩:=p;subst ex;obtain rfl:u=Value.ref a:=r;exact zH y w c n l λz A m j=>⟨v,t,m,j,q⟩
def F7 (t:PE X o b)(A:PE X value p)(hs:swapsWith value (some (.Attribute o f pos')) pos.line X.env=pure false):PS X (.Assign [.Attribute o f pos'] value pos) (i3 X.K b p f):=by
 intro g s σ H D I h;refine plainObj_wpAny_Assign_Attribute (bc (A g s σ H _ I h) λu r ⟨y,m,v,i,q⟩=>bc (t g r σ m _ v q) λw J hZz=>?_) hs;obtain⟨x,F,j,k,a,C,L,G,ex,B,c,n,l,z⟩:=hZz;subst ex;obtain rfl:w=Value.ref a:=k;exact BD j B c n l i λM E=>⟨σ,_,E,z⟩
end
section
variable {X:Cx}{pins:ah}{σ:St}{H:Hp}{s:Shared}{A:Around}{E:Value->Shared->Prop}{Q:Value->Shared->Prop}{c:Value}{b:Bool}
inductive TyOf (K:bh) (H:Hp):V->Value->Prop where
 | non:TyOf K H .non (.type "NoneType")
 | bl (x:Bool):TyOf K H (.bl x) (.type "bool")
 | int (i:Int):TyOf K H (.int i) (.type "int")
 | str (x:Str):TyOf K H (.str x) (.type "str")
 | flt (x:UInt64):TyOf K H (.flt x) (.type "float")
 | lst {a:Addr} {xs:av} (e:H a=some (.lst xs)):TyOf K H (.ref a) (.type "list")
 | frz {a:Addr} {o:Obj} {xs:av} (e:H a=some (.frz o (.lst xs))):TyOf K H (.ref a) (.type "list")
 | tup {a:Addr} {xs:av} (e:H a=some (.tup xs)):TyOf K H (.ref a) (.type "tuple")
 | dK {a:Addr} {kvs:List (e9×V)} (e:H a=some (.dK kvs)):TyOf K H (.ref a) (.type "dict")
 | dT {a:Addr} {kvs:List (List e9×V)} (e:H a=some (.dT kvs)):TyOf K H (.ref a) (.type "dict")
 | ins {a C dx:Addr} {fs:List (Str×V)} (e:H a=some (.ins C dx fs)) (cl:Cls K C) (ha:PySem.W.findIn K (.ref C) "__class__" = some (some (.builtin "object.__class__")))
   (hn:PySem.W.specialIn K (.builtin "object.__class__") "__get__" = some (some (.builtin "getset_descriptor.__get__"))) (htk:PySem.W.takesIn K (.builtin "object.__class__")=some true)
   (hm:PySem.W.mroIn K C (.type "object")=some true):TyOf K H (.ref a) (.ref C)
def jH (I:Inv X pins σ H s)(d:RelV x u)(ty:TyOf X.K H x t)(e:PySem.W.kitOne X.K t c=some b)(h:∀L,Q (.bool b) { s with toks:=L }) :
  wpAny (model X.prog X.w) A (call (.builtin "isinstance") [u,c]) Q E s:=by
 cases ty with
 | non=>cases (show u=Value.none from d); exact Hg PySem.W.kitx_none I.kIn IC e (λz=>nomatch z) h
 | bl y=>cases (show u=Value.bool y from d); exact Hg PySem.W.kitx_bool I.kIn IC e (λz=>nomatch z) h
 | int i=>obtain⟨t,q⟩:=(show ∃t,u=Value.int i t from d); cases q; exact Hg PySem.W.kitx_int I.kIn IC e (λz=>nomatch z) h
 | str y=>obtain⟨t,q⟩:=(show ∃t,u=Value.str y t from d); cases q; exact Hg PySem.W.kitx_str I.kIn IC e (λz=>nomatch z) h
 | flt y=>obtain⟨t,q⟩:=(show ∃t,u=Value.float y t from d); cases q; exact Hg PySem.W.kitx_float I.kIn IC e (λz=>nomatch z) h
 | @lst a k f=>
  cases (show u=Value.ref a from d);obtain⟨_,_,n,_,g⟩:=(show ObjOk X.prog X.w H s.heap a (.lst k) from I.hok a _ f)
  exact Hg JG I.kIn ⟨_,g,rfl⟩ e (λz=>nomatch z) h
 | @frz a v k f=>
  cases (show u=Value.ref a from d);obtain⟨_,_,_,n,_,g⟩:=(show ObjOk X.prog X.w H s.heap a (.frz v (.lst k)) from I.hok a _ f)
  exact Hg JG I.kIn ⟨_,g,rfl⟩ e (λz=>nomatch z) h
 | @tup a k f=>
  cases (show u=Value.ref a from d);obtain⟨_,_,_,p⟩:=(show ObjOk X.prog X.w H s.heap a (.tup k) from I.hok a _ f)
  obtain⟨o,g,l,_⟩:=p;exact Hg Jw I.kIn ⟨o,g,l⟩ e (λz=>nomatch z) h
 | @dK a j f=>
  cases (show u=Value.ref a from d);obtain⟨_,_,Y,_,p⟩:=(show ObjOk X.prog X.w H s.heap a (.dK j) from I.hok a _ f)
  obtain⟨o,M,F,g,l,_⟩:=p;exact Hg PySem.W.kitx_dict I.kIn ⟨o,g,l.1⟩ e (λz=>nomatch z) h
 | @dT a j f=>
  cases (show u=Value.ref a from d);obtain⟨_,_,k,_,o,M,F,g,l,_⟩:=(show ObjOk X.prog X.w H s.heap a (.dT j) from I.hok a _ f)
  exact Hg PySem.W.kitx_dict I.kIn ⟨o,g,l.1⟩ e (λz=>nomatch z) h
 | @ins a C Z T f r B G m N=>
  cases (show u=Value.ref a from d);obtain⟨P,O,_⟩:=mK I.hok f;obtain⟨U,J,_⟩:=O.look;exact Hg (PySem.W.kitx_own (r.get _) r.hd B G m N) I.kIn J e (λz=>nomatch z) h
end
structure Room (k:Nat)(A:Around):Prop where
 hd:A.handled=none
 dp:A.depth+3 * k+5<recursionLimit
 un:A.units+16 * k+200<cLine
def Room.mono (r:Room k A)(h:j<=k):Room j A:=⟨r.hd,by have:=r.dp; omega,by have:=r.un; omega⟩
theorem Room.deeper (r:Room (k+1) A)(a:Env):Room k (A.deeper a):=
 ⟨r.hd,by have:=r.dp; show A.depth+1+3 * k+5<_; omega,by have:=r.un; show A.units+3+16 * k+200<_; omega⟩
def AS {A:Around}{C:Addr}{b:ao}{a:List (Str×Value)}:(A.under (.builtin "type.__call__" ⟨.ref C::b,a⟩)).depth=A.depth+1:=by
 first | rfl | simp[Around.under,Code.weight,Code.isCreation,Code.isGuard,Code.isCaller,Code.frames,Code.isFrame,guardIds]
def Bf {A:Around}{C:Addr}{b:ao}{a:List (Str×Value)}:(A.under (.builtin "type.__call__" ⟨.ref C::b,a⟩)).units=A.units+1:=by
 first | rfl | simp[Around.under,Code.cUnits,Code.frames,Code.isFrame]
def Room.make (r:Room (k+1) A)(C:Addr)(b:ao)(a:List (Str×Value)):Room k (A.under (.builtin "type.__call__" ⟨.ref C::b,a⟩)):=
 ⟨r.hd,by have:=r.dp; rw[AS]; omega,by have:=r.un; rw[Bf]; omega⟩
theorem Room.depth (r:Room k A):A.depth<recursionLimit:=by have:=r.dp; omega
theorem Room.units (r:Room k A):A.units+64<cLine:=by have:=r.un; omega
def er:TA:=λ_ H Q=>Q [] H
def ci (e:TE)(b:TA):TA:=λσ H Q=>e σ H λx c=>b σ c λa d=>Q (x::a) d
section
variable {X:Cx}{e:Expr}{a:au}{c:TE}{t:TA}{pos:Pos}
def ip:PA X [] er:=λ_ _ _ _ H Q I h=>Calls.spliced_nil ⟨[],H,I,.nil,h⟩
def gq (l:PE X e c)(d:PA X a t)(hs:starEach (e::a) X.env=(false,eval e X.env)::starEach a X.env:=by rfl):PA X (e::a) (ci c t):=by
 intro pos b s σ H Q I h;rw[hs];show wpAny _ _ (spliced ((false,eval e X.env)::backTo pos (starEach a X.env))) _ _ s;refine Jx (bc (l b s σ H _ I h) λu k z=>?_);obtain⟨x,g,q,o,m⟩:=z;exact bc (d pos b k σ g _ q m) λr v y=>by obtain⟨p,j,f,i,n⟩:=y; exact⟨x::p,j,f,.cons o i,n⟩
def qa (t:TA):TE:=λσ H Q=>t σ H λb d=>b.length<=sizeLine/\∀p,d p=none->Q (.ref p) (upd d p (.tup b))
def sI (t:TA):TE:=λσ H Q=>t σ H λb d=>b.length<=sizeLine/\∀p,d p=none->Q (.ref p) (upd d p (.lst b))
def uL {n}(h:PA X a t):PE X (.Tuple a n pos) (qa t):=by
 intro d s σ H Q I k;refine wpAny_Tuple_spliced (bc (h pos d s σ H _ I k) λm f ⟨l,g,i,r,z,q⟩=>⟨by rw[<-r.length]; exact z,?_⟩);have j:g f.heap.objs.size=none:=i.hok.fresh (bA _);refine⟨.ref f.heap.objs.size,upd g f.heap.objs.size (.tup l),i.laid (t':=f.toks) (λb u e=>cb _ e) (bA _) ?_,rfl,q _ j⟩;exact⟨z,m,r,⟨_,dH _ rfl,rfl,⟨_,rfl⟩,rfl⟩⟩
def Fc (h:PA X a t):PE X (.List a pos) (sI t):=by
 intro d s σ H Q I k;refine wpAny_List_spliced (bc (h pos d s σ H _ I k) λm f ⟨l,g,i,r,z,q⟩=>⟨by rw[<-r.length]; exact z,?_⟩);have j:g f.heap.objs.size=none:=i.hok.fresh (bA _);refine⟨.ref f.heap.objs.size,upd g f.heap.objs.size (.lst l),i.laid (t':=f.toks) (λb u e=>cb _ e) (bA _) ?_,rfl,q _ j⟩;exact⟨z,m,0,r,dH _ rfl⟩
end
abbrev Sp:=av->Hp->VK->XK->Prop
abbrev gG:=List Env->Hp->Shared->XK->Value->Shared->Prop
structure Env0 (P:Program)(w:World)(K:bh)(mg:Str->aA)(base:Heap)(A:Around)(outer:List Env)(s:Shared)(H:Hp):Prop where
 frames:A.frames=some outer
 mod:Mod K mg base
 bs:∀b o,base.get? b=some o->s.heap.get? b=some o/\H b=none
 bsz:base.objs.size<=s.heap.objs.size
 funs:s.heap.FunFrames base outer
 frf:∀b∈fG outer,H b=none
 hok:HOk P w H s.heap
 bare:AllBare s.gens
def CE (a:List Env)(P:Program)(w:World)(H:Hp)(s:Shared)(Q:VK)(u:Value)(b:Shared):Prop:=
 ∃v c,b.os=s.os/\AllBare b.gens/\Un (fG a) [] H c s.heap b.heap/\HOk P w c b.heap/\RelV v u/\Q v c
def CR (c:gG)(a:List Env)(P:Program)(w:World)(H:Hp)(s:Shared)(Q:VK)(E:XK)(r:Result)(b:Shared):Prop:=
 match r with
 | .ok (.ret u)=>CE a P w H s Q u b
 | .ok _=>False
 | .error e=>c a H s E e b
structure FnOk (P:Program)(w:World)(K:bh)(mg:Str->aA)(base:Heap)(CX:gG)(k:Nat)(f:Addr)(fd:FuncData)(ps:ar)(sp:Sp):Prop where
 len:∀vs H Q E,sp vs H Q E->vs.length=ps.length
 run:∀(A:Around) (outer:List Env) (s:Shared) (H:Hp) (args:Args) (us:ao) (vs:av) (Q:VK) (E:XK),Room k A->Env0 P w K mg base A outer s H->BindsTo s fd args (ps.zip us)->Vals vs us->sp vs H Q E ->
  codeAny (model P w) A (.call (.ref f) args) (CR CX outer P w H s Q E) s
def FnOk.imp {P:Program}{w:World}{K:bh}{mg:Str->aA}{base:Heap}{CX:gG}{k:Nat}{f:Addr}{fd:FuncData}{ps:ar}{sp sp':Sp}(F:FnOk P w K mg base CX k f fd ps sp)
  (h:∀vs H Q E,sp' vs H Q E->sp vs H Q E):FnOk P w K mg base CX k f fd ps sp':=
 ⟨λvs H Q E q=>F.len vs H Q E (h _ _ _ _ q),λA a s H args o vs Q E j l m n hs=>F.run A a s H args o vs Q E j l m n (h _ _ _ _ hs)⟩
def Env0.make {P:Program}{w:World}{K:bh}{b:Str->aA}{base:Heap}{A:Around}{a:List Env}{s:Shared}{H:Hp}(e:Env0 P w K b base A a s H)(C:Addr)(c:ao)(d:List (Str×Value)) :
  Env0 P w K b base (A.under (.builtin "type.__call__" ⟨.ref C::c,d⟩)) a s H:=⟨by first | exact e.frames | (simpa[Around.under,Code.envs,Code.isFrame,pushEnvs] using e.frames),e.mod,e.bs,e.bsz,e.funs,e.frf,e.hok,e.bare⟩
section
variable {X:Cx}{pins:ah}{σ:St}{H:Hp}{s s':Shared}
def Inv.env0 (I:Inv X pins σ H s):Env0 X.prog X.w X.K X.mg X.base X.A X.stack s H:=
 ⟨I.ok.frames,I.ok.mod,I.bs,bC I.ok.bsz I.sz,I.stack,I.stkFree,I.hok,I.bare⟩
def Inv.after (I:Inv X pins σ H s)(h:CE X.stack X.prog X.w H s Q u s'):EP X pins σ Q u s':=by
 obtain⟨v,i,os,a,un,c,r,q⟩:=h;obtain⟨f,g,d,t,e⟩:=s';obtain rfl:e=s.os:=os;exact⟨v,i,I.call (h':=f) (g':=g) (d':=d) (t':=t) (ch:=[]) un c a (λb z=>absurd z (by simp)),r,q⟩
end
def eL (d:Sp)(a:av)(E:St->XK)(t:TA):TE:=λσ H Q=>t σ H λc b=>d (c++a) b Q (E σ)
def ff (C:Addr)(m:Str)(i:Sp)(b:av)(E:St->XK)(f:TE)(t:TA):TE:=λσ H Q=>f σ H λx c=>∃a g d,x=.ref a/\c a=some (.ins C g d)/\d.lookup m=none /\
 t σ c λe h=>i (x::(e++b)) h Q (E σ)
def gr (C:Addr)(f:Sp)(b:av)(E:St->XK)(t:TA):TE:=λσ H Q=>t σ H λd c=>∀x a,c x=none->c a=none->a≠x ->
 f (.ref x::(d++b)) (upd (upd c a (.own x)) x (.ins C a [])) (λv e=>v=.non/\Q (.ref x) e) (E σ)
def Binds (K:bh)(d:FuncData)(b:ar)(c:ao):Prop:=
 ∀(s:Shared) (a:ao),K.In s.heap->(a++c).length=b.length->BindsTo s d ⟨a,[]⟩ (b.zip (a++c))
def Binds.all {K:bh}{d:FuncData}{b:ar}(h:∀a:ao,a.length=b.length->bindArgs d ⟨a,[]⟩=pure (b.zip a)):Binds K d b []:=λs a _ c=>by
 rw[Hz] at c ⊢;exact .of_eq (h a c)
def bw (c:gG)(X:Cx)(E:St->XK):Prop:=∀(a:ah) (σ:St) (H:Hp) (s:Shared) (e:Value) (b:Shared),Inv X a σ H s->c X.stack H s (E σ) e b->X.xe e b
section
variable {X:Cx}{CX:gG}{k:Nat}{f C:Addr}{fd:FuncData}{ps:ar}{sp:Sp}{dvs:av}{ds:ao}{E:St->XK}{x m:Str}{p pos apos:Pos}{e o:Expr}{es:au}{ta:TE}{t:TA}
def oh (F:FnOk X.prog X.w X.K X.mg X.base CX k f fd ps sp)(i:Room k X.A)(g:Binds X.K fd ps ds)(hd:Vals dvs ds)(l:bw CX X E)
  (I:Inv X a σ H s)(r:Vals vs us)(h:sp (vs++dvs) H Q (E σ)):wpAny (model X.prog X.w) X.A (call (.ref f) us) (EP X a σ Q) X.xe s:=by
 have c:Vals (vs++dvs) (us++ds):=r.append hd;have d:(us++ds).length=ps.length:=by rw[<-c.length]; exact F.len _ _ _ _ h
 refine Jz (IG (F.run X.A X.stack s H ⟨us,[]⟩ (us++ds) (vs++dvs) Q (E σ) i I.env0 (g s us I.kIn d) c h) λr j b=>?_);cases r with
 | error e=>exact l a σ H s e j I b
 | ok n=>
  cases n with
  | ret u=>exact I.after b
  | next=>exact False.elim b
  | brk=>exact False.elim b
  | cont=>exact False.elim b
def tT (F:FnOk X.prog X.w X.K X.mg X.base CX k f fd ps sp)(g:Room k X.A)(l:Gl X x)(y:X.mg x=some (.ref f))(u:PySem.W.keepIn X.K (.ref f)=true)(n:Binds X.K fd ps ds)(hd:Vals dvs ds)(v:bw CX X E)
  (j:PA X (e::es) t)(b:(x == ("__debug__" : Str))=false:=by decide)(i:starEach (e::es) X.env=(false,eval e X.env)::starEach es X.env:=by rfl)(c:(backTo pos (starEach es X.env)).any (·.1)=false:=by rfl) :
  PE X (.Call (.Name x p) (e::es) [] pos) (eL sp dvs E t):=by
 intro a s σ H Q I h;refine He (ie I l y ?_ b);refine IR (h₀:=X.base) I.ok.mod.kin u (bc (j pos a s σ H _ I h) λz G ⟨J,B,d,r,q⟩=>⟨d.kIn,?_⟩) i c;exact oh F g n hd v d r q
def Ev (F:FnOk X.prog X.w X.K X.mg X.base CX k f fd ps sp)(c:Room k X.A)(d:Gl X x)(l:X.mg x=some (.ref f))(i:PySem.W.keepIn X.K (.ref f)=true)(g:Binds X.K fd ps ds)(hd:Vals dvs ds)(j:bw CX X E)
  (a:(x == ("__debug__" : Str))=false:=by decide):PE X (.Call (.Name x p) [] [] pos) (eL sp dvs E er):=by
 intro b s σ H Q I h;refine He (ie I d l ?_ a);exact Ib I.kIn i (oh (us:=[]) F c g hd j I .nil h)
def xG (z:PE X o ta)(c:Cls X.K C)(n:Meth X.K C m f)(F:FnOk X.prog X.w X.K X.mg X.base CX k f fd ps sp)(y:Room k X.A)(P:Binds X.K fd ps ds)(hd:Vals dvs ds)(Y:bw CX X E)(M:PA X (e::es) t)
  (d:starEach (e::es) X.env=(false,eval e X.env)::starEach es X.env:=by rfl)(g:(backTo pos (starEach es X.env)).any (·.1)=false:=by rfl)
  (N:eval (.Call (.Attribute o m apos) (e::es) [] pos) X.env=(do
   let j <-eval o X.env
   standAt apos.atName
   let (f,first) <-holding [j] (getMethod j m pl)
   callWith pos f first (backTo pos (starEach (e::es) X.env)) (backToKw pos (keywordEach [] X.env))):=by rfl) :
  PE X (.Call (.Attribute o m apos) (e::es) [] pos) (ff C m sp dvs E ta t):=by
 intro b s σ H Q I h;refine Ix (pl:=pl) (bc (z b s σ H _ I h) λu L hZz=>?_) N;obtain⟨x,J,v,B,a,dx,fs,ex,Z,l,q⟩:=hZz;subst ex;obtain rfl:u=Value.ref a:=B;refine s0 v Z c n l ?_;refine IR (first:=[.ref a]) (h₀:=X.base) I.ok.mod.kin n.kp (bc (M pos b L σ J _ v q) λG s2 ⟨T,H2,i,r,U⟩=>⟨i.kIn,?_⟩) d g;exact oh (us:=.ref a::G) (vs:=.ref a::T) F y P hd Y i (.cons rfl r) U
def yb (j:PE X o ta)(c:Cls X.K C)(i:Meth X.K C m f)(F:FnOk X.prog X.w X.K X.mg X.base CX k f fd ps sp)(z:Room k X.A)(v:Binds X.K fd ps ds)(hd:Vals dvs ds)(B:bw CX X E)
  (r:eval (.Call (.Attribute o m apos) [] [] pos) X.env=(do
   let g <-eval o X.env
   standAt apos.atName
   let (f,first) <-holding [g] (getMethod g m pl)
   callWith pos f first (backTo pos (starEach [] X.env)) (backToKw pos (keywordEach [] X.env))):=by rfl) :
  PE X (.Call (.Attribute o m apos) [] [] pos) (ff C m sp dvs E ta er):=by
 intro b s σ H Q I h;refine Ix (pl:=pl) (bc (j b s σ H _ I h) λu J hZz=>?_) r;obtain⟨x,G,d,n,a,M,L,ex,y,l,q⟩:=hZz;subst ex;obtain rfl:u=Value.ref a:=n;refine s0 d y c i l ?_;exact Ib (first:=[.ref a]) d.kIn i.kp (oh (us:=[.ref a]) (vs:=[.ref a]) F z v hd B d (.cons rfl .nil) q)
structure Mk (K:bh)(C f:Addr):Prop where
 makes:PySem.W.makesIn K C=true
 init:PySem.W.findIn K (.ref C) "__init__" = some (some (.ref f))
 fn:PySem.W.isFn K (.ref f)=true
 kp:PySem.W.keepIn K (.ref C)=true
def vd (M:Mk X.K C f)(F:FnOk X.prog X.w X.K X.mg X.base CX k f fd ps sp)(l:Room (k+1) X.A)(J:Binds X.K fd ps ds)(hd:Vals dvs ds)
  (L:bw CX X E)(I:Inv X b σ H s)(r:Vals j us)
  (h:∀x d,H x=none->H d=none->d≠x->sp (.ref x::(j++dvs)) (upd (upd H d (.own x)) x (.ins C d [])) (λv G=>v=.non/\Q (.ref x) G) (E σ)) :
  wpAny (model X.prog X.w) X.A (call (.ref C) us) (EP X b σ Q) X.xe s:=by
 have g:=h (s.heap.objs.size+1) s.heap.objs.size (I.hok.fresh (HA _)) (I.hok.fresh (bA _)) (dA (Ie _));have c:=Inv.made (C:=C) I;have i:Vals (V.ref (s.heap.objs.size+1)::(j++dvs)) (Value.ref (s.heap.objs.size+1)::(us++ds)):=.cons rfl (r.append hd);have z:(Value.ref (s.heap.objs.size+1)::us++ds).length=ps.length:=by
  have e:=i.length;rw[F.len _ _ _ _ g] at e;exact e.symm
 refine Jz (ER (f:=f) I.kIn M.makes M.init (GN.mp M.fn) (IG (F.run _ X.stack _ _ ⟨Value.ref (s.heap.objs.size+1)::us,[]⟩ (Value.ref (s.heap.objs.size+1)::(us++ds)) _ _ (E σ) (l.make C us [])
  (c.env0.make C us []) (J _ (Value.ref (s.heap.objs.size+1)::us) c.kIn z) i g) λr y a=>?_))
 cases r with
 | error e=>exact L b σ _ _ e y c a
 | ok N=>
  cases N with
  | ret u=>
   obtain⟨v,T,P,B,q,n⟩:=c.after a;subst q;exact⟨B,⟨V.ref (s.heap.objs.size+1),T,P,rfl,n⟩⟩
  | next=>exact False.elim a
  | brk=>exact False.elim a
  | cont=>exact False.elim a
def C9 (M:Mk X.K C f)(F:FnOk X.prog X.w X.K X.mg X.base CX k f fd ps sp)(g:Room (k+1) X.A)(l:Gl X x)(v:X.mg x=some (.ref C))(n:Binds X.K fd ps ds)(hd:Vals dvs ds)(u:bw CX X E)
  (j:PA X (e::es) t)(b:(x == ("__debug__" : Str))=false:=by decide)(i:starEach (e::es) X.env=(false,eval e X.env)::starEach es X.env:=by rfl)(c:(backTo pos (starEach es X.env)).any (·.1)=false:=by rfl) :
  PE X (.Call (.Name x p) (e::es) [] pos) (gr C sp dvs E t):=by
 intro a s σ H Q I h;refine He (ie I l v ?_ b);refine IR (h₀:=X.base) I.ok.mod.kin M.kp (bc (j pos a s σ H _ I h) λy B ⟨G,z,d,r,q⟩=>⟨d.kIn,?_⟩) i c;exact vd M F g n hd u d r q
def D1 (M:Mk X.K C f)(F:FnOk X.prog X.w X.K X.mg X.base CX k f fd ps sp)(c:Room (k+1) X.A)(d:Gl X x)(j:X.mg x=some (.ref C))(g:Binds X.K fd ps ds)(hd:Vals dvs ds)(i:bw CX X E)
  (a:(x == ("__debug__" : Str))=false:=by decide):PE X (.Call (.Name x p) [] [] pos) (gr C sp dvs E er):=by
 intro b s σ H Q I h;refine He (ie I d j ?_ a);exact Ib I.kIn M.kp (vd (us:=[]) M F c g hd i I .nil h)
end
structure FnScope (N P:ar)(sc:Scope):Prop where
 kind:sc.kind=.function
 co:sc.isCoroutine=false
 gen:sc.isGenerator=false
 nd:N.Nodup
 pre:N.take P.length=P
 par:∀x∈P,sc.names.lookup x=some .local\/sc.names.lookup x=some .cell
 nofree:∀y∈sc.names,y.2≠.free
theorem uy {kindOf:Str->Option NameKind}{x:Str}:∀{a:List (Str×Value)} {m:Str->aA},(∀v,(x,v)∉a)->bindL kindOf a m x=m x
 | [],_,_=>rfl
 | (n,v)::r,m,h=>by
  unfold bindL;rw[uy λw b=>h w (HV _ b)];split
  .have:x≠n:=by rintro rfl; exact h v bP
   simp[this]
  .rfl
theorem uF {kindOf:Str->Option NameKind}{x:Str}:∀{a:List (Str×Value)} {m:Str->aA},(∀v,(x,v)∉a)->bindC kindOf a m x=m x
 | [],_,_=>rfl
 | (n,v)::r,m,h=>by
  unfold bindC;rw[uF λw b=>h w (HV _ b)];split
  .rfl
  .have:x≠n:=by rintro rfl; exact h v bP
   simp[this]
theorem u8 {kindOf:Str->Option NameKind}{x:Str}{v:Value}:∀{P:ar} {a:ao} {i:Nat} {m:Str->aA},P.Nodup->P[i]? = some x->a[i]? = some v->kindOf x=some .local ->
  bindL kindOf (P.zip a) m x=some v
 | [],_,_,_,_,h,_,_=>by simp at h
 | _::_,[],_,_,_,_,h,_=>by simp at h
 | p::P,w::a,0,m,e,c,b,d=>by
  simp at c b; subst c; subst b;show bindL kindOf ((p,w)::P.zip a) m p=_;unfold bindL;rw[uy λv f=>(G2.mp e).1 (List.of_mem_zip f).1,if_pos d];simp
 | p::P,w::a,i+1,m,e,c,b,d=>by
  show bindL kindOf ((p,w)::P.zip a) m x=_;unfold bindL;exact u8 (i:=i) (G2.mp e).2 (by simpa using c) (by simpa using b) d
theorem w4 {kindOf:Str->Option NameKind}{x:Str}{v:Value}:∀{P:ar} {a:ao} {i:Nat} {m:Str->aA},P.Nodup->P[i]? = some x->a[i]? = some v->kindOf x≠some .local ->
  bindC kindOf (P.zip a) m x=some v
 | [],_,_,_,_,h,_,_=>by simp at h
 | _::_,[],_,_,_,_,h,_=>by simp at h
 | p::P,w::a,0,m,e,c,b,d=>by
  simp at c b; subst c; subst b;show bindC kindOf ((p,w)::P.zip a) m p=_;unfold bindC;rw[uF λv f=>(G2.mp e).1 (List.of_mem_zip f).1,if_neg d];simp
 | p::P,w::a,i+1,m,e,c,b,d=>by
  show bindC kindOf ((p,w)::P.zip a) m x=_;unfold bindC;exact w4 (i:=i) (G2.mp e).2 (by simpa using c) (by simpa using b) d
noncomputable def start (N:ar)(a:av):St:=a.map some++List.replicate (N.length - a.length) none
noncomputable def eO (CX:gG)(P:Program)(w:World)(K:bh)(mg:Str->aA)(base:Heap)(N:ar)(qual:Str)(scope:Scope)(f:Addr)(cd:Value)(A:Around)(outer:List Env)(s:Shared)(H:Hp)(E:XK):Cx where
 prog:=P
 w:=w
 K:=K
 mg:=mg
 base:=base
 A:=A.deeper (envOfC qual scope s.heap.objs.size f cd)
 N:=N
 s₀:=s
 H₀:=H
 env:=envOfC qual scope s.heap.objs.size f cd
 outer:=outer
 stack:=envOfC qual scope s.heap.objs.size f cd::outer
 ex:=[]
 calm:=true
 fn:=λ_=>true
 pn:=[]
 xe:=λe s'=>wpAny (model P w) (A.deeper (envOfC qual scope s.heap.objs.size f cd)) (leaving (envOfC qual scope s.heap.objs.size f cd) e) (λ_ s''=>CX outer H s E e s'') (λe' s''=>CX outer H s E e' s'') s'
def wN {a:Scope}{n:Nat}{x:Str}(h:a.names.lookup x=some .cell):∃c,(cellsFrom n a.names []).lookup x=some c:=by
 have q:=PySem.W.cellsFrom_some a.names n [] (.inl h);exact Option.isSome_iff_exists.mp q
def Ap {CX:gG}{P:Program}{w:World}{K:bh}{mg:Str->aA}{base:Heap}{N ps:ar}{qual:Str}{scope:Scope}{f:Addr}{cd:Value}{A:Around}{outer:List Env}{s s1:Shared}{H:Hp}{E:XK}{us:ao}{vs:av}
  (S:FnScope N ps scope)(hd:A.handled=none)(e0:Env0 P w K mg base A outer s H)(hl:vs.length=ps.length)(r:Vals vs us)
  (x:InCallC s s.heap.objs.size (bindL (envOfC qual scope s.heap.objs.size f cd).kindOf (ps.zip us) λ_=>none) (cellsFrom (s.heap.objs.size+1) scope.names []) (bindC (envOfC qual scope s.heap.objs.size f cd).kindOf (ps.zip us) λ_=>none) s1) :
  Inv (eO CX P w K mg base N qual scope f cd A outer s H E) [] (start N vs) H s1:=by
 have a0:ps.length<=N.length:=by have:=congrArg List.length S.pre; rw[HD] at this; omega
 obtain⟨L,tk,rfl,X⟩:=x.done;have C:∀b:Addr,b∉(eO CX P w K mg base N qual scope f cd A outer s H E).ex:=λb z=>absurd (show b∈([]:al) from z) (by simp);refine⟨⟨e0.mod,S.kind,rfl,rfl,bA _,λy z c L l=>?_,λy t=>?_,λy c _ h=>?_,λ_=>hd,Around.frames_deeper e0.frames,.inr ⟨rfl,rfl⟩,λb z=>absurd z (C b),e0.bs,e0.bsz,λb _ _=>C b,λb z=>absurd z (C b),e0.funs,e0.frf⟩,
  rfl,e0.bare,Un.kept X,⟨_,x.toInCall.ns,λi y v L l h3=>?_⟩,λy c h=>⟨_,x.cell y c h⟩,e0.hok.fresh (bA _),λy c h=>?_,λp G=>absurd (show p∈([]:ah) from G) (by simp),e0.hok.kept X,?_⟩
 .exact name_of_addr x.apart (Hm L) (Hm l)
 .have t:scope.names.lookup y=some .cell\/scope.names.lookup y=some .free:=t;rcases t with t | t
  .exact wN t
  .exact absurd rfl (S.nofree _ (Hm t))
 .exact HK (x.above y c (Hm h))
 .have J:i<vs.length:=by
   unfold start at l;by_cases J:i<vs.length
   .exact J
   .rw[List.getElem?_append_right (by simpa using J)] at l;rw[List.getElem?_replicate] at l;split at l <;> cases l
  have Z:vs[i]? = some v:=by
   unfold start at l;rw[HR (by simpa using J),GK] at l;cases e:vs[i]? with
   | none=>rw[e] at l; cases l
   | some a=>rw[e] at l; cases l; rfl
  obtain⟨u,U,rv⟩:=r.get Z;have G:ps[i]? = some y:=by
   rw[<-S.pre,List.getElem?_take_of_lt (by omega)]; exact L
  have F:ps.Nodup:=by rw[<-S.pre]; exact S.nd.sublist (List.take_sublist _ _)
  refine⟨u,rv,?_⟩;rcases S.par y (GV G) with k | k
  .exact .inl ⟨k,u8 F G U k⟩
  .obtain⟨c,e⟩:=wN (n:=s.heap.objs.size+1) k;refine .inr ⟨.inl k,c,e,?_⟩;have q:=x.cell y c e;rw[w4 F G U (by show scope.names.lookup y≠_; rw[k]; decide)] at q;exact q
 .exact e0.hok.fresh (HK (x.above y c (Hm h)))
 .unfold start;show _=N.length;rw[GQ,GH,Jh];omega
def va {C:gG}{P:Program}{w:World}{K:bh}{G:Str->aA}{base:Heap}{k:Nat}{f:Addr}{name d:Str}{h:Arguments}{body:aG}{a:Scope}{dV kV z pm g Z oc:Value}{an od:aE}
  {T:Array aA}{N F:ar}{sp:Sp}(lk:K.lookup f=some ⟨oc,od,.func (PySem.W.fnOf name d h body a dV kV z pm an g Z),T⟩)(X:PySem.W.codeIn K g d=true)(S:FnScope N F a)
  (len:∀i H Q E,sp i H Q E->i.length=F.length)
  (m:∀(A:Around) (c:List Env) (s:Shared) (H:Hp) (i:av) (Q:VK) (E:XK),Room k (A.deeper (envOfC d a s.heap.objs.size f g))->sp i H Q E ->
   ∃t,PSs (eO C P w K G base N d a f g A c s H E) body t/\t { nx:=λ_ j=>Q .non j,rt:=Q } (start N i) H) :
  FnOk P w K G base C (k+1) f (PySem.W.fnOf name d h body a dV kV z pm an g Z) F sp:=by
 refine⟨len,λA c s H args us i Q E L B hb r p=>?_⟩;have hl:=len _ _ _ _ p;have Y:K.In s.heap:=B.mod.kin.keeps λb o e=>(B.bs b o e).1;have M:s.heap.NoLimit:=B.mod.nolimit.keeps λb o e=>(B.bs b o e).1;have l:∀y∈F.zip us,a.names.lookup y.1=some .local\/(a.names.lookup y.1=some .cell/\((cellsFrom (s.heap.objs.size+1) a.names []).lookup y.1).isSome=true):=λ⟨n,v⟩ hy=>by
  rcases S.par n (List.of_mem_zip hy).1 with q | q
  .exact .inl q
  .exact .inr ⟨q,PySem.W.cellsFrom_some _ _ _ (.inl q)⟩
 refine codeAny_call_function L.depth (Y _ _ lk) rfl S.co S.gen rfl (PySem.W.codeRec_of Y X) (hb _ _ _ _ ?_);refine wpAny_newFunctionEnv_cells S.kind l λa0 he s1 x=>?_;subst he;refine⟨M.keeps x.toInCall.keep,codeAny_func ?_⟩;obtain⟨t,ht,hq⟩:=m A c s H i Q E (L.deeper _) p;have I:Inv (eO C P w K G base N d a f g A c s H E) [] (start N i) H s1:=Ap S L.hd B hl r x;refine Hl (ht [] s1 (start N i) H _ I hq) (λfl s' hs=>?_) λe s' hs=>hs;have fin:∀{σ':St} {j:Hp} {v:V} {u:Value},Inv (eO C P w K G base N d a f g A c s H E) [] σ' j s'->RelV v u->Q v j->CE c P w H s Q u s':=
  λ{σ' j v u} J U q=>⟨v,j,J.os,J.bare,J.base,J.hok,U,q⟩
 cases fl with
 | ret u=>
  obtain⟨v,σ',j,J,U,q⟩:=hs;exact fin J U q
 | next=>
  obtain⟨σ',j,J,q⟩:=hs;exact fin (v:=V.non) (u:=Value.none) J rfl q
 | brk=>
  obtain⟨_,_,_,q⟩:=hs;exact False.elim q
 | cont=>
  obtain⟨_,_,_,q⟩:=hs;exact False.elim q
section
variable {X:Cx}{x:Str}{p pos:Pos}{e:Expr}{a:au}{t:TA}{id T:String}{r:av->Hp->VK->Prop}
def oq (r:av->Hp->VK->Prop)(t:TA):TE:=λσ H Q=>t σ H λc b=>r c b Q
def lM (i:CallR X (.builtin id) r)(g:Gl X x)(q:X.mg x=none)(l:bootBuiltins x=some (.builtin id))(v:PA X (e::a) t)(n:x ≠ "__name__":=by decide)(d:(x == ("__debug__" : Str))=false:=by decide)
  (f:starEach (e::a) X.env=(false,eval e X.env)::starEach a X.env:=by rfl)(c:(backTo pos (starEach a X.env)).any (·.1)=false:=by rfl):PE X (.Call (.Name x p) (e::a) [] pos) (oq r t):=by
 intro b s σ H Q I h;refine He (iD I g q l ?_ n d);exact Ig (bc (v pos b s σ H _ I h) λm u z=>by obtain⟨j,o,w,k,y⟩:=z; exact i b u σ o j m Q w k y) f c
def uQ (i:CallR X (.type T) r)(g:Gl X x)(q:X.mg x=none)(l:bootBuiltins x=some (.type T))(v:PA X (e::a) t)(n:x ≠ "__name__":=by decide)(d:(x == ("__debug__" : Str))=false:=by decide)
  (f:starEach (e::a) X.env=(false,eval e X.env)::starEach a X.env:=by rfl)(c:(backTo pos (starEach a X.env)).any (·.1)=false:=by rfl):PE X (.Call (.Name x p) (e::a) [] pos) (oq r t):=by
 intro b s σ H Q I h;refine He (iD I g q l ?_ n d);exact Ho (bc (v pos b s σ H _ I h) λm u z=>by obtain⟨j,o,w,k,y⟩:=z; exact i b u σ o j m Q w k y) f c
end
end L2
namespace HT
open PySem PyProof.Rows
section
variable {a:Program}{w:World}{A:Around}{E:Value->Shared->Prop}{s:Shared}
def cat_tup (z:IsTup s.heap t f.toArray)(v:IsTup s.heap b c.toArray)(p:f≠[])
  (y:c=[]->Q (.ref t) s)(x:c≠[]->Q (.ref s.heap.objs.size) { s with heap:=s.heap.push { cls:=.type "tuple",data:=.seq (f++c).toArray } })
  (l:f.length+c.length<=sizeLine):wpAny (model a w) A (binaryOp .Add (.ref t) (.ref b)) Q E s:=by
 obtain⟨⟨cls,u,data,m⟩,k,o,n,hd⟩:=id z;obtain⟨⟨q,h,data2,sl2⟩,d,i,r,g⟩:=id v;simp only at o hd i g;subst o hd i g;have e:f.toArray++c.toArray=(f++c).toArray:=by simp
 by_cases j:c=[]
 .exact concat_meets ⟨_,k,rfl⟩ ⟨_,d,rfl⟩ noFill_tuple_add seq_tuple_add IW IT (IM _ _)
   (tuple_addW1 t b f.toArray c.toArray n r u h m sl2 (by simpa using p) (by simp[j])) ⟨k,d,y j⟩
 .refine concat_meets ⟨_,k,rfl⟩ ⟨_,d,rfl⟩ noFill_tuple_add seq_tuple_add IW IT (IM _ _)
   (tuple_addW2 t b f.toArray c.toArray n r u h m sl2 (by simpa using p) (by simpa using j) (by rw[GE,GE]; exact l)) ⟨k,d,?_⟩
  rw[e];exact x j
noncomputable def sIx (n d:Nat):Option Int->Nat
 | none=>d
 | some v=>if v<0 then (v+(n:Int)).toNat else min v.toNat n
def Ay (n d:Nat)(hd:d<=n)(o:Option Int):sIx n d o<=n:=by
 cases o with
 | none=>exact hd
 | some v=>
  show (if v<0 then (v+(n:Int)).toNat else min v.toNat n)<=n;by_cases b:v<0
  .rw[if_pos b]; omega
  .rw[if_neg b]; exact Nat.min_le_right _ _
def vz (v:Int)(n d:Nat):(if v<0 then max (v+(n:Int)) 0 else min v (n:Int))=((sIx n d (some v):Nat):Int):=by
 show (if v<0 then max (v+(n:Int)) 0 else min v (n:Int))=(((if v<0 then (v+(n:Int)).toNat else min v.toNat n):Nat):Int);by_cases b:v<0
 .simp only[if_pos b]; omega
 .simp only[if_neg b]; omega
def x3 (lo b:Option Int)(n:Nat):Builtin.Slice.sliceAdjust lo b 1 (n:Int)=(((sIx n 0 lo:Nat):Int),((sIx n n b:Nat):Int)):=by
 have c:¬((1:Int)<0):=by omega
 unfold Builtin.Slice.sliceAdjust;dsimp only[c,if_false];refine Prod.ext ?_ ?_
 .cases lo with
  | none=>rfl
  | some v=>exact vz v n 0
 .cases b with
  | none=>rfl
  | some v=>exact vz v n n
def A9 (i j:Nat):Builtin.Slice.slicePlaces (i:Int) (j:Int) 1=j - i:=by
 unfold Builtin.Slice.slicePlaces;have b:(1:Int) > 0:=by omega
 simp only[b,if_true,Int.ediv_one];split <;> omega
def vv (p:IsPart v o)(h:Q o s):wpAny (model a w) A (Builtin.Slice.slicePartIndex v) Q E s:=by
 cases p with
 | none=>exact slicePart_none h
 | int i t=>exact slicePart_int h
def sliceApplied_gen {g:Addr}{f e:Value}{lo b:Option Int}{n:Nat}{Q:Int×Int×Nat->Shared->Prop}(hs:s.heap.IsSliceOf g f e .none)(j:IsPart f lo)(k:IsPart e b)
  (h:Q (((sIx n 0 lo:Nat):Int),1,sIx n n b - sIx n 0 lo) s):wpAny (model a w) A (Builtin.Slice.sliceApplied (.ref g) (pure (n:Int))) Q E s:=by
 obtain⟨os,d,i,c⟩:=id hs;unfold Builtin.Slice.sliceApplied Builtin.Slice.sliceFields;refine aL (aL (HB d c (x:=f) rfl (aL (HB d c (x:=e) rfl (aL (HB d c (x:=.none) rfl (ba ?_)))))));refine aL (slicePart_none ?_);show wpAny _ _ (if ((1:Int) == 0)=true then _ else _) _ _ s;rw[if_neg (by decide)];refine aL (vv j (aL (vv k (aL (ba ?_)))));show wpAny _ _ (match Builtin.Slice.sliceAdjust lo b 1 (n:Int) with | (lo,b)=>pure (lo,(1:Int),Builtin.Slice.slicePlaces lo b 1)) _ _ s;rw[x3 lo b n];show wpAny _ _ (pure (((sIx n 0 lo:Nat):Int),(1:Int),Builtin.Slice.slicePlaces ((sIx n 0 lo:Nat):Int) ((sIx n n b:Nat):Int) 1)) _ _ s;rw[A9];exact ba h
def Ck (b:aB)(i k:Nat):((List.range k).filterMap λ(m:Nat)=>b[((i:Int)+(m:Int) * 1).toNat]?).toArray=((b.toList.drop i).take k).toArray:=by
 have e:(λ(m:Nat)=>b[((i:Int)+(m:Int) * 1).toNat]?)=λm=>b[i+m]?:=by
  funext m
  have:((i:Int)+(m:Int) * 1).toNat=i+m:=by omega
  rw[this]
 rw[e];have:=pick_run b i k;rw[List.filterMap_map] at this;have c:((λx=>b[x]?) ∘ λx=>i+x)=λm=>b[i+m]?:=rfl;rw[c] at this;rw[this]
def getItem_tuple_cut {t f:Addr}{items:aB}{l k:Value}{lo c:Option Int}{Q:Value->Shared->Prop}(d:IsTup s.heap t items)(hs:s.heap.IsSliceOf f l k .none)(o:IsPart l lo)(n:IsPart k c)
  (r:¬(sIx items.size 0 lo=0/\sIx items.size items.size c=items.size))
  (h:Q (.ref s.heap.objs.size) { s with heap:=s.heap.push { cls:=.type "tuple",data:=.seq ((items.toList.drop (sIx items.size 0 lo)).take (sIx items.size items.size c - sIx items.size 0 lo)).toArray } })
  (p:items.size<=sizeLine):wpAny (model a w) A (getItem (.ref t) (.ref f)) Q E s:=by
 have b:sizeOk (.seq ((items.toList.drop (sIx items.size 0 lo)).take (sIx items.size items.size c - sIx items.size 0 lo)).toArray):=by
  show ((items.toList.drop (sIx items.size 0 lo)).take (sIx items.size items.size c - sIx items.size 0 lo)).toArray.size<=sizeLine;rw[GE,HD,Ih,Array.length_toList];omega
 have y:sIx items.size items.size c<=items.size:=Ay _ _ (bA _) c;obtain⟨os,j,e,u⟩:=id hs;have g:s.TypeIs (.ref f) "slice":=⟨os,j,e⟩
 unfold getItem;try with_reducible refine H9 ?_
 first | refine aL (ba ?_) | skip
 refine aL (wpAny_sequenceKey d.typeIs (by decide) ?_);refine aL (wpAny_callSpecial?_slot (name:=Str.ofString "__getitem__") d.typeIs Hf
  (Hv Hf d.typeIs entry_tuple_getitem ?_ (args_tuple_getitem _ _)))
 show wpAny _ _ (Builtin.Tuple.tupleItemsOf (.ref t) >>= _) _ _ s;refine aL (tupleItemsOf_ d ?_);refine aL (wpAny_typeOf g ?_);rw[if_pos (by decide)];refine aL (sliceApplied_gen hs o n ?_);have i:¬((((sIx items.size 0 lo:Nat):Int) == 0&&(1:Int) == 1&&(sIx items.size items.size c - sIx items.size 0 lo) == items.size)=true):=by
  intro q;rw[tw,tw] at q;have x:((sIx items.size 0 lo:Nat):Int)=0:=eq_of_beq q.1.1;have v:sIx items.size items.size c - sIx items.size 0 lo=items.size:=eq_of_beq q.2;exact r ⟨by omega,by omega⟩
 show wpAny _ _ (if (((sIx items.size 0 lo:Nat):Int) == 0&&(1:Int) == 1&&(sIx items.size items.size c - sIx items.size 0 lo) == items.size)=true then _ else _) _ _ s;rw[if_neg i,Ck];first
  | exact aL (m:=Builtin.Tuple.tupleExact _) (G9 (ba ⟨_,rfl,ba h⟩) b)
  | exact aL (m:=Builtin.Tuple.tupleExact _) (G9 (aL (ba (ba ⟨_,rfl,ba h⟩))) b)
  | exact aL (aL (m:=Builtin.Tuple.tupleExact _) (G9 (ba (ba ⟨_,rfl,ba h⟩)) b))
  | exact aL (aL (m:=Builtin.Tuple.tupleExact _) (G9 (ba ⟨_,rfl,ba h⟩) b))
end
end HT
namespace L2
open PySem PySem.Spec PyProof.Rows
abbrev TO:=St->Hp->(Option Int->Hp->Prop)->Prop
def PO (X:Cx)(e:Option Expr)(t:TO):Prop:=
 ∀(a:ah) (s:Shared) (σ:St) (H:Hp) (Q:Option Int->Hp->Prop),Inv X a σ H s->t σ H Q ->
  wpAny (model X.prog X.w) X.A (evalPart e X.env) (λu c=>∃o b,Inv X a σ b c/\IsPart u o/\Q o b) X.xe s
def iN:TO:=λ_ H Q=>Q none H
def nB (t:TE):TO:=λσ H Q=>t σ H λx a=>∃i,x=.int i/\Q (some i) a
section
variable {X:Cx}{e:Expr}{c:TE}{lo hi:Option Expr}{f g:TO}{pos d:Pos}
def wA:PO X none iN:=by
 intro a s σ H Q I h;rw[evalPart_none];exact ba ⟨none,H,I,.none,h⟩
def oU (h:PE X e c):PO X (some e) (nB c):=by
 intro a s σ H Q I j;rw[evalPart_some];refine bc (h a s σ H _ I j) λu n z=>?_;obtain⟨x,k,l,b,m⟩:=z;obtain⟨i,rfl,q⟩:=m;obtain⟨t,rfl⟩:=b;exact⟨some i,k,l,.int i t,q⟩
def m8 (X:Cx)(r:V->Option Int->Option Int->Hp->VK->Prop):Prop:=
 ∀(a:ah) (s:Shared) (σ:St) (H:Hp) (x:V) (v i h:Value) (lo hi:Option Int) (b:Addr) (Q:VK),Inv X a σ H s->RelV x v->s.heap.IsSliceOf b i h .none->IsPart i lo->IsPart h hi->r x lo hi H Q ->
  ∃T id,typeLookup (.type T) "__getitem__" = pure (some (.builtin id))/\s.TypeIs v T/\wpAny (model X.prog X.w) X.A (getItem v (.ref b)) (EP X a σ Q) X.xe s
def By (r:V->Option Int->Option Int->Hp->VK->Prop)(c:TE)(f g:TO):TE:=λσ H Q=>c σ H λx b=>f σ b λl h=>g σ h λu a=>r x l u a Q
def rA (n:m8 X r)(o:PE X e c)(B:PO X lo f)(M:PO X hi g):PE X (.Subscript e (.Slice lo hi none d) pos) (By r c f g):=by
 intro a s σ H Q I h;refine Subscript_ (bc (o a s σ H _ I h) λv F z0=>?_);obtain⟨x,C,I1,U,G⟩:=z0;refine wpAny_Slice (bc (B a F σ C _ I1 G) λk L ⟨l,E,z,y,P⟩=>bc (M a L σ E _ z P) λj i z2=>?_);obtain⟨u,m,W,Z,p⟩:=z2;rw[evalPart_none];refine ba ?_;have Y:Inv X a σ m { i with heap:=i.heap.push { cls:=.type "slice",data:=.fields #[k,j,.none] } }:=W.kept (t':=i.toks) λb ob q=>cb _ q;obtain⟨T,id,t,J,N⟩:=n a { i with heap:=i.heap.push { cls:=.type "slice",data:=.fields #[k,j,.none] } } σ m x v k j l u i.heap.objs.size Q Y U (Heap.IsSliceOf.new ..) y Z p;show wpAny (model X.prog X.w) X.A (subscriptTail e (.Slice lo hi none d) v (.ref i.heap.objs.size)) (EP X a σ Q) X.xe { i with heap:=i.heap.push { cls:=.type "slice",data:=.fields #[k,j,.none] } };exact tail_any (ops:=[.ref i.heap.objs.size,v]) J t N (by with_unfolding_all rfl)
noncomputable def d6 (a:av)(lo hi:Option Int):av:=(a.drop (HT.sIx a.length 0 lo)).take (HT.sIx a.length a.length hi - HT.sIx a.length 0 lo)
def wv (a:av)(lo hi:Option Int):(d6 a lo hi).length<=a.length:=by
 unfold d6;rw[HD,Ih];omega
def pP (K:bh):V->Option Int->Option Int->Hp->VK->Prop:=λx lo hi H Q=>∃a b,x=.ref a/\SqT K H a b /\
 ¬(HT.sIx b.length 0 lo=0/\HT.sIx b.length b.length hi=b.length)/\∀p,H p=none->Q (.ref p) (upd H p (.tup (d6 b lo hi)))
def AD:m8 X (pP X.K):=by
 intro m s σ H x v C z lo hi B Q I t hs p y h;obtain⟨a,j,rfl,w,u,q⟩:=h;cases t;obtain⟨k,r,l,n⟩:=I.tuple w;have i:k.toArray.size=j.length:=by rw[GE]; exact r.length.symm
 refine⟨"tuple",_,Hf.lookup,l.typeIs,?_⟩;refine HT.getItem_tuple_cut l hs p y (by rw[i]; exact u) ?_ (by rw[i]; exact n);rw[i];refine⟨.ref s.heap.objs.size,_,I.laid (t':=s.toks) (o:=.tup (d6 j lo hi)) (λb A q=>cb _ q) (bA _) ?_,rfl,q _ (I.hok.fresh (bA _))⟩;exact⟨bC (wv j lo hi) n,_,(r.drop (HT.sIx j.length 0 lo)).take (HT.sIx j.length j.length hi - HT.sIx j.length 0 lo),TupN.new _ _⟩
def mF (K:bh):R2:=λx y H Q=>∃a b i h,x=.ref a/\y=.ref b/\SqT K H a i/\SqT K H b h/\i≠[]/\i.length+h.length<=sizeLine /\
 (h=[]->Q (.ref a) H)/\(h≠[]->∀p,H p=none->Q (.ref p) (upd H p (.tup (i++h))))
def Vals.nil_iff (r:Vals a b):b=[]↔a=[]:=by
 cases r with
 | nil=>simp
 | cons _ _=>simp
def zz:OpR X (binaryOp .Add) (mF X.K):=by
 intro l s σ H x y v u Q I r p h;obtain⟨a,b,G,t,rfl,rfl,A,E,J,m,C,F⟩:=h;cases r;cases p;obtain⟨n,j,B,_⟩:=I.tuple A;obtain⟨k,i,d,_⟩:=I.tuple E;refine HT.cat_tup B d (λz=>J (j.nil_iff.mp z)) (λz=>⟨.ref a,H,I,rfl,C (i.nil_iff.mp z)⟩) (λz=>?_) (by rw[<-j.length,<-i.length]; exact m);refine⟨.ref s.heap.objs.size,_,I.laid (t':=s.toks) (o:=.tup (G++t)) (λb L q=>cb _ q) (bA _) ?_,rfl,F (λw=>z (i.nil_iff.mpr w)) _ (I.hok.fresh (bA _))⟩;exact⟨by rw[GQ]; exact m,_,j.append i,TupN.new _ _⟩
end
noncomputable def ka (n:Nat)(i:Int):aC:=if 0<=i then (if i<n then some i.toNat else none) else if -(n:Int)<=i then some (i+n).toNat else none
noncomputable def ki {α:Type}(a:List α)(i:Int):Option α:=(ka a.length i).bind λj=>a[j]?
def vp (h:ka n i=some j):seqIndex? i n=some j/\j<n /\ -(n:Int)<=i/\i<n:=by
 unfold ka at h;by_cases b:0<=i
 .rw[if_pos b] at h;by_cases a:i<n
  .rw[if_pos a] at h;have e:i.toNat=j:=cm h;exact⟨by rw[seqIndex_of b a,e],by omega,by omega,a⟩
  .rw[if_neg a] at h; cases h
 .rw[if_neg b] at h;by_cases a : -(n:Int)<=i
  .rw[if_pos a] at h;have e:(i+n).toNat=j:=cm h;exact⟨by rw[seqIndex_neg (by omega) a,e],by omega,a,by omega⟩
  .rw[if_neg a] at h; cases h
def vb (h:ki a i=some v):∃j,seqIndex? i a.length=some j/\a[j]? = some v/\j<a.length /\ -(a.length:Int)<=i/\i<a.length:=by
 unfold ki at h;cases e:ka a.length i with
 | none=>rw[e] at h; cases h
 | some j=>
  rw[e] at h;obtain⟨f,d,c,b⟩:=vp e;exact⟨j,f,h,d,c,b⟩
def fW (b:Expr):Prop:=∀o i,subscripted b false o i=operate [o,i] (getItem o i)
def oK (X:Cx)(r:R2):Prop:=
 ∀(value slice:Expr) (a:ah) (s:Shared) (σ:St) (H:Hp) (x y:V) (v u:Value) (Q:VK),Inv X a σ H s->RelV x v->RelV y u->r x y H Q ->
  subscripted slice false v u=operate [v,u] (getItem v u)->wpAny (model X.prog X.w) X.A (subscriptTail value slice v u) (EP X a σ Q) X.xe s
def pF (X:Cx)(id:String)(r:V->av->Hp->VK->Prop):Prop:=
 ∀(a:ah) (s:Shared) (σ:St) (H:Hp) (x:V) (b:av) (v:Value) (c:ao) (Q:VK),Inv X a σ H s->RelV x v->Vals b c->r x b H Q ->
  wpAny (model X.prog X.w) X.A (call (.builtin id) (v::c)) (EP X a σ Q) X.xe s
section
variable {X:Cx}{a b:Expr}{C E:TE}{pos:Pos}
def oI (d:oK X r)(l:PE X a C)(p:PE X b E)(hs:fW b):PE X (.Subscript a b pos) (jg r C E):=by
 intro c s σ H Q I h;exact Subscript_ (jO l p I h λv u n x y k i j f q=>d a b c n σ k x y v u Q i j f q (hs _ _))
def kQ (K:bh):R2:=λx y H Q=>∃p c i v,x=.ref p/\y=.int i/\SqL K H p c/\ki c i=some v/\Q v H
def rP (K:bh):R2:=λx y H Q=>∃p c i v,x=.ref p/\y=.int i/\SqT K H p c/\ki c i=some v/\Q v H
def pk:oK X (kQ X.K):=by
 intro value slice c s σ H x y v u Q I L J h hs;obtain⟨p,xs,i,z,rfl,rfl,M,G,q⟩:=h;cases L;obtain⟨t,rfl⟩:=J;obtain⟨f,r,k,hz⟩:=I.list M;obtain⟨j,d,U,h3,W,Y⟩:=vb G;obtain⟨w,A,n⟩:=r.get U;have P:=r.length;have Z:=eT;have fin:EP X c σ Q w s:=⟨z,H,I,n,q⟩
 by_cases F:0<=i
 .have l:i.toNat=j:=by
   rw[seqIndex_of F Y] at d;exact cm d
  exact item_listR k.isList F (by omega) (by rw[l]; simpa using A) fin hs
 .have l:(i+(f.toArray.size:Int)).toNat=j:=by
   rw[seqIndex_neg (by omega) W] at d;rw[GE,<-P];exact cm d
  exact subscriptTail_builtinR (x:=w) k.isList.typeIs slot_list_getitem.lookup
   (wpAny_getItem_list_neg (Q:=λr N=>r=w/\EP X c σ Q r N) k.isList (by omega) (by rw[GE] <;> omega) (by omega) (by rw[l]; simpa using A) ⟨rfl,fin⟩) hs
def Fw:oK X (rP X.K):=by
 intro value slice c s σ H x y v u Q I F n h hs;obtain⟨p,Z,i,z,rfl,rfl,G,l,q⟩:=h;cases F;obtain⟨t,rfl⟩:=n;obtain⟨k,r,f,hz⟩:=I.tuple G;obtain⟨j,N,M,W,U,Y⟩:=vb l;obtain⟨w,A,d⟩:=r.get M;have L:=r.length;have P:=eT;have fin:EP X c σ Q w s:=⟨z,H,I,d,q⟩
 exact subscriptTail_builtinR (x:=w) f.typeIs slot_tuple_getitem.lookup
  (getItem_tuple (j:=j) (Q:=λr J=>r=w/\EP X c σ Q r J) f (by omega) (by omega) (by rw[GE,<-L]; exact N) (by simpa using A) ⟨rfl,fin⟩) hs
def E4 (c:ao)(n j:Nat)(u:Value):Obj.mapSeq (·.setIfInBounds j u) { cls:=.type "list",data:=.seq c.toArray n }={ cls:=.type "list",data:=.seq (c.set j u).toArray n }:=by
 simp[Obj.mapSeq]
theorem Inv.lst (I:Inv X d σ H s)(h:H p=some (.lst xs)) :
  ∃(c:ao) (n:Nat),Vals xs c/\s.heap.get? p=some { cls:=.type "list",data:=.seq c.toArray n }/\xs.length<=sizeLine:=by
 obtain⟨z,c,n,r,e⟩:=I.hok p _ h;exact⟨c,n,r,e,z⟩
def Inv.lstUpd {d:ah}{σ:St}{H:Hp}{s:Shared}{p:Addr}{w j:av}{i c:ao}{n k:Nat}{f:Obj->Obj}(I:Inv X d σ H s)(h:H p=some (.lst w))
  (y:s.heap.get? p=some { cls:=.type "list",data:=.seq i.toArray n })(l:f { cls:=.type "list",data:=.seq i.toArray n }={ cls:=.type "list",data:=.seq c.toArray k })(r:Vals j c)(z:j.length<=sizeLine)(t:Nat) :
  Inv X d σ (upd H p (.lst j)) { s with heap:=s.heap.update p f,toks:=t }:=by
 have e:(s.heap.update p f).get? p=some { cls:=.type "list",data:=.seq c.toArray k }:=by
  rw[HC f y (by rw[l] <;> rfl),l]
 refine I.write (x:=p) (e:=p) (by rw[h]; trivial) (.inl rfl) (λb u v q=>(HM _ _ (Ij v)).trans q) ⟨_,e⟩ ?_;exact⟨z,c,k,r,e⟩
def l8:V->V->V->Hp->(Hp->Prop)->Prop:=λo i v H Q=>∃p c k j,o=.ref p/\i=.int k/\H p=some (.lst c)/\ka c.length k=some j/\Q (upd H p (.lst (c.set j v)))
def set_list:qC X l8:=by
 intro d s σ H o i v ov iv u Q I N L J h;obtain⟨p,M,k,j,rfl,rfl,z,P,q⟩:=h;cases N;obtain⟨t,rfl⟩:=L;obtain⟨c,n,r,x,U⟩:=I.lst z;obtain⟨f,Y,F,A⟩:=vp P;have l:=r.length;have Z:=eT;have y:Inv X d σ (upd H p (.lst (M.set j v))) { s with heap:=s.heap.update p (Obj.mapSeq (·.setIfInBounds j u)) }:=
  I.lstUpd z x (E4 c n j u) (r.set J j) (by rw[GX]; exact U) s.toks
 by_cases G:0<=k
 .have w:k.toNat=j:=by
   rw[seqIndex_of G A] at f;exact cm f
  exact PySem.W.ki_setAt x G (by omega) (by rw[GE,<-l]; exact A) (by rw[w]; exact⟨_,y,q⟩)
 .have w:(k+(c.toArray.size:Int)).toNat=j:=by
   rw[seqIndex_neg (by omega) F] at f;rw[GE,<-l];exact cm f
  exact PySem.W.ki_setBack x (by omega) (by rw[GE,<-l]; exact F) (by omega) (by rw[w]; exact⟨_,y,q⟩)
def Ga (lo c:Option Int)(n:Nat):(sliceBounds lo c none n).1=((HT.sIx n 0 lo:Nat):Int)/\(sliceBounds lo c none n).2.1=((HT.sIx n n c:Nat):Int)/\(sliceBounds lo c none n).2.2=1:=by
 refine⟨?_,?_,rfl⟩
 .cases lo with
  | none=>simp[sliceBounds,HT.sIx]
  | some i=>
   dsimp only[sliceBounds,HT.sIx,Option.getD_none,show (1:Int) > 0 by decide,if_true];by_cases h:i<0
   .simp only[h,if_true] <;> omega
   .simp only[h,if_false] <;> omega
 .cases c with
  | none=>simp[sliceBounds,HT.sIx]
  | some i=>
   dsimp only[sliceBounds,HT.sIx,Option.getD_none,show (1:Int) > 0 by decide,if_true];by_cases h:i<0
   .simp only[h,if_true] <;> omega
   .simp only[h,if_false] <;> omega
def yT (c:ao)(lo d:Option Int):slicePick c.toArray lo d none=((c.drop (HT.sIx c.length 0 lo)).take (HT.sIx c.length c.length d - HT.sIx c.length 0 lo)).toArray:=by
 obtain⟨h,f,i⟩:=Ga lo d c.toArray.size;unfold slicePick;rw[h,f,i];simp only[sliceRange_one,pick_run,GE] <;> rfl
def qk (K:bh):V->Option Int->Option Int->Hp->VK->Prop:=λx lo d H Q=>∃a c,x=.ref a/\SqL K H a c/\∀p,H p=none->Q (.ref p) (upd H p (.lst (d6 c lo d)))
def yG:m8 X (qk X.K):=by
 intro j s σ H x v F y lo f A Q I n hs l u h;obtain⟨a,c,rfl,p,q⟩:=h;cases n;obtain⟨k,r,i,w⟩:=I.list p;have d:=r.length;refine⟨"list",_,slot_list_getitem.lookup,i.isList.typeIs,?_⟩;refine wpAny_getItem_list_slice i.isList hs l u .none (by simp) ?_ (by rw[GE] <;> omega);rw[yT,<-d];refine⟨.ref s.heap.objs.size,_,I.laid (t':=s.toks) (o:=.lst (d6 c lo f)) (λb z q=>cb _ q) (bA _) ?_,rfl,q _ (I.hok.fresh (bA _))⟩;exact⟨bC (wv c lo f) w,_,0,(r.drop (HT.sIx c.length 0 lo)).take (HT.sIx c.length c.length f - HT.sIx c.length 0 lo),dH _ rfl⟩
noncomputable def flatV:V->Bool
 | .non=>true
 | .bl _=>true
 | .int _=>true
 | .str _=>true
 | _=>false
noncomputable def eqV:V->V->Bool
 | .non,.non=>true
 | .bl a,.bl b=>a == b
 | .bl a,.int b=>(if a then 1 else 0) == b
 | .int a,.bl b=>a == (if b then 1 else 0)
 | .int a,.int b=>a == b
 | .str a,.str b=>a == b
 | _,_=>false
def C8 (ry:RelV y u)(rx:RelV x v)(fy:flatV y=true)(fx:flatV x=true):SeqAt.EqAt A s u v (eqV y x):=by
 cases y with
 | non=>
  cases ry;cases x with
  | non=>cases rx; exact SeqAt.EqAt.same _
  | bl b=>cases rx; exact SeqAt.EqAt.none_bool b
  | int b=>obtain⟨t,rfl⟩:=rx; exact SeqAt.EqAt.none_int b t
  | str b=>obtain⟨t,rfl⟩:=rx; exact SeqAt.EqAt.none_str b t
  | _=>exact absurd (show false=true from fx) Hb
 | bl a=>
  cases ry;cases x with
  | non=>cases rx; exact SeqAt.EqAt.bool_none a
  | bl b=>cases rx; exact SeqAt.EqAt.bool_bool a b
  | int b=>obtain⟨t,rfl⟩:=rx; exact SeqAt.EqAt.bool_int a b t
  | str b=>obtain⟨t,rfl⟩:=rx; exact SeqAt.EqAt.bool_str a b t
  | _=>exact absurd (show false=true from fx) Hb
 | int a=>
  obtain⟨f,rfl⟩:=ry;cases x with
  | non=>cases rx; exact SeqAt.EqAt.int_none a f
  | bl b=>cases rx; exact SeqAt.EqAt.int_bool a f b
  | int b=>obtain⟨t,rfl⟩:=rx; exact SeqAt.EqAt.int_int a f b t
  | str b=>obtain⟨t,rfl⟩:=rx; exact SeqAt.EqAt.int_str a f b t
  | _=>exact absurd (show false=true from fx) Hb
 | str a=>
  obtain⟨f,rfl⟩:=ry;cases x with
  | non=>cases rx; exact SeqAt.EqAt.str_none a f
  | bl b=>cases rx; exact SeqAt.EqAt.str_bool a f b
  | int b=>obtain⟨t,rfl⟩:=rx; exact SeqAt.EqAt.str_int a f b t
  | str b=>obtain⟨t,rfl⟩:=rx; exact SeqAt.EqAt.str_str a f b t
  | _=>exact absurd (show false=true from fx) Hb
 | _=>exact absurd (show false=true from fy) Hb
noncomputable def eY (x:V)(u:Value):Bool:=match u with
 | .none=>eqV .non x
 | .bool b=>eqV (.bl b) x
 | .int i _=>eqV (.int i) x
 | .str z _=>eqV (.str z) x
 | _=>false
def oH (r:RelV y u)(f:flatV y=true):eY x u=eqV y x:=by
 cases y with
 | non=>cases r; rfl
 | bl b=>cases r; rfl
 | int i=>obtain⟨t,rfl⟩:=r; rfl
 | str z=>obtain⟨t,rfl⟩:=r; rfl
 | _=>exact absurd (show false=true from f) Hb
def nV:∀{c:av} {d:ao},Vals c d->c.all flatV=true->d.any (eY x)=c.any λy=>eqV y x:=by
 intro _ _ h;induction h with
 | nil=>exact λ_=>rfl
 | cons r t O=>
  intro f;rw[List.all_cons,tw] at f;rw[List.any_cons,List.any_cons,oH r f.1,O f.2]
theorem j9 (rx:RelV x v)(fx:flatV x=true):∀{xs:av} {us:ao},Vals xs us->xs.all flatV=true->∀u∈us,SeqAt.EqAt A s u v (eY x u)
 | _,_,.nil,_=>λu c=>by cases c
 | y::xs,u::us,.cons r t,f=>λl c=>by
  rw[List.all_cons,tw] at f;rcases ck c with rfl | c
  .rw[oH r f.1]; exact C8 r rx f.1 fx
  .exact j9 rx fx t f.2 l c
noncomputable def inV (x:V)(c:av):Bool:=c.any λy=>eqV y x
def rc (K:bh)(neg:Bool):R2:=λx y H Q=>∃p c,y=.ref p/\(SqL K H p c\/SqT K H p c)/\flatV x=true/\c.all flatV=true/\Q (.bl (if neg then !inV x c else inV x c)) H
def CY:OpR X (compareOp .In) (rc X.K false):=by
 intro n s σ H x y v u Q I l z h;obtain⟨p,F,rfl,d,k,f,q⟩:=h;cases z;rcases d with d | d
 .obtain⟨c,r,i,A⟩:=I.list d;refine SeqAt.in_listAt (eY x) i.isList (λw j=>j9 l k r f w (by simpa using j)) ⟨.bl _,H,I,rfl,?_⟩;rw[show c.toArray.any (eY x)=c.any (eY x) by simp,nV r f];exact q
 .obtain⟨c,r,i,A⟩:=I.tuple d;refine SeqAt.in_tupleAt (eY x) i (λw j=>j9 l k r f w (by simpa using j)) ⟨.bl _,H,I,rfl,?_⟩;rw[show c.toArray.any (eY x)=c.any (eY x) by simp,nV r f];exact q
def yJ:OpR X (compareOp .NotIn) (rc X.K true):=by
 intro n s σ H x y v u Q I l z h;obtain⟨p,F,rfl,d,k,f,q⟩:=h;cases z;rcases d with d | d
 .obtain⟨c,r,i,A⟩:=I.list d;refine SeqAt.notIn_listAt (eY x) i.isList (λw j=>j9 l k r f w (by simpa using j)) ⟨.bl _,H,I,rfl,?_⟩;rw[show c.toArray.any (eY x)=c.any (eY x) by simp,nV r f];exact q
 .obtain⟨c,r,i,A⟩:=I.tuple d;refine SeqAt.notIn_tupleAt (eY x) i (λw j=>j9 l k r f w (by simpa using j)) ⟨.bl _,H,I,rfl,?_⟩;rw[show c.toArray.any (eY x)=c.any (eY x) by simp,nV r f];exact q
def yO:CallR X (.builtin "len") (λl H Q=>∃p d,l=[.ref p]/\(SqL X.K H p d\/SqT X.K H p d)/\Q (.int d.length) H):=by
 intro n s σ H l x Q I r h;obtain⟨p,d,rfl,f,q⟩:=h;obtain⟨u,rfl,v⟩:=vals1 r;cases v;have y:=eT;rcases f with f | f
 .obtain⟨i,j,k,w⟩:=I.list f;have c:=j.length;exact Calls.call_len_list k.isList (by simp only[GE] <;> omega) ⟨.int d.length,H,I.tok _,⟨s.toks+1,by rw[GE,c]⟩,q⟩
 .obtain⟨i,j,k,w⟩:=I.tuple f;have c:=j.length;exact len_tuple k (by simp only[GE] <;> omega) ⟨.int d.length,H,I.tok _,⟨s.toks+1,by rw[GE,c]⟩,q⟩
def yi:CallR X (.type "list") (λJ H Q=>∃p j,J=[.ref p]/\(SqL X.K H p j\/SqT X.K H p j)/\∀l,H l=none->Q (.ref l) (upd H l (.lst j))):=by
 intro y s σ H J N Q I r h;obtain⟨p,j,rfl,k,q⟩:=h;obtain⟨u,rfl,M⟩:=vals1 r;cases M;have fin:∀(c:ao),Vals j c->j.length<=sizeLine->∀(d:Heap) (i:Nat),(∀b L,s.heap.get? b=some L->d.get? b=some L) ->
   d.get? s.heap.objs.size=some { cls:=.type "list",dict:=none,data:=.seq c.toArray i,slots:=#[] }->EP X y σ Q (.ref s.heap.objs.size) { s with heap:=d }:=λc f z d i x e=>
  ⟨.ref s.heap.objs.size,_,I.laid (t':=s.toks) x (bA _) (show ObjOk X.prog X.w _ d _ (.lst j) from ⟨z,c,i,f,e⟩),rfl,q _ (I.hok.fresh (bA _))⟩
 rcases k with k | k
 .obtain⟨c,f,A,z⟩:=I.list k;have v:=f.length;obtain⟨o,G,F,n,hd⟩:=A.isList;exact call_list_seq p (.inl rfl) G F hd (λd i x e=>fin c f z d i x e) (by simp only[GE] <;> omega)
 .obtain⟨c,f,A,z⟩:=I.tuple k;have v:=f.length;obtain⟨o,G,F,n,hd⟩:=A;exact call_list_seq p (.inr rfl) G F hd (λd i x e=>fin c f z d i x e) (by simp only[GE] <;> omega)
def AJ:CallR X (.type "tuple") (λx H Q=>∃p f,x=[.ref p]/\((SqL X.K H p f/\∀l,H l=none->Q (.ref l) (upd H l (.tup f)))\/(SqT X.K H p f/\Q (.ref p) H))):=by
 intro c s σ H x J Q I r h;obtain⟨p,f,rfl,h⟩:=h;obtain⟨u,rfl,F⟩:=vals1 r;cases F;rcases h with ⟨n,q⟩ | ⟨n,q⟩
 .obtain⟨d,j,k,y⟩:=I.list n;have v:=j.length;refine call_tuple_list k.isList (λi G=>?_) (by simp only[GE] <;> omega);have z:Inv X c σ H { s with heap:=i }:=I.kept (t':=s.toks) G;have A:Inv X c σ (upd H i.objs.size (.tup f)) { s with heap:=i.push { cls:=.type "tuple",data:=.seq d.toArray } }:=
   z.laid (t':=s.toks) (λb o e=>cb _ e) (bA _) (show ObjOk X.prog X.w _ _ _ (.tup f) from ⟨y,d,j,TupN.new _ _⟩)
  exact⟨.ref i.objs.size,_,A,rfl,q _ (z.hok.fresh (bA _))⟩
 .obtain⟨d,j,k,y⟩:=I.tuple n;exact call_tuple_same k ⟨.ref p,H,I,rfl,q⟩
def tyV (K:bh)(T:String)(x:V)(H:Hp):Prop:=match x with
 | .str _=>T = "str"
 | .int _=>T = "int"
 | .ref p=>(T = "list" /\ ∃d,SqL K H p d)\/(T = "tuple" /\ ∃d,SqT K H p d) \/
   (T = "dict" /\ ((∃c,H p=some (.dK c))\/∃c,H p=some (.dT c)))\/(T = "set" /\ ∃S n,H p=some (.set S n))
 | _=>False
def E5 (I:Inv X w σ H s)(r:RelV x v)(ty:tyV X.K T x H) :
  s.TypeIs v T/\∀a,v=.ref a->∃u,s.heap.get? a=some u/\u.dict=none:=by
 cases x with
 | str z=>
  obtain⟨t,rfl⟩:=r;cases (show T = "str" from ty);exact⟨typeIs_str s z t,λ_ e=>nomatch e⟩
 | int i=>
  obtain⟨t,rfl⟩:=r;cases (show T = "int" from ty);exact⟨typeIs_int s i t,λ_ e=>nomatch e⟩
 | ref p=>
  cases r;rcases ty with ⟨rfl,y,k⟩ | ⟨rfl,y,k⟩ | ⟨rfl,f⟩ | ⟨rfl,S,n,f⟩
  .obtain⟨j,_,q,_⟩:=I.list k;refine⟨q.isList.typeIs,λa e=>?_⟩;cases e;obtain⟨o,n,e,c,hd,_⟩:=q;exact⟨o,e,hd⟩
  .obtain⟨j,_,⟨o,e,c,_,d⟩,_⟩:=I.tupN k;refine⟨⟨o,e,c⟩,λa h=>?_⟩;cases h;exact⟨o,e,d⟩
  .have z:∃o,s.heap.get? p=some o/\o.ExactDict:=by
    rcases f with ⟨l,f⟩ | ⟨l,f⟩
    .obtain⟨_,_,_,_,o,_,_,e,ex,_⟩:=I.hok p _ f;exact⟨o,e,ex⟩
    .obtain⟨_,_,_,_,o,_,_,e,ex,_⟩:=I.hok p _ f;exact⟨o,e,ex⟩
   obtain⟨o,e,ex⟩:=z;refine⟨⟨o,e,ex.1⟩,λa h=>?_⟩;cases h;exact⟨o,e,ex.2.1⟩
  .obtain⟨o,_,_,_,e,ex,_⟩:=I.hok p _ f;refine⟨⟨o,e,ex.1⟩,λa h=>?_⟩;cases h;exact⟨o,e,ex.2.1⟩
 | _=>exact False.elim ty
def gN (K:bh)(T:String)(r:V->av->Hp->VK->Prop)(B:TE)(t:TA):TE:=λσ H Q=>B σ H λx c=>tyV K T x c/\t σ c λd f=>r x d f Q
variable {o e:Expr}{m:au}{B:TE}{t:TA}{name:Str}{apos g:Pos}{T id:String}{r:V->av->Hp->VK->Prop}
def kO (J:PlainAttrs T)(slot:Slot T name id)(k:typeOf (.builtin id)=pure (.type "method_descriptor"))(W:pF X id r)(F:PE X o B)(y:PA X (e::m) t)
  (f:attributeBase o name X.env (eval o X.env)=eval o X.env:=by rfl)
  (j:((backTo g (starEach (e::m) X.env)).all (λx=>!x.1)&&(backToKw g (keywordEach [] X.env)).all (λx=>x.1.isSome)
   && decide ((e::m).length+([]:List Keyword).length+(if ([]:List Keyword).isEmpty then 0 else 1)<30))=true:=by rfl)
  (i:(apos.endLine == g.line)=true:=by rfl)(hs:starEach (e::m) X.env=(false,eval e X.env)::starEach m X.env:=by rfl)(d:(backTo g (starEach m X.env)).any (·.1)=false:=by rfl) :
  PE X (.Call (.Attribute o name apos) (e::m) [] g) (gN X.K T r B t):=by
 intro c s σ H Q I h;refine wpAny_Call_method_late f j i rfl (bc (F c s σ H _ I h) λv w b=>?_);obtain⟨x,u,n,p,ty,z⟩:=b;obtain⟨Y,L⟩:=E5 n p ty;refine⟨T,id,J,slot,k,Y,L,?_⟩;have l:=y g c w σ u _ n z;rw[hs] at l ⊢;refine Calls.callWith_builtin (by show (false||(backTo g (starEach m X.env)).any (·.1))=false; rw[d] <;> rfl) (Calls.evalArgs_plain ?_);exact bc l λq P a=>by obtain⟨U,N,G,M,A⟩:=a; exact W c P σ N x U v q Q G p M A
end
def n5 (X:Cx)(id:String)(r:V->av->Hp->VK->Prop):Prop:=
 ∀(a:ah) (s:Shared) (σ:St) (H:Hp) (x:V) (b:av) (v:Value) (c:ao) (Q:VK),Inv X a σ H s->RelV x v->Vals b c->r x b H Q ->
  wpAny (model X.prog X.w) X.A (call (.builtin id) (v::c)) (EP X a σ Q) X.xe s
def Vals.one:∀{x:V} {a:ao},Vals [x] a->∃u,a=[u]/\RelV x u:=by
 intro _ _ h;cases h with | cons r t=>cases t; exact⟨_,rfl,r⟩
theorem Vals.eraseIdx:∀{a:av} {b:ao} (i:Nat),Vals a b->Vals (a.eraseIdx i) (b.eraseIdx i)
 | _,_,_,.nil=>.nil
 | _,_,0,.cons _ t=>t
 | _,_,i+1,.cons r t=>.cons r (Vals.eraseIdx i t)
theorem Vals.reverse (h:Vals a b):Vals a.reverse b.reverse:=by
 induction h with
 | nil=>exact .nil
 | cons r t c=>rw[IX,IX]; exact Vals.append c (.cons r .nil)
theorem sS:∀(l:List α) (i:Nat),(l.eraseIdx i).length<=l.length
 | [],_=>bA _
 | _::_,0=>HA _
 | _::r,i+1=>Nat.succ_le_succ (sS r i)
section
variable {X:Cx}{a:ah}{σ:St}{H:Hp}{s:Shared}{l b:Addr}{c ys d:av}
def Inv.lset {g its':ao}{n:Nat}{f:aB->aB}{t':Nat}(I:Inv X a σ H s)(k:H l=some (.lst c))
  (e:s.heap.get? l=some { cls:=.type "list",data:=.seq g.toArray n })(h:f g.toArray=its'.toArray)(m:Vals ys its')(o:ys.length<=sizeLine) :
  Inv X a σ (upd H l (.lst ys)) { s with heap:=s.heap.update l (Obj.mapSeq f),toks:=t' }:=by
 have q:=PySem.IsL.update e f;rw[h] at q;refine I.write (x:=l) (e:=l) (by rw[k]; exact trivial) (.inl rfl) (λp u j i=>(HM s.heap (Obj.mapSeq f) (Ij j)).trans i) ⟨_,q⟩ ?_;exact⟨o,its',_,m,q⟩
def Inv.lstM (I:Inv X a σ H s)(g:H l=some (.lst c)):c.length<=sizeLine/\∃(f:ao) (n:Nat),Vals c f/\c.length=f.length/\s.heap.get? l=some { cls:=.type "list",data:=.seq f.toArray n }:=by
 obtain⟨z,f,n,r,e⟩:=I.hok l _ g;exact⟨z,f,n,r,r.length,e⟩
def Dr (h:n<=sizeLine):Builtin.List.listTooLong n=false:=by
 unfold Builtin.List.listTooLong;exact HG (by omega)
end
section
variable {X:Cx}
def gj:V->av->Hp->VK->Prop:=λx b H Q=>∃l a y,x=.ref l/\b=[y]/\H l=some (.lst a)/\a.length<sizeLine/\Q .non (upd H l (.lst (a++[y])))
def pR:n5 X "list.append" gj:=by
 intro c s σ H x k v j Q I f g h;obtain⟨l,m,y,rfl,rfl,b,o,q⟩:=h;cases f;obtain⟨u,rfl,d⟩:=g.one;obtain⟨z,a,n,r,i,e⟩:=I.lstM b;refine JA F.slot_list_append ⟨_,e,rfl⟩ F.entry_list_append (F.args_list_append_2 _ _) (PySem.list_append l a.toArray n u (by rw[GE]; omega)) ⟨e,?_⟩;refine⟨.non,_,I.lset (its':=a++[u]) b e (by simp) (r.append (.cons d .nil)) ?_,rfl,q⟩;rw[GQ,List.length_singleton];omega
end
end L2
namespace Att
open PySem PySem.W PySem.Calls PyProof.Rows
def xR:∀(ns:ak) (vs:ao),WellAll P h vs (ns.map WData.int)->IntsAre vs ns:=by
 intro ns;induction ns with
 | nil=>
  intro vs w;rw[List.map_nil] at w;cases w;exact .nil
 | cons n ns e=>
  intro vs w;rw[GM] at w;cases w with
  | cons a b=>
   cases a;exact .cons _ _ (e _ b)
def y9 {l:OpenLaw}{n:Nat}(v:l.most=some n){P:Params}{h:Heap}{args:List WData}{e:ao}
  (c:l.row.toRowW.claim.pre args=true)(m:WellAll P h e args) :
  ∃a p b,e=[Value.ref a]/\args=[WData.list (b.map WData.int)]/\h.get? a=some { cls:=.type "list",data:=.seq p.toArray }/\IntsAre p b/\b.length<=n:=by
 have k:WShape.hasAll [] args [.list .int]=true:=(pre_splitW c).1;have o:l.pre.holds [] { args:=args }=true:=(pre_splitW c).2;obtain⟨d,r,rfl,y,w⟩:=hasAllW_cons k;obtain rfl:=hasAllW_nil w;obtain⟨A,rfl,t⟩:=hasW_list y;obtain⟨b,rfl⟩:=items_int t;have g:b.length<=n:=by
  unfold OpenLaw.pre at o;have i:(WTm.not (.lt (.lit (.int (n:Int))) (.len (.arg 0)))).holds [] { args:=[.list (b.map .int)] }=true:=by
   have i:=(holds_andW o).1;rw[v] at i;exact i
  have j:=condW_of i (w_not (w_lt w_lit (w_len_list (w_arg rfl))));rw[GH] at j;refine Nat.le_of_not_lt λq=>?_;have u:(n:Int)<((b.length:Nat):Int):=by omega
  first
   | (rw[GZ u] at j; exact absurd j (by decide))
   | (simp at j; omega)
 cases m with
 | cons s x=>
  cases x;cases s with
  | list z f=>exact⟨_,_,b,rfl,rfl,z,xR b _ f,g⟩
def BE (l:OpenLaw)(args:List WData):l.row.toRowW.claim.post args (.bool true) args=true:=
 postW_of (r:=l.row.toRowW) (X:=(true == true))
  (show WShape.has [] (.bool true) .bool=true by first | rfl | decide | simp[WShape.has,WShape.arms,WShape.armsAll])
  (show (WTm.eq .res (.lit (.bool true))).value [] { args:=args,res:=some (.bool true),after:=args }=some (.bool (true == true)) from w_eq_bool (w_res rfl) w_lit) rfl
def attach_call {l:OpenLaw}{n:Nat}{q:Program}{e:ar}{C:(Str->aA)->Heap->Prop}{H:World->Heap->Prop}{d:DefRec}
  (T:l.most=some n)(x:d.params.defaults=[])
  (call:∀(w:World) (c b:Shared) (v A:Str->aA) (p:Addr) (o:Obj) (pm t h:Value) (a:Addr) (i:ao) (s:ak),
   Ground q e [] C w c v A b.heap->H w b.heap ->
   b.heap.get? p=some o->o.data=.func (docDef d.name d.params d.body d.scope pm t h)->b.heap.CodeRec t d.name->v d.name=some (.ref p) ->
   b.heap.get? a=some { cls:=.type "list",data:=.seq i.toArray }->IntsAre i s->s.length<=n->b.gens = #[] ->
   codeAny (model l.prog w) callerA (.call (.ref p) ⟨[.ref a],[]⟩) (λr u=>r=.ok (.ret (.bool true))/\OldK b.heap u.heap/\u.os=b.os/\AllBare u.gens) b) :
  WalkO q e C H l.row.toRowW d [] (λf i=>PySem.call f i):=by
 intro w c b v A G Y p o pm t h L kV P hd B E z W args F as m I X y J;obtain rfl:L=.none:=Dflts.none E x;obtain rfl:kV=.none:=Dflts.noKw E;obtain⟨a,i,s,rfl,rfl,k,g,j⟩:=y9 T m y;refine enter_call (IG (call w c b v A p o pm t h a i s G Y P (fd_plain hd) B z k g j W) λr u Q=>?_);obtain⟨rfl,U,N,M⟩:=Q;exact⟨.inl ⟨.bool true,.bool true,[],rfl,λ_=>rfl,.bool true,BE l _,λ_=>⟨List.Pairwise.nil,λ_ Z=>(nomatch Z)⟩⟩,U,N,M⟩
end Att
namespace L2
open PySem PySem.Spec PyProof.Rows
def Ca:∀{b:ao} {a:ak},IntsAre b a->Vals (a.map V.int) b:=by
 intro _ _ hZ;induction hZ with
 | nil=>exact .nil
 | cons n t h O=>exact .cons ⟨t,rfl⟩ (O)
def iS (H:Hp):Prop:=∀b,H b=none\/∃o a,H b=some (.frz o (.lst a))
def tE {P:Program}{w:World}{K:bh}{mg mb:Str->aA}{CX:gG}{k:Nat}{fa a:Addr}{fd:FuncData}{x:Str}{sp:Sp}{s₁:Shared}{vs:ao}{ns:ak}
  (KX:K.In s₁.heap)(hns:s₁.heap.Ns mainGlobals mg)(hb:s₁.heap.Ns builtinsNs mb)(hbb:∀x:Str,x ≠ "__name__" -> mb x=bootBuiltins x)(hlim:s₁.heap.NoLimit)(hg:s₁.gens = #[])
  (ha:s₁.heap.get? a=some { cls:=.type "list",data:=.seq vs.toArray })(hi:IntsAre vs ns)(hl:ns.length<=sizeLine)(hr:Room k callerA)
  (F:∀base:Heap,K.In base->base.Ns mainGlobals mg->FnOk P w K mg base CX k fa fd [x] sp)(hbind:∀(s:Shared) (u:Value),BindsTo s fd ⟨[u],[]⟩ [(x,u)])
  (hsp:∀H:Hp,iS H->SqL K H a (ns.map V.int)->sp [.ref a] H (λv _=>v=.bl true) λ_ _ _=>False)
  (hCX:∀H e s',CX [] H s₁ (λ_ _ _=>False) e s'->False) :
  codeAny (model P w) callerA (.call (.ref fa) ⟨[.ref a],[]⟩) (λr s'=>r=.ok (.ret (.bool true))/\OldK s₁.heap s'.heap/\s'.os=s₁.os/\AllBare s'.gens) s₁:=by
 have rv:=Ca hi;have lenV:=hi.length;have core:∀H:Hp,iS H->SqL K H a (ns.map V.int)->HOk P w H s₁.heap->(∀b,H b≠none->b=a)->(H a≠none->K.lookup a=none) ->
   codeAny (model P w) callerA (.call (.ref fa) ⟨[.ref a],[]⟩) (λr s'=>r=.ok (.ret (.bool true))/\OldK s₁.heap s'.heap/\s'.os=s₁.os/\AllBare s'.gens) s₁:=by
  intro H hO hS hok hA hK;have base_of:∀{b:Addr} {o:Obj},s₁.heap.get? b=some o->H b=none->(eR s₁.heap H).get? b=some o:=λe n=>A6 e n;have noA:∀{b:Addr} {o:Obj} {es:Array DictEntry} {ep:Nat},s₁.heap.get? b=some o->o.data=.dict es ep->H b=none:=λ{b o es ep} e d=>by
   cases q:H b with
   | none=>rfl
   | some u=>
    have e':b=a:=hA b (by rw[q]; simp);subst e';rw[ha] at e; cases e;have d':Data.seq vs.toArray _=Data.dict es ep:=d;cases d'
  have nsK:∀{b:Addr} {m:Str->aA},s₁.heap.Ns b m->(eR s₁.heap H).Ns b m:=λ{b m} y=>by obtain⟨o,es,ep,e,d,r⟩:=y; exact⟨o,es,ep,base_of e (noA e d),d,r⟩
  have hKb:K.In (eR s₁.heap H):=λb o e=>base_of (KX b o e) (by
   cases q:H b with
   | none=>rfl
   | some u=>
    have e':b=a:=hA b (by rw[q]; simp);subst e';rw[hK (by rw[q]; simp)] at e; cases e)
  have hM:Mod K mg (eR s₁.heap H):=⟨hKb,nsK hns,⟨mb,nsK hb,hbb⟩,let ⟨mc,h1,h2⟩:=hlim; ⟨mc,nsK h1,h2⟩⟩
  have e0:Env0 P w K mg (eR s₁.heap H) callerA [] s₁ H:=⟨rfl,hM,λb o e=>DX e,Jt (yU _ _),trivial,λb hb=>absurd (show b∈([]:al) from hb) (by simp),hok,.of_eq hg⟩
  refine IG ((F _ hKb (nsK hns)).run callerA [] s₁ H ⟨[.ref a],[]⟩ [.ref a] [.ref a] _ _ hr e0 (hbind s₁ (.ref a)) (.cons rfl .nil) (hsp H hO hS)) λr s' h=>?_;cases r with
  | error e=>exact (hCX H e s' h).elim
  | ok fl=>
   cases fl with
   | next=>exact False.elim h
   | brk=>exact False.elim h
   | cont=>exact False.elim h
   | ret u=>
    obtain⟨v,H',os,bare,un,hok',r',q⟩:=h;have q':v=.bl true:=q;subst q';obtain rfl:u=Value.bool true:=r';refine⟨rfl,OldK.of_keep λb o e=>?_,os,bare⟩;cases q:H b with
    | none=>exact un.keep b o e q (by intro z; exact absurd (show b∈([]:al) from z) (by simp)) (by simp)
    | some u=>
     rcases hO b with z | ⟨ob,xs,z⟩
     .rw[q] at z; cases z
     .have z2:=un.frzs b ob _ z;obtain⟨e1,_⟩:=hok b _ z;obtain⟨e2,_⟩:=hok' b _ z2;rw[e] at e1; cases e1;exact e2
 cases hk:K.lookup a with
 | some o=>
  have e:=KX a o hk;rw[ha] at e;cases e;refine core (λ_=>none) (λ_=>.inl rfl) (.inr ⟨_,vs.toArray,_,hk,rfl,rfl,rfl,by rw[GE,lenV]; exact hl,by simpa using rv⟩) (λb u z=>by have z':(none:Option HO)=some u:=z; cases z') (λb z=>absurd rfl z) λz=>absurd rfl z
 | none=>
  refine core (λb=>if b=a then some (.frz { cls:=.type "list",data:=.seq vs.toArray } (.lst (ns.map V.int))) else none) (λb=>?_) (.inl (.inr ⟨{ cls:=.type "list",data:=.seq vs.toArray },if_pos rfl⟩)) (λb u z=>?_) (λb z=>?_) λ_=>hk
  .by_cases hb:b=a
   .exact .inr ⟨_,_,if_pos hb⟩
   .exact .inl (if_neg hb)
  .by_cases hb:b=a
   .have z':=(if_pos hb).symm.trans z;cases z';subst hb;exact⟨ha,by rw[GH]; exact hl,vs,_,rv,ha⟩
   .have z':=(if_neg hb).symm.trans z;cases z'
  .by_cases hb:b=a
   .exact hb
   .exact absurd (if_neg hb) z
def walk_of {l:PySem.W.OpenLaw}{n k:Nat}{q:Program}{j:ar}{Q:(Str->aA)->Heap->Prop}{L:World->Heap->Prop}{d:DefRec}{K:Params->bh}{CX:World->gG}{sp:World->Sp}{x:Str}
  (U:l.most=some n)(C:n<=sizeLine)(B:d.params.defaults=[])(P:Room k callerA)
  (hY:∀(w:World) (h:Heap),L w h->(K w.params).In h)
  (F:∀(w:World) (m:Str->aA) (y:Addr) (h:Heap),(K w.params).In h->h.Ns mainGlobals m->m d.name=some (.ref y) ->
   ∃I:FuncData,(∀(s:Shared) (u:Value),BindsTo s I ⟨[u],[]⟩ [(x,u)]) /\
    ∀base:Heap,(K w.params).In base->base.Ns mainGlobals m->FnOk l.prog w (K w.params) m base (CX w) k y I [x] (sp w))
  (J:∀(w:World) (H:Hp) (a:Addr) (t:ak),t.length<=n->iS H->SqL (K w.params) H a (t.map V.int)->sp w [.ref a] H (λv _=>v=.bl true) λ_ _ _=>False)
  (A:∀(w:World) (H:Hp) (s:Shared) (e:Value) (E:Shared),CX w [] H s (λ_ _ _=>False) e E->False) :
  PySem.W.WalkO q j Q L l.row.toRowW d [] (λf vs=>PySem.call f vs):=by
 refine Att.attach_call U B λw N p m mb y o pm cd a1 a vs t G Y ho hd a0 z r i c Z=>?_;have M:=hY w _ Y;obtain⟨I,hb,X⟩:=F w m y _ M G.T.g z;exact tE M G.T.g G.T.b G.T.builtins G.T.nolimit Z r i (bC c C) P X hb (λH hO hS=>J w H a t c hO hS) λH e E=>A w H p e E
abbrev wx:gG:=λ_ _ _ _ _ _=>False
abbrev E0:St->XK:=λ_ _ _ _=>False
structure Fun (K:bh)(x qual:Str)(st:Stmt)(f:Addr)(fd:FuncData):Prop where
 ex:∃(oc:Value) (od:aE) (kV doc pm:Value) (an:aE) (cdv ct:Value) (osl:Array aA),
  fd=PySem.W.fnOf x qual (aO st) (aS st) (bW st) .none kV doc pm an cdv ct/\K.lookup f=some ⟨oc,od,.func fd,osl⟩/\PySem.W.codeIn K cdv qual=true
 kp:PySem.W.keepIn K (.ref f)=true
section
variable {P:Program}{w:World}{K:bh}{a:Str->aA}{base:Heap}
def Fun.ok {x qual:Str}{st:Stmt}{f:Addr}{fd:FuncData}{N ps:ar}{k:Nat}{sp:Sp}(F:Fun K x qual st f fd)(S:FnScope N ps (bW st))(len:∀vs H Q E,sp vs H Q E->vs.length=ps.length)
  (hbody:∀(cdv:Value) (A:Around) (outer:List Env) (s:Shared) (H:Hp) (vs:av) (Q:VK) (E:XK),Room k (A.deeper (envOfC qual (bW st) s.heap.objs.size f cdv))->sp vs H Q E ->
   ∃t,PSs (eO wx P w K a base N qual (bW st) f cdv A outer s H E).nox (aS st) t/\t { nx:=λ_ H'=>Q .non H',rt:=Q } (start N vs) H):FnOk P w K a base wx (k+1) f fd ps sp:=by
 obtain⟨B,v,kV,o,pm,y,cdv,z,n,rfl,r,j⟩:=F.ex;refine va r j S len λA outer s H vs Q E p i=>?_;obtain⟨t,h,q⟩:=hbody cdv A outer s H vs Q E p i;exact⟨t,h.nox,q⟩
end
def qh (h:n<=1000):n<sizeLine:=Nat.lt_of_le_of_lt h (by decide)
def Same (H a:Hp):Prop:=∀b o,H b=some o->a b=some o
def Same.trans (a:Same H H1)(b:Same H1 H2):Same H H2:=λc o h=>b c o (a c o h)
def Same.free (e:Same H a)(h:a l=Option.none):H l=Option.none:=by
 cases q:H l with
 | none=>rfl
 | some o=>
  rw[e l o q] at h;cases h
def Same.seq {K:bh}{H b:Hp}{a:Addr}{xs:av}(e:Same H b)(h:SqL K H a xs):SqL K b a xs:=by
 rcases h with (h | ⟨o,h⟩) | h
 .exact .inl (.inl (e _ _ h))
 .exact .inl (.inr ⟨o,e _ _ h⟩)
 .exact .inr h
end L2
namespace L2
open PySem PySem.W Builtin Builtin.ObjectAttr
structure Fly (h:Heap)(e T:Addr)(fl:Value):Prop where
 ex:∃oe vs oT ts,h.get? e=some oe/\oe.data=.fields vs/\vs[1]? = some (.ref T)/\h.get? T=some oT/\oT.data=.fields ts/\ts[3]? = some fl
 ne:T≠e
structure XStep (fr:al)(e:Addr)(ch:al)(h h':Heap):Prop where
 size:h.objs.size<=h'.objs.size
 keep:∀b o,h.get? b=some o->b≠e->b∉fr->b∉ch->h'.get? b=some o
 slot:∀b o,h.get? b=some o->b≠e->b∈fr->b∉ch->∃sl,h'.get? b=some { o with slots:=sl }
 exc:∀oe vs,h.get? e=some oe->oe.data=.fields vs->∃vs':aB,h'.get? e=some { oe with data:=.fields vs' }/\vs'.size=vs.size/\vs'[0]? = vs[0]?
 there:∀b o,h.get? b=some o->b≠e->∃o',h'.get? b=some o'
def Fs {o:Obj}{a:aB}(hd:o.data=.fields a) f:o.mapFields f={ o with data:=.fields (f a) }:=by
 obtain⟨c,d,b,e⟩:=o; subst hd; rfl
theorem XStep.trans (a:XStep fr e ch h1 h2)(b:XStep fr e ch h2 h3):XStep fr e ch h1 h3 where
 size:=bC a.size b.size
 keep:=λc o z n1 n2 n3=>b.keep c o (a.keep c o z n1 n2 n3) n1 n2 n3
 slot:=λc o z n1 n2 n3=>by
  obtain⟨sl,z1⟩:=a.slot c o z n1 n2 n3;obtain⟨sl',z2⟩:=b.slot c _ z1 n1 n2 n3;exact⟨sl',z2⟩
 exc:=λoe vs z hd=>by
  obtain⟨v1,z1,e1,e2⟩:=a.exc oe vs z hd;obtain⟨v2,z2,e3,e4⟩:=b.exc _ v1 z1 rfl;exact⟨v2,z2,e3.trans e1,e4.trans e2⟩
 there:=λc o z n1=>by
  obtain⟨o1,z1⟩:=a.there c o z n1;exact b.there c o1 z1 n1
def XStep.mono (a:XStep fr e ch h1 h2)(hf:∀b∈fr,b∈fr')(hc:∀b∈ch,b∈ch'):XStep fr' e ch' h1 h2 where
 size:=a.size
 keep:=λc o z n1 n2 n3=>a.keep c o z n1 (λq=>n2 (hf c q)) λq=>n3 (hc c q)
 slot:=λc o z n1 n2 n3=>by
  by_cases q:c∈fr
  .exact a.slot c o z n1 q λq=>n3 (hc c q)
  .exact⟨o.slots,a.keep c o z n1 q λq=>n3 (hc c q)⟩
 exc:=a.exc
 there:=a.there
section
variable {M:Model}{A:Around}{E:Value->Shared->Prop}{s:Shared}{base:Heap}{d:Env}{c:List Env}{L e T:Addr}{Q:Unit->Shared->Prop}
def nG {g:Obj}{f:aB}{i:Nat}{x:Value}(h:s.heap.get? e=some g)(hd:g.data=.fields f)(j:i<f.size)
  (l:∀a,a.objs.size=s.heap.objs.size->a.get? e=some { g with data:=.fields (f.setIfInBounds i x) }->(∀b,b≠e->a.get? b=s.heap.get? b)->Q () { s with heap:=a }):wpAny M A (setField (.ref e) i x) Q E s:=by
 refine JB h hd j (l _ (Heap.size_after_update ..) ?_ λb k=>HM _ _ (Ij k));rw[<-Fs hd (λm=>m.setIfInBounds i x)];exact HC _ h (Ji (JC hd _))
def th (hfr:A.frames=some (d::c))(hl:s.heap.FunFrames base (d::c))(hf:d.frame=some L)
  (he:s.heap.get? e=some oe)(hd:oe.data=.fields vs)(hz:1<vs.size)
  (hQ:∀h',Fly h' e s.heap.objs.size (rawInt L)->XStep ((d::c).filterMap (·.frame)) e [] s.heap h'->Q () { s with heap:=h' }) :
  wpAny M A (do let a <-frameOf d; let pl <-entryPlaceOf L hadNext; let b <-EntryCells.newEntry head a .none (rawInt L) .none pl; setField (.ref e) 1 b) Q E s:=by
 have y:e∉(d::c).filterMap (·.frame):=λY=>by
  obtain⟨_,o,U,r⟩:=hl.mem Y;rw[he] at U;cases U;exact r vs hd
 refine aL (wpAny_frameOf_fun hfr hl hf λn i=>aL (wpAny_entryPlaceOf λpl v=>?_));have P:n.get? e=some oe:=(i.2.1 e y).trans he;unfold EntryCells.newEntry newFields;refine aL (G9 ?_ (v.sizeOk5 _ _ _ _ _));generalize x:({ cls:=.type "traceback",dict:=none,data:=.fields ([head,.ref L,.none,rawInt L,.none]++(if pl.isEmpty then List.replicate 6 Value.none else pl)).toArray }:Obj)=to;have h:to.data=.fields ([head,.ref L,.none,rawInt L,.none]++(if pl.isEmpty then List.replicate 6 Value.none else pl)).toArray:=by rw[<-x]
 have B:to.isFreed=false:=Ji h;refine nG (cb _ P) hd hz λG u g2 p=>?_;have j:e<n.objs.size:=bS P;have gT:G.get? n.objs.size=some to:=(p _ (HL j)).trans (dH _ B);have k:n.objs.size=s.heap.objs.size:=i.1;rw[<-k] at hQ;refine hQ G ⟨⟨_,_,to,_,g2,rfl,by simp[hz],gT,h,by simp⟩,HL j⟩ ⟨?_,λb o z m Z _=>?_,λb o z m _ _=>?_,λo ws z H=>?_,λb o z m=>?_⟩
 .rw[u];show s.heap.objs.size<=(n.push to).objs.size;rw[G0,k];omega
 .rw[p b m];exact cb _ ((i.2.1 b Z).trans z)
 .obtain⟨I,q⟩:=i.2.2 b o z;exact⟨I,by rw[p b m]; exact cb _ q⟩
 .rw[he] at z;cases z;rw[hd] at H;cases H;exact⟨_,g2,by simp,by rw[Jf (by decide)]⟩
 .obtain⟨I,q⟩:=i.2.2 b o z;exact⟨_,by rw[p b m]; exact cb _ q⟩
def ug (a:A.frames=some (d::c))(j:s.heap.FunFrames base (d::c))(h:d.frame=some L)(f:s.heap.get? e=some l)(hd:l.data=.fields k)(g:k[1]? = some .none)
  (i:∀b,Fly b e s.heap.objs.size (rawInt L)->XStep ((d::c).filterMap (·.frame)) e [] s.heap b->Q () { s with heap:=b }):wpAny M A (noteFrame (.ref e) d) Q E s:=by
 unfold noteFrame;simp only[h];refine aL (HB f hd g ?_);rw[if_neg (by decide)];exact th a j h f hd (Hq.mp g).1 i
def u0 (hfr:A.frames=some (d::c))(hl:s.heap.FunFrames base (d::c))(hf:d.frame=some L)(F:Fly s.heap e T .none)
  (hQ:∀h',Fly h' e s.heap.objs.size (rawInt L)->XStep ((d::c).filterMap (·.frame)) e [T] s.heap h'->Q () { s with heap:=h' }):wpAny M A (noteFrame (.ref e) d) Q E s:=by
 obtain⟨⟨oe,vs,oT,ts,he,hd,h1,hT,hdT,h3⟩,hne⟩:=F;unfold noteFrame;simp only[hf];refine aL (HB he hd h1 ?_);rw[if_pos (show (Value.ref T != Value.none)=true from by simp)];refine aL (HB hT hdT h3 ?_);rw[if_neg (show ¬((Value.none == rawInt L)=true) from by simp[rawInt])];refine aL (nG hT hdT (Hq.mp h3).1 λh1' sz1 g1 k1=>?_);have nT:∀b o,s.heap.get? b=some o->(∀vs,o.data≠.fields vs)->b≠T:=λb o hb hnf z=>by
  rw[z,hT] at hb;cases hb;exact hnf ts hdT
 have st:XStep ((d::c).filterMap (·.frame)) e [T] s.heap h1':=⟨Jt sz1.symm,λb o z _ _ n=>by rw[k1 b (by simpa using n)]; exact z,λb o z _ _ n=>⟨o.slots,by rw[k1 b (by simpa using n)]; exact z⟩,
  λo ws z hw=>⟨ws,by rw[k1 e (Ij hne),z,<-hw],rfl,rfl⟩,λb o z _=>by
   by_cases q:b=T
   .rw[q]; exact⟨_,g1⟩
   .exact⟨o,by rw[k1 b q]; exact z⟩⟩
 refine th (base:=base) (s:={ s with heap:=h1' }) hfr (hl.of_keeps λb o hb hnf=>⟨o,by rw[k1 b (nT b o hb hnf)]; exact hb,rfl⟩) hf (by rw[k1 e (Ij hne)]; exact he) hd (Hq.mp h1).1 λh2 F2 st2=>?_;rw[show ({ s with heap:=h1' }:Shared).heap.objs.size=s.heap.objs.size from sz1] at F2;exact hQ h2 F2 (st.trans (st2.mono (λ_ z=>z) λ_ z=>nomatch z))
def mJ (F:Fly s.heap e T x)(m:∀f,Fly f e T .none->XStep [] e [T] s.heap f->Q () { s with heap:=f }):wpAny M A (setFlight (.ref e) none) Q E s:=by
 obtain⟨⟨w,v,B,y,l,hd,i,p,h,j⟩,a⟩:=F;unfold setFlight;refine aL (HB l hd i ?_);rw[if_pos (show (Value.ref T != Value.none)=true from by simp)];refine nG p h (Hq.mp j).1 λf t g k=>?_;refine m f ⟨⟨w,v,_,_,by rw[k e (Ij a)]; exact l,hd,i,g,rfl,by simp[(Hq.mp j).1]⟩,a⟩ ⟨Jt t.symm,λb o z _ _ n=>by rw[k b (by simpa using n)]; exact z,(λb o z _ n _=>nomatch n),
  λo u z r=>⟨u,by rw[k e (Ij a),z,<-r],rfl,rfl⟩,λb o z _=>?_⟩
 by_cases q:b=T
 .rw[q]; exact⟨_,g⟩
 .exact⟨o,by rw[k b q]; exact z⟩
def DG (a:A.frames=some (d::c))(j:s.heap.FunFrames base (d::c))(q:d.frame=some L)(l:s.heap.get? e=some r)(hd:r.data=.fields m)(o:m[1]? = some .none)
  (g:∀b,Fly b e s.heap.objs.size .none->XStep ((d::c).filterMap (·.frame)) e [s.heap.objs.size] s.heap b->Q () { s with heap:=b }):wpAny M A (leaving d (.ref e)) Q E s:=by
 unfold leaving;refine aL (ug a j q l hd o λh k i=>mJ (s:={ s with heap:=h }) k λf n p=>?_);exact g f n ((i.mono (λ_ z=>z) λ_ z=>nomatch z).trans (p.mono (λ_ z=>nomatch z) λ_ z=>z))
def C6 (a:A.frames=some (d::c))(j:s.heap.FunFrames base (d::c))(n:d.frame=some L)(F:Fly s.heap e T .none)
  (g:∀b,Fly b e s.heap.objs.size .none->XStep ((d::c).filterMap (·.frame)) e [T,s.heap.objs.size] s.heap b->Q () { s with heap:=b }):wpAny M A (leaving d (.ref e)) Q E s:=by
 unfold leaving;refine aL (u0 a j n F λh k i=>mJ (s:={ s with heap:=h }) k λf l m=>?_);exact g f l ((i.mono (λ_ z=>z) λ_ z=>by simp at z; simp[z]).trans (m.mono (λ_ z=>nomatch z) λ_ z=>by simp at z; simp[z]))
end
structure XO (K:Frag)(C:Addr)(tl:al):Prop where
 obj:∃(nm q:Str) (N:Addr) (bs:ao) (sn:ar) (sub:ao) (ab:Bool) (col:Option Bool) (dd:aE) (k0 k1 k2 k3 k5:aA),
  K.lookup C=some (excClassObj nm q C N bs (tl.map Value.ref++bU) true sn sub ab col dd k0 k1 k2 k3 k5 "ValueError.__new__")
structure XC (K:Frag)(C:Addr)(fI:Value)(tl:al):Prop extends XO K C tl where
 init:findIn K (.ref C) "__init__" = some (some fI)
 fn:isFn K fI=true\/fI=.builtin "ValueError.__init__"
 sa:findIn K (.ref C) "__setattr__" = some (some (.builtin "object.__setattr__"))
 ga:findIn K (.ref C) "__getattribute__" = some (some (.builtin "BaseException.__getattribute__"))
 gh:findIn K (.ref C) "__getattr__" = some none
section
variable {f:Program}{w:World}{A:Around}{E:Value->Shared->Prop}{s:Shared}{K:Frag}{C x:Addr}{fI:Value}{i:al}{j:Str->aA}{name:Str}{v:Value}
theorem vS self b l:∀i:al,refuseLoop self b (i.map Value.ref++l)=refuseLoop self b l
 | []=>rfl
 | a::r=>by
  rw[GM,List.cons_append,refuseLoop_ref];exact vS self b l r
def oA (I:h.Inst x C j):∃ox od,InstAt h x ox C od:=by
 obtain⟨o,b,c,m,hd⟩:=I;have a:notCls o=true:=by
  unfold notCls;cases q:o.data <;> first | rfl | (exact absurd q (m _))
 rcases hd with ⟨e,_⟩ | ⟨d,e,_,g,r,p,k,_⟩
 .exact⟨o,none,b,c,a,by rw[e]; trivial⟩
 .exact⟨o,some g,b,c,a,by rw[e]; exact k⟩
def Ei (T:XC K C fI i)(X:K.In s.heap)(hna:findIn K (.ref C) name=some none)(I:s.heap.Inst x C j)(hw:Within j ns)(hsz:ns.length<sizeLine)
  (hq:∀h' tk',h'.Inst x C (λy=>if y=name then some v else j y)->s.heap.objs.size<=h'.objs.size ->
   (∀b o,b≠x->(∀o₀ dx,s.heap.get? x=some o₀->o₀.dict=some dx->b≠dx)->s.heap.get? b=some o->h'.get? b=some o) ->
   (∀o₀,s.heap.get? x=some o₀->∃o₁,h'.get? x=some o₁/\o₁.data=o₀.data/\((∃dx,o₀.dict=some dx/\o₁.dict=some dx)\/(o₀.dict=none/\o₁.dict=some s.heap.objs.size)))->Q () { s with heap:=h',toks:=tk' }) :
  wpAny (model f w) A (setAttr (.ref x) name v) Q E s:=by
 obtain⟨ox,od,J⟩:=oA I;have SF:=PySem.F.store_ValueError;obtain⟨nm,q,N,bs,sn,sub,ab,col,dd,k0,k1,k2,k3,k5,lk⟩:=T.obj;have hC:=X _ _ lk;have hcont:(Value.ref C::(i.map Value.ref++bU)).contains (.type "object")=true:=by
  rw[Il,ID];rw[show bU.contains (.type "object")=true from by decide +kernel,IY,IY]
 have iso:Looks (model f w) s.heap (isInstance (.ref x) (.type "object")) true:=J.type.andThen λA' Q' E' s' k q'=>by
  obtain⟨h1,g1,d1,t1,o1⟩:=s';refine Hn (k _ _ hC) ?_;rw[hcont]; exact q'
 have J':=J;have X':=X;obtain⟨hp,g,d,tk,os⟩:=s;refine set_plain X J T.sa (HW SF.slot.plain SF.entry (@check_slot (model f w) _ _ _ "object.__setattr__" "object" "__setattr__" (.ref x) [.str name tk,v] [] _ SF.kind SF.split iso (SF.args (.ref x) (.str name tk) v) ?_));have hpass:=SF.passes (.ref x);obtain⟨o,hx,hc,hnc,hd⟩:=I;unfold Builtin.«object.__setattr__»;repeat (first | rw[refuse_eq] | (rw[refuseLoop_ref,vS,hpass]) | (with_reducible refine GO hx ?_; rw[hc]) | with_reducible refine wpAny_mroOf_exc hC ?_ | with_reducible refine (Io X hna).here ?_ | wp_step)
 change K.In hp at X;show wpAny _ _ _ _ _ ⟨hp,g,d,tk+1,os⟩;refine (Io X hna).at ?_;repeat (first | (with_reducible refine GO hx ?_; rw[hc]) | with_reducible refine GO hC ?_ | wp_step)
 rcases hd with ⟨hdn,hmA⟩ | ⟨dx,hdx,hne,hns⟩
 .rw[hdn,if_neg (by simp[typeHasDict])];split
  .rename_i z;cases z
  split
  .rename_i c z;exact absurd z (hnc c)
  .have lt:x<hp.objs.size:=bS hx;have hx1:(hp.push { cls:=.type "dict",data:=.dict #[] }).get? x=some o:=cb _ hx;refine aL (wpAny_alloc' (aL (wpAny_update' hx1 (ba ?_))));generalize hh2:((hp.push { cls:=.type "dict",data:=.dict #[] }).update x λo=>{ cls:=o.cls,dict:=some hp.objs.size,data:=o.data,slots:=o.slots })=h2;have gd:h2.get? hp.objs.size=some { cls:=.type "dict",data:=.dict #[] }:=by
    rw[<-hh2];exact (HM _ _ (dA lt)).trans (Heap.get?_push_at rfl rfl)
   have gx:h2.get? x=some { cls:=o.cls,dict:=some hp.objs.size,data:=o.data,slots:=o.slots }:=by
    rw[<-hh2];refine HC _ hx1 ?_;have fr:=(Heap.get?_some_iff.mp hx).2;obtain⟨_,_,dt,_⟩:=o;cases dt <;> first | rfl | exact fr
   have gb:∀b ob,b≠x->hp.get? b=some ob->h2.get? b=some ob:=λb ob nb z=>by
    rw[<-hh2];exact (HM _ _ (Ij nb)).trans (cb _ z)
   have sz2:h2.objs.size=hp.objs.size+1:=by rw[<-hh2,Heap.size_after_update,G0]
   have nd:h2.Ns1 hp.objs.size (λ_=>none):=Heap.Ns1.of_empty ⟨_,#[],_,gd,rfl,λe he=>absurd he (by simp),λ_=>rfl⟩;show wpAny _ _ (storeInDict hp.objs.size (.str name tk) name v) _ _ _;unfold storeInDict newKeyGuard;refine aL (ba (aL (wpAny_nsSet1 nd λh3 n3 s3=>?_)));obtain⟨oD,esD,epD,hoD,hdD,hcD⟩:=n3.count (Within.cons name v Within.nil);refine aL (wpAny_lookBehind hoD (by rw[hdD]; exact pastItsLine_dict (bC hcD (by rw[List.length_cons,List.length_nil,sizeLine_eq]; omega))) ?_);wp_walk
   have gx3:=(s3.2 x (dA lt)).trans gx;refine hq h3 _ ⟨_,gx3,hc,hnc,.inr ⟨hp.objs.size,rfl,HL lt,?_⟩⟩ (by rw[s3.1,sz2]; exact HA _) (λb ob nb _ z=>?_) λo₀ z=>?_
   .obtain⟨o',es,ep,e1,e2,e3,eu,e4⟩:=n3;exact⟨o',es,ep,e1,e2,e3,eu,λy=>by rw[e4 y]; by_cases hy:y=name <;> simp[hy,hmA]⟩
   .exact (s3.2 b (dA (bS z))).trans (gb b ob nb z)
   .obtain rfl:o=o₀:=cm (hx.symm.trans z);exact⟨_,gx3,rfl,.inr ⟨hdn,rfl⟩⟩
 .rw[hdx];refine ba ?_;show wpAny _ _ (storeInDict dx (.str name tk) name v) _ _ _;unfold storeInDict newKeyGuard;refine aL (ba (aL (wpAny_nsSet1 hns λh3 n3 s3=>?_)));obtain⟨oD,esD,epD,hoD,hdD,hcD⟩:=n3.count (Within.cons name v hw);refine aL (wpAny_lookBehind hoD (by rw[hdD]; exact pastItsLine_dict (bC hcD (by rw[List.length_cons]; omega))) ?_);wp_walk
  have gx3:=(s3.2 x (Ij hne)).trans hx;refine hq h3 _ ⟨o,gx3,hc,hnc,.inr ⟨dx,hdx,hne,n3⟩⟩ (Jt s3.1.symm) (λb ob _ hbd z=>(s3.2 b (hbd o dx hx hdx)).trans z) λo₀ z=>?_;obtain rfl:o=o₀:=cm (hx.symm.trans z);exact⟨o,gx3,rfl,.inl ⟨dx,hdx,hdx⟩⟩
end
section
variable {a:Program}{w:World}{A:Around}{E:Value->Shared->Prop}{s:Shared}{K:Frag}{C x:Addr}{fI:Value}{b:al}{e:Str->aA}{name:Str}{v:Value}
def wp (T:XC K C fI b)(X:K.In s.heap)(J:InstAt s.heap x ox C od)(g:bU.contains (.type B)=true):Looks M s.heap (isInstance (.ref x) (.type B)) true:=by
 obtain⟨n,q,N,H,u,sub,p,i,I,F,y,L,P,l,d⟩:=T.obj;have h:=X _ _ d;have c:(Value.ref C::(b.map Value.ref++bU)).contains (.type B)=true:=by rw[Il,ID,g,IY,IY]
 exact J.type.andThen λz o G j k f=>by
  obtain⟨t,g1,m,r,Q⟩:=j;refine Hn (k _ _ h) ?_;rw[c]; exact f
def zg (T:XC K C fI b)(X:K.In s.heap)(hna:findIn K (.ref C) name=some none)(I:s.heap.Inst x C e)(hv:e name=some v)(hh:handedOut v=pure v)
  (hq:Q v { s with toks:=s.toks+1 }):wpAny (model a w) A (getAttr (.ref x) name expr) Q E s:=by
 obtain⟨ox,od,J⟩:=oA I;have P:=PySem.F.excAttr_ValueError;have p:=wp (M:=model a w) T X J (B := "BaseException") (by decide +kernel);have f3:=P.ga.bind (.ref x);have a0:(expr&&onTheHeap (Value.builtin "BaseException.__getattribute__"))=false:=by cases expr <;> rfl
 have H:(Value.builtin "BaseException.__getattribute__" == Value.builtin "object.__getattribute__")=false:=by decide +kernel
 have a2:(onTheHeap (Value.ref C)&&Value.builtin "BaseException.__getattribute__" == Value.builtin "object.__getattribute__")=false:=by rw[H]; rfl
 obtain⟨nm,q,N,bs,sn,sub,ab,a3,dd,k0,k1,k2,k3,k5,Z⟩:=T.obj;have L:=X _ _ Z;obtain⟨o,k,r,G,hd⟩:=I;obtain⟨h,g,d,Y,os⟩:=s;change K.In h at X;change h.get? x=some o at k;have U:∀{t:Nat} {f:Option Value->Shared->Prop} {j:Value->Shared->Prop} {i:Around},f (some (.builtin "BaseException.__getattribute__")) ⟨h,g,d,t,os⟩->wpAny (model a w) i (typeLookup (.ref C) "__getattribute__") f j ⟨h,g,d,t,os⟩:=λz=>(Io X T.ga).at z;have gh:∀{t:Nat} {f:Option Value->Shared->Prop} {j:Value->Shared->Prop} {i:Around},f none ⟨h,g,d,t,os⟩->wpAny (model a w) i (typeLookup (.ref C) "__getattr__") f j ⟨h,g,d,t,os⟩:=λz=>(Io X T.gh).at z;have W:∀{t:Nat} {f:Option Value->Shared->Prop} {j:Value->Shared->Prop} {i:Around},f none ⟨h,g,d,t,os⟩->wpAny (model a w) i (typeLookup (.ref C) name) f j ⟨h,g,d,t,os⟩:=λz=>(Io X hna).at z;unfold getAttr getAttrBy;repeat (any_goals (first | assumption | (with_reducible refine GO k ?_; rw[r]) | with_reducible refine U ?_ | with_reducible refine gh ?_ | wp_step))
 refine HW P.ga.plain F.entry_bexc_ga (@check_slot (model a w) _ _ _ "BaseException.__getattribute__" "BaseException" "__getattribute__" (.ref x) [.str name Y] [] _ (by decide +kernel) (by decide +kernel) p (F.args_bexc_ga _ _) ?_);rcases hd with ⟨_,u⟩ | ⟨dx,n,a1,y⟩
 .rw[u name] at hv; cases hv
 unfold Builtin.«object.__getattribute__»;repeat (any_goals (first | assumption | (with_reducible refine GO k ?_; rw[r]) | with_reducible refine GO L ?_ | with_reducible refine W ?_ | wp_step))
 split
 .rename_i c z;exact absurd z (G c)
 unfold instanceDict;repeat (any_goals (first | assumption | (with_reducible refine GO k ?_; rw[r]) | with_reducible refine GO L ?_ | wp_step))
 rw[n];repeat (any_goals (first | assumption | (with_reducible refine wpAny_nsGet y.ns ?_; rw[hv]) | wp_step))
end
section
variable {c:Program}{w:World}{A:Around}{E:Value->Shared->Prop}{s:Shared}{K:Frag}{C x:Addr}{fI:Value}{e:al}{f:Str->aA}{name:Str}{v:Value}
def EU {rest:ao}{o:Obj}{i:aB}{Q:Value->Shared->Prop}(T:XC K C fI e)(X:K.In s.heap)(k:s.heap.get? x=some o)(H:o.cls=.ref C)(hd:o.data=.fields i)(y:0<i.size)(P:rest.length<=sizeLine)
  (J:∀h',s.heap.objs.size<=h'.objs.size->(∀b l,b≠x->s.heap.get? b=some l->h'.get? b=some l)->(∃G,h'.get? x=some { o with data:=.fields (i.setIfInBounds 0 G) })->Q .none { s with heap:=h' }) :
  wpAny (model c w) A (call (.builtin "ValueError.__init__") (.ref x::rest)) Q E s:=by
 have F:=HQ;obtain⟨Z,q,N,bs,sn,sub,ab,U,dd,k0,k1,u,k3,Y,M⟩:=T.obj;have r:=X _ _ M;have h:(Value.ref C::(e.map Value.ref++bU)).contains (.type "ValueError")=true:=by
  rw[Il,ID,show bU.contains (.type "ValueError")=true from by decide +kernel,IY,IY]
 obtain⟨B,g,d,L,os⟩:=s;have j:=F.noStar;have I:i[0]? = some i[0]:=by simp[y]
 refine Jz (HW F.init.plain F.initEntry ?_);simp only[checkBuiltinCall,F.initKind,F.initSplit,F.initRow];repeat (first | (with_reducible refine GO k ?_; rw[H]) | with_reducible refine GO r ?_ | (with_reducible refine Hn r ?_; rw[h]) | wp_step)
 refine wpAny_onRaise ?_;rw[show ∀(a b:String) (n:Nat),Bind.check ⟨.positional, "*", "ValueError",.self,[⟨"args",.varPos,false⟩]⟩ a b n (List.map (λx=>x.fst) ({ pos:=Value.ref x::rest }:Args).kw)=pure () from λa b n=>check_star_args _ _ _ _ _ _];refine ba ?_;show wpAny _ _ (newTuple rest >>= λt=>Builtin.BaseException.bexcPut (.ref x) 0 t >>= λ_=>ret .none) _ _ _;refine aL (wpAny_newTuple (aL ?_) P);unfold Builtin.BaseException.bexcPut;refine aL (HB (cb _ k) hd I (aL (nG (cb _ k) hd y λp m g2 u=>?_)));have fin:Q .none ⟨p,g,d,L,os⟩:=J p (by rw[m]; show B.objs.size<=(B.push _).objs.size; rw[G0]; exact HA _) (λb l W z=>by rw[u b W]; exact cb _ z) ⟨_,g2⟩;cases i[0] <;> (repeat (first | exact fin | wp_step))
end
def kU (C:Addr)(b:al)(n:String):(Value.ref C::(b.map Value.ref++bU)).contains (.type n)=bU.contains (.type n):=by
 rw[Il,ID];have d:((Value.type n) == (Value.ref C))=false:=by rfl
 have c:(b.map Value.ref).contains (.type n)=false:=by
  induction b with
  | nil=>rfl
  | cons a r e=>rw[GM,Il,e]; rfl
 rw[d,c,JL,JL]
section
variable {a:Program}{w:World}{A:Around}{E:Value->Shared->Prop}{s:Shared}{K:Frag}{C:Addr}{fI:Value}{c:al}
def zD {rest:ao}{R:Result->Shared->Prop}(T:XC K C fI c)(X:K.In s.heap)(e:rest.length<=sizeLine)
  (l:R (.ok (.ret (.ref (s.heap.objs.size+1)))) { s with heap:=(s.heap.push { cls:=.type "tuple",data:=.seq rest.toArray }).push { cls:=.ref C,data:=.fields #[.ref s.heap.objs.size,.none,.none,.none,.bool false,.none] } }) :
  codeAny (model a w) A (.builtin "ValueError.__new__" ⟨.ref C::rest,[]⟩) R s:=by
 have F:=HQ;obtain⟨r,q,N,y,v,sub,u,n,H,x,G,z,B,o,m⟩:=T.obj;have b:=X _ _ m;have cB:(Value.ref C::(c.map Value.ref++bU)).contains (.type "ValueError")=true:=by rw[kU]; decide +kernel
 have j:(Value.ref C::(c.map Value.ref++bU)).contains (.type "AttributeError")=false:=by rw[kU]; decide +kernel
 have k:(Value.ref C::(c.map Value.ref++bU)).contains (.type "NameError")=false:=by rw[kU]; decide +kernel
 obtain⟨h,g,d,t,os⟩:=s;have i:=F.ends;refine codeAny_builtinAt F.entry ?_;unfold Builtin.«BaseException.__new__»;refine wpAt_bind ?_;show wpAt _ _ _ (stack >>= _) _ _ _;refine wpAt_bind (wpAt_stack λp f=>wpAt_of_wpAny ?_);wp_walk
 refine wpAt_of_wpAny ?_;rw[F.owner];repeat (first | with_reducible refine wpAny_madeHere_exc F.canon b ?_ | with_reducible refine GO b ?_ | (with_reducible refine Hn b ?_; first | rw[cB] | rw[j] | rw[k]) | wp_step)
 show R _ _;rw[G0];exact l
def zQ {rest:ao}{M:Model}{Q:Unit->Shared->Prop}(T:XC K C fI c)(X:K.In s.heap)(i:Q () s):wpAny M A (checkBuiltinCall "ValueError.__new__" ⟨.ref C::rest,[]⟩) Q E s:=by
 have F:=HQ;obtain⟨k,q,N,p,m,sub,l,f,r,o,n,u,v,j,e⟩:=T.obj;have b:=X _ _ e;have cB:(Value.ref C::(c.map Value.ref++bU)).contains (.type "ValueError")=true:=by rw[kU]; decide +kernel
 have star:=F.noStar;obtain⟨h,g,d,t,os⟩:=s;simp only[checkBuiltinCall,F.newKind,F.newSplit,F.newRow];repeat (first | refine GO b ?_ | (refine Hn b ?_; rw[cB]) | refine wpAny_staticBase_exc b ?_ | refine wpAny_madeBy_exc b ?_ | simp only[JH,Bool.false_eq_true,if_false] | wp_step)
 exact i
def Bo {rest:ao}{Q:Fin->Shared->Prop}(T:XC K C fI c)(X:K.In s.heap)(i:rest.length<=sizeLine)
  (J:∀H e,Heap.MadeExcOf s.heap H e (.ref C) rest->s.heap.objs.size<=e->wpAny (model a w) A (call fI (.ref e::rest)) (λr G=>r=.none/\Q (.done (.ret (.ref e))) G) E { s with heap:=H }) :
  wpAny (model a w) A (Builtin.«type.__call__» ⟨.ref C::rest,[]⟩) Q E s:=by
 have F:=HQ;have v:=T;have B:=X;obtain⟨Z,q,N,bs,sn,sub,ab,W,dd,k0,k1,k2,k3,Y,L⟩:=T.obj;have n:=X _ _ L;have self:(Value.ref C::(c.map Value.ref++bU)).contains (.ref C)=true:=by simp
 obtain⟨h,g,d,t,os⟩:=s;change K.In h at X;repeat (first | with_reducible refine GO n ?_ | with_reducible refine wpAny_madeBy_exc n ?_ | wp_step)
 refine codeAny_call_builtin_code (JD _ F.quiet) (zQ v B (zD v B i ?_));show wpAny _ _ _ _ _ ⟨(h.push { cls:=.type "tuple",data:=.seq rest.toArray }).push { cls:=.ref C,data:=.fields #[.ref h.objs.size,.none,.none,.none,.bool false,.none] },g,d,t,os⟩;generalize j:({ cls:=.type "tuple",data:=.seq rest.toArray }:Obj)=to;generalize f:({ cls:=.ref C,data:=.fields #[.ref h.objs.size,.none,.none,.none,.bool false,.none] }:Obj)=eo;have u:∀b o,h.get? b=some o->((h.push to).push eo).get? b=some o:=λb o z=>cb _ (cb _ z);have k:((h.push to).push eo).get? (h.objs.size+1)=some eo:=by subst f; subst j; heap_get
 have l:((h.push to).push eo).get? h.objs.size=some to:=by subst j; exact cb _ (Heap.get?_push_at rfl rfl)
 have P:eo.cls=.ref C:=by rw[<-f]
 have y:K.In ((h.push to).push eo):=X.keeps u;unfold isInstance;repeat (first | (with_reducible refine GO k ?_; rw[P]) | (with_reducible refine Hn (u _ _ n) ?_; rw[self]) | wp_step)
 show wpAny _ _ (typeLookup (.ref C) _) _ _ _;have M:∀m:Value×ao->Shared->Prop,m (fI,[.ref (h.objs.size+1)]) ⟨(h.push to).push eo,g,d,t,os⟩->wpAny (model a w) A (bindSpecial fI (.ref (h.objs.size+1))) m E ⟨(h.push to).push eo,g,d,t,os⟩:=λm q=>by
  rcases T.fn with p | p
  .unfold bindSpecial;refine aL ((looks_typeIn y (GN.mp p)).at ?_);rw[if_pos (by decide)];exact ba q
  .subst p;exact wpAny_of_eq (F.init.bind _) q
 refine (Io y T.init).at (H9 (aL (M _ ?_)));refine (aL (Hl (J _ (h.objs.size+1) ⟨u,IB (HA _),h.objs.size,by rw[f]; exact k,IB (bA _),by rw[j]; exact l⟩ (HA _)) (λr G U=>?_) λ_ _ x=>x));obtain⟨rfl,I⟩:=U;wp_walk
 exact I
def uR {rest:ao}{Q:Value->Shared->Prop}(T:XC K C fI c)(X:K.In s.heap)(b:rest.length<=sizeLine)
  (l:∀i e,Heap.MadeExcOf s.heap i e (.ref C) rest->s.heap.objs.size<=e->wpAny (model a w) (A.under (.builtin "type.__call__" ⟨.ref C::rest,[]⟩)) (call fI (.ref e::rest)) (λr k=>r=.none/\Q (.ref e) k) E { s with heap:=i }) :
  wpAny (model a w) A (call (.ref C) rest) Q E s:=by
 obtain⟨p,q,N,z,v,sub,u,n,I,y,G,B,F,o,m⟩:=T.obj;have f:=X _ _ m;have j:=X;obtain⟨h,g,d,t,os⟩:=s;have H:=tc_lookup;have x:=tc_bind (.ref C);have J:(⟨h,g,d,t,os⟩:Shared).TypeIs (.ref C) "type":=⟨_,f,rfl⟩
 refine Jz (codeAny_of_tree ?_);show wpAny _ _ (callAny (.ref C) _) _ _ _;repeat (any_goals (first | assumption | with_reducible refine GO f ?_ | wp_step))
 exact⟨rfl,codeAny_call_builtin_at (JD _ (by decide +kernel)) entry_typeCall (wpAny_check_type_call_sub f (Bo T j b l))⟩
end
section
variable {M:Model}{A:Around}{E:Value->Shared->Prop}{s:Shared}{b:Env}{K:Frag}{C:Addr}{a:al}
def Du (p:A.handled=none)
  (h:wpAny M A x (λv c=>∃(e C:Addr) (a:al) (f:Obj) (k:aB),v=.ref e/\XO K C a/\c.heap.get? e=some f/\f.cls=.ref C/\f.data=.fields k/\k[1]? = some .none/\K.In c.heap/\E (.ref e) c) E s) :
  wpAny M A (raiseStmt b (some x) none) Q E s:=by
 unfold raiseStmt;refine aL (Hl h (λv c i=>?_) λ_ _ x=>x);obtain⟨e,C,a,f,k,rfl,T,m,o,hd,t,X,u⟩:=i;obtain⟨B,q,N,J,G,sub,F,y,Z,H,Y,L,P,z,r⟩:=T.obj;have l:=X _ _ r;obtain⟨W,g,d,U,os⟩:=c;have j:(Value.ref C::(a.map Value.ref++bU)).contains (.type "BaseException")=true:=by rw[kU]; decide +kernel
 obtain⟨oc,I,w,n⟩:=f;cases hd;cases o;repeat (any_goals (first | assumption | with_reducible refine GO m ?_ | with_reducible refine GO l ?_ | (with_reducible refine Hn l ?_; rw[j]) | with_reducible refine HB m rfl t ?_ | wp_step))
 exact wpAny_raiseNew_none p u
def D6 (J:s.heap.get? e=some y)(p:y.cls=.ref C)(X:K.In s.heap)(T:XO K C a)(Y:XO K D i)
  (j:Q ((Value.ref C::(a.map Value.ref++bU)).contains (.ref D)) s):wpAny M A (excMatches (.ref e) (.ref D)) Q E s:=by
 obtain⟨U,q,N,bs,Z,sub,W,I,dd,k0,k1,k2,k3,P,B⟩:=T.obj;obtain⟨t,q',N',w,G,k,n,l,F,v,r,L,x,o,c⟩:=Y.obj;have u:=X _ _ B;have f:=X _ _ c;obtain⟨H,g,d,z,os⟩:=s;have h:(Value.ref D::(i.map Value.ref++bU)).contains (.type "BaseException")=true:=by rw[kU]; decide +kernel
 have nt:isSubtype (.type "type") (.type "tuple")=pure false:=by rw[JE]; kernel_rfl
 have hT:(⟨H,g,d,z,os⟩:Shared).TypeIs (.ref D) "type":=⟨_,f,rfl⟩
 unfold excMatches;repeat (any_goals (first | assumption | with_reducible refine GO f ?_ | (with_reducible refine GO J ?_; rw[p]) | (with_reducible refine Hn f ?_; rw[h]) | with_reducible refine Hn u ?_ | wp_step))
 cases m:(Value.ref C::(a.map Value.ref++bU)).contains (.ref D) with
 | true=>
  rw[m] at j;repeat (any_goals (first | assumption | wp_step))
 | false=>
  rw[m] at j;repeat (any_goals (first | assumption | wp_step))
end
end L2
namespace L2
open PySem PySem.Spec PyProof.Rows
noncomputable def cR (env:Env)(a:List (Str×NameKind))(acc:ai):ai:=
 a.foldl (λb x=>if x.2 == NameKind.free then (x.1,(env.cells.lookup x.1).getD 0)::b else b) acc
theorem tN {α β:Type}{f:α->β->Sem (ForInStep β)}(g:β->α->β):∀(l:List α) (c:β),(∀x∈l,∀c,f x c=pure (.yield (g c x)))->forIn l c f=pure (l.foldl g c)
 | [],_,_=>rfl
 | x::r,c,h=>by
  rw[List.forIn_cons,h x HP c,pure_bind];exact tN g r (g c x) λy a=>h y (bK _ a)
theorem pV:∀(a:List (Str×NameKind)) (acc:ai),(∀y∈a,y.2=NameKind.free->∃c,env.cells.lookup y.1=some c)->(∀x c,acc.lookup x=some c->env.cells.lookup x=some c) ->
  (∀x c,(cR env a acc).lookup x=some c->env.cells.lookup x=some c)/\(∀y∈a,y.2=NameKind.free->∃c,(cR env a acc).lookup y.1=some c)/\∀x c,acc.lookup x=some c->∃u,(cR env a acc).lookup x=some u
 | [],acc,_,i=>⟨i,(λ_ h=>nomatch h),λx c h=>⟨c,h⟩⟩
 | (n,k)::r,acc,o,i=>by
  by_cases p:k=NameKind.free
  .subst p;obtain⟨c,t⟩:=o (n,.free) bP rfl;have e:cR env ((n,NameKind.free)::r) acc=cR env r ((n,c)::acc):=by
    have m:env.cells.lookup n=some c:=t;show cR env r (if (NameKind.free == NameKind.free)=true then (n,(env.cells.lookup n).getD 0)::acc else acc)=_;rw[if_pos (by decide),m];rfl
   rw[e];obtain⟨l,s,g⟩:=pV r ((n,c)::acc) (λy b=>o y (bK _ b)) λx d h=>by
    rw[List.lookup_cons] at h;split at h
    .rename_i j;have q:x=n:=by simpa using j
     cases h;rw[q];exact t
    .exact i x d h
   refine⟨l,λy b f=>?_,λx d h=>?_⟩
   .rcases ck b with rfl | b
    .exact g n c (by rw[List.lookup_cons]; simp)
    .exact s y b f
   .by_cases j:x=n
    .subst j;exact g x c (by rw[List.lookup_cons]; simp)
    .refine g x d ?_;rw[List.lookup_cons,show (x == n)=false from by simpa using j];exact h
  .have e:cR env ((n,k)::r) acc=cR env r acc:=by
    show cR env r (if (k == NameKind.free)=true then (n,(env.cells.lookup n).getD 0)::acc else acc)=_;rw[if_neg (by simpa using p)]
   rw[e];obtain⟨l,s,g⟩:=pV r acc (λy b=>o y (bK _ b)) i;refine⟨l,λy b f=>?_,g⟩;rcases ck b with rfl | b
   .exact absurd f p
   .exact s y b f
def uU {scope:Scope}{env:Env}(f:∀y∈scope.names,y.2=NameKind.free->∃c,env.cells.lookup y.1=some c) :
  ∃b,closureFor scope env=pure b/\(∀x c,b.lookup x=some c->env.cells.lookup x=some c)/\∀y∈scope.names,y.2=NameKind.free->∃c,b.lookup y.1=some c:=by
 obtain⟨m,j,_⟩:=pV (env:=env) scope.names [] f (λ_ _ h=>nomatch h);refine⟨cR env scope.names [],?_,m,j⟩;simp only[closureFor];rw[tN (λe x=>if x.2 == NameKind.free then (x.1,(env.cells.lookup x.1).getD 0)::e else e) scope.names [] λx k c=>?_]
 .rfl
 .obtain⟨n,kind⟩:=x;by_cases g:kind=NameKind.free
  .subst g;obtain⟨a,i⟩:=f (n,.free) k rfl;have d:env.cells.lookup n=some a:=i;simp only[show (NameKind.free == NameKind.free)=true from by decide,if_true,cellOf,d];rfl
  .have l:(kind == NameKind.free)=false:=by simpa using g
   simp only[l,Bool.false_eq_true,if_false]
noncomputable def bv (X:Cx)(N':ar)(scope:Scope)(a:ai)(C:Addr)(s:Shared)(H:Hp)(fp:al)(E:Value->Shared->Prop):Cx:=
 { X with N:=N',s₀:=s,H₀:=H,env:=compEnvC scope a C X.env,outer:=X.stack,stack:=X.stack,ex:=fp,fn:=λx=>scope.names.lookup x == some .cell,pn:=[],xe:=E }
noncomputable def compOk (c:Scope)(N b:ar)(a:List aC)(scope:Scope):Bool:=
 scope.kind == .function&&scope.names.all (λy=>(y.2 != .cell||scope.names.lookup y.1 == some .cell)&&(y.2 != .local||scope.names.lookup y.1 == some .local)&&(y.2 != .free||(c.names.lookup y.1 == some .cell||c.names.lookup y.1 == some .free))) &&
 a.length == b.length&&decide b.Nodup&&(a.zip b).all λp=>match p.1 with
  | none=>true
  | some j=>N[j]? == some p.2&&scope.names.lookup p.2 == some .free
structure CompS (sc:Scope)(N N':ar)(caps:List aC)(scope:Scope):Prop where
 kind:scope.kind=.function
 cells:∀y∈scope.names,y.2=.cell->scope.names.lookup y.1=some .cell
 locs:∀y∈scope.names,y.2=.local->scope.names.lookup y.1=some .local
 free:∀y∈scope.names,y.2=.free->sc.names.lookup y.1=some .cell\/sc.names.lookup y.1=some .free
 len:caps.length=N'.length
 nd:N'.Nodup
 cap:∀(i j:Nat) (x:Str),caps[i]? = some (some j)->N'[i]? = some x->N[j]? = some x/\scope.names.lookup x=some .free
def CompS.of (h:compOk m N f a scope=true):CompS m N f a scope:=by
 unfold compOk at h;simp only[tw,List.all_eq_true,GN,GS] at h;obtain⟨⟨⟨⟨g,d⟩,q⟩,c⟩,o⟩:=h;refine⟨?_,λy b e=>?_,λy b e=>?_,λy b e=>?_,q,c,λi j x l p=>?_⟩
 .cases n:scope.kind <;> rw[n] at g <;> first | rfl | (exact absurd g (by decide))
 .have:=(d y b).1.1;rw[e] at this;simpa using this
 .have:=(d y b).1.2;rw[e] at this;simpa using this
 .have:=(d y b).2;rw[e] at this;simpa using this
 .have k:(a.zip f)[i]? = some (some j,x):=by rw[List.getElem?_zip_eq_some]; exact⟨l,p⟩
  have:=o _ (GV k);simpa using this
noncomputable def iy (σ:St):aC->Option V
 | none=>none
 | some j=>(σ[j]?).join
section
variable {a:Program}{w:World}{A:Around}{R:Result->Shared->Prop}{s:Shared}
theorem AQ (I:Nat->Shared->Prop)
  (t:∀n s,I n s->wpAny (model a w) A (pyNext F) (λr g=>match r with
   | none=>R (.ok .next) g
   | some v=>wpAny (model a w) A (letOwnedTupleGo target F v) (λ_ j=>wpAny (model a w) A (assign target b v) (λ_ q=>
     wpAny (model a w) A (forIn C true λc r=>if r=true then do let ok <-isTrue c b (eval c b); pure (ForInStep.yield ok) else pure (ForInStep.yield r)) (λok f=>
      if ok=true then wpAny (model a w) A (eval E b) (λx l=>
       wpAny (model a w) A (call (.builtin "list.append") [acc,x]) (λ_ p=>∃m,m<n/\I m p) (notedBy (model a w) A b λe d=>R (.error e) d) l) (notedBy (model a w) A b λe d=>R (.error e) d) f
      else ∃m,m<n/\I m f) (notedBy (model a w) A b λe d=>R (.error e) d) q) (notedBy (model a w) A b λe d=>R (.error e) d) j) (notedBy (model a w) A b λe d=>R (.error e) d) g) (notedBy (model a w) A b λe d=>R (.error e) d) s)
  (n:Nat)(h:I n s) :
  codeAny (model a w) A (.compLoop (.ListComp E [⟨target,iter,C,0⟩] scope pos) 0 F acc b) R s:=by
 refine codeAny_loop rfl I (λn s G=>?_) n h;show wpAny _ A ((compTurn (.ListComp E [⟨target,iter,C,0⟩] scope pos) 0 F acc b).onRaise (λx=>do noteFrame x b; theTreesLotGoes x)) _ _ s;refine wpAny_noted ?_;rw[compTurn_list];refine aL (JM (aL (Hl (t n s G) (λr g k=>?_) λ_ _ i=>i)));cases r with
 | none=>exact ba k
 | some v=>
  refine aL (Hl k (λ_ j u=>?_) λ_ _ i=>i);refine aL (Hl u (λ_ q B=>aL (Hl B (λok f o=>?_) λ_ _ i=>i)) λ_ _ i=>i);cases ok with
  | false=>exact ba ⟨rfl,o⟩
  | true=>
   exact aL (aL (Hl o (λx l z=>aL (Hl z (λ_ p y=>ba (ba ⟨rfl,y⟩)) λ_ _ i=>i)) λ_ _ i=>i))
end
def PTs (X:Cx)(b:au)(t:TT):Prop:=
 ∀(a:ah) (s:Shared) (σ:St) (H:Hp) (Q:Bool->Hp->Prop),Inv X a σ H s->t σ H Q ->
  wpAny (model X.prog X.w) X.A (forIn b true λc r=>if r=true then do let ok <-isTrue c X.env (eval c X.env); pure (ForInStep.yield ok) else pure (ForInStep.yield r)) (TP X a σ Q) X.xe s
def gS:TT:=λ_ H Q=>Q true H
def F5:PTs X [] gS:=λ_ _ _ H _ I h=>wpAny_tests_nil ⟨H,I,h⟩
def Cq (h:PT X c t):PTs X [c] t:=λa s σ H Q I b=>wpAny_tests_one (h a s σ H Q I b)
theorem PTs.nox (h:PTs X.nox b t):PTs X b t:=λa s σ H Q I c=>
 Hl (h a s σ H Q (I.wish _) c) (λ_ _ ⟨d,e,q⟩=>⟨d,e.unwish,q⟩) λ_ _ f=>f.elim
theorem PG.nox (h:PG X.nox b t):PG X b t:=λa s σ H v u Q I r c=>
 Hl (h a s σ H v u Q (I.wish _) r c) (λ_ _ ⟨σ',d,e,q⟩=>⟨σ',d,e.unwish,q⟩) λ_ _ f=>f.elim
def i8 (J:It)(l:Addr)(g:TG)(j:TT)(k:TE)(Q:VK)(σ0:St)(H:Hp):Prop:=
 ∃W:Nat->Nat->av->St->Hp->Prop,(∃m,W 0 m [] σ0 (upd H l (.lst [])))/\∀i m d σ H,W i m d σ H ->
  (J.stop i H/\Q (.ref l) H)\/(J.go i H/\∃N:av->St->Hp->Prop,(∀d σ' b,N d σ' b->∃f,f<m/\W (i+1) f d σ' b) /\
   ∀x b,J.yld i H x b->g x σ b λσ2 n=>j σ2 n λc e=>if c=true then k σ2 e λv h=>∃a,h l=some (.lst a)/\a.length<sizeLine/\N (a++[v]) σ2 (upd h l (.lst (a++[v]))) else N d σ2 e)
def f8 (c:TI)(a:List aC)(g:TG)(e:TT)(d:TE):TE:=λσ H Q=>c σ H λJ b=>∀l,b l=none->i8 J l g e d Q (a.map (iy σ)) b
section
variable {X:Cx}{elt iter tg:Expr}{ifs:au}{scope:Scope}{pos:Pos}{wi:TI}{g:TG}{tt:TT}{te:TE}{N':ar}{caps:List aC}
def sE :
  ∀k,(relabel scope b).names.lookup x=some k->scope.names.lookup x=some k\/(k=.cell/\scope.names.lookup x=some .free):=by
 have go:∀(g:Str×NameKind->Str×NameKind),(∀p,g p=p\/(p.2=.free/\g p=(p.1,.cell)))->∀(a:List (Str×NameKind)) k,(a.map g).lookup x=some k->a.lookup x=some k\/(k=.cell/\a.lookup x=some .free):=by
  intro g o a;induction a with
  | nil=>intro k h; exact nomatch h
  | cons p r i=>
   intro k h;rw[GM] at h;obtain⟨n,j⟩:=p;rcases o (n,j) with e | ⟨l,m⟩
   .rw[e,List.lookup_cons] at h;rw[List.lookup_cons];cases c:x == n with
    | true=>rw[c] at h; exact .inl h
    | false=>rw[c] at h; exact i k h
   .rw[m,List.lookup_cons] at h;rw[List.lookup_cons];cases c:x == n with
    | true=>
     rw[c] at h;have f:j=.free:=l;rw[f];exact .inr ⟨(cm h).symm,rfl⟩
    | false=>rw[c] at h; exact i k h
 refine go _ (λp=>?_) scope.names;obtain⟨n,k⟩:=p;by_cases d:(k == NameKind.free&&b.scope.kind == .function&&b.kindOf n == some .cell)=true
 .refine .inr ⟨?_,if_pos d⟩;simp only[tw,GN] at d;exact d.1.1
 .exact .inl (if_neg d)
theorem n8:∀(a:List (Str×NameKind)) (n:Nat) (acc:ai),(∀y∈a,y.2=.cell->y.1≠x)->(cellsFrom n a acc).lookup x=acc.lookup x
 | [],_,_,_=>rfl
 | (m,k)::r,n,acc,h=>by
  have b:=λy d=>h y (bK _ d);unfold cellsFrom;split
  .rename_i c;rw[n8 r _ _ b,List.lookup_cons,show (x == m)=false from by simpa using λe=>h (m,k) HP (by simpa using c) (Eq.symm e)]
  .exact n8 r n acc b
theorem sA {x:Str}{lo:Nat}:∀(a:List (Str×NameKind)) (n:Nat) (acc:ai),lo<=n->(∃c,acc.lookup x=some c/\lo<=c)->∃c,(cellsFrom n a acc).lookup x=some c/\lo<=c
 | [],_,_,_,h=>h
 | (m,k)::r,n,acc,b,h=>by
  unfold cellsFrom;split
  .refine sA r (n+1) _ (by omega) ?_;rw[List.lookup_cons];cases x == m with
   | true=>exact⟨n,rfl,b⟩
   | false=>exact h
  .exact sA r n acc b h
theorem om {x:Str}{lo:Nat}:∀(a:List (Str×NameKind)) (n:Nat) (acc:ai),lo<=n->(x,NameKind.cell)∈a->∃c,(cellsFrom n a acc).lookup x=some c/\lo<=c
 | (m,k)::r,n,acc,b,h=>by
  unfold cellsFrom;rcases ck h with e | h
  .cases e;rw[if_pos (by decide)];refine sA r (n+1) _ (by omega) ⟨n,?_,b⟩;rw[List.lookup_cons]; simp
  .split
   .exact om r _ _ (by omega) h
   .exact om r _ _ b h
structure CfOk (P:Str->Addr->Prop)(lo:Nat)(h:Heap)(cs:ai):Prop where
 src:∀x c,cs.lookup x=some c->P x c\/(lo<=c/\h.IsCell c none)
 inj:∀x y c,cs.lookup x=some c->cs.lookup y=some c->x=y
 lt:∀x c,cs.lookup x=some c->c<h.objs.size
theorem qy {P:Str->Addr->Prop}{lo:Nat}:∀(a:List (Str×NameKind)) (h:Heap) (acc:ai),lo<=h.objs.size->CfOk P lo h acc->CfOk P lo (pushCells h a) (cellsFrom h.objs.size a acc)
 | [],_,_,_,x=>x
 | (m,k)::r,h,acc,j,x=>by
  unfold pushCells cellsFrom;split
  .have:=qy (P:=P) (lo:=lo) r (h.push { cls:=.type "cell",data:=.cell none }) ((m,h.objs.size)::acc) (by rw[G0]; omega) ⟨λy c e=>?_,λy z c e f=>?_,λy c e=>?_⟩
   .rwa [G0] at this
   .rw[List.lookup_cons] at e;cases d:y == m with
    | true=>rw[d] at e; cases e; exact .inr ⟨j,_,dH _ rfl,rfl⟩
    | false=>rw[d] at e; exact (x.src y c e).imp id λq=>⟨q.1,q.2.keeps λb o e=>cb _ e⟩
   .rw[List.lookup_cons] at e f;cases d:y == m with
    | true=>
     rw[d] at e; cases e;cases i:z == m with
     | true=>rw[GN] at d i; rw[d,i]
     | false=>rw[i] at f; exact absurd (x.lt z _ f) (Hx _)
    | false=>
     rw[d] at e;cases i:z == m with
     | true=>rw[i] at f; cases f; exact absurd (x.lt y _ e) (Hx _)
     | false=>rw[i] at f; exact x.inj y z c e f
   .rw[G0];rw[List.lookup_cons] at e;cases d:y == m with
    | true=>rw[d] at e; cases e; exact Ie _
    | false=>rw[d] at e; exact HE (x.lt y c e)
  .exact qy r h acc j x
structure CsOk (X:Cx)(scope:Scope)(n:Nat)(h:Heap)(cs:ai):Prop where
 src:∀x c,cs.lookup x=some c->X.env.cells.lookup x=some c\/(n<=c/\h.IsCell c none)
 inj:∀x y c,cs.lookup x=some c->cs.lookup y=some c->x=y
 has:∀x,(scope.names.lookup x=some .cell\/scope.names.lookup x=some .free)->∃c,cs.lookup x=some c
 fr:∀x c,scope.names.lookup x=some .free->cs.lookup x=some c->X.env.cells.lookup x=some c
 own:∀x c,scope.names.lookup x=some .cell->cs.lookup x=some c->n<=c
def CsOk.mk' {X:Cx}{i:Scope}{N N':ar}{caps:List aC}{scope:Scope}{d:ah}{σ:St}{H:Hp}{s:Shared}{a:ai}{c0:Value}(S:CompS i N N' caps scope)(I:Inv X d σ H s)
  (b:∀x c,a.lookup x=some c->X.env.cells.lookup x=some c)(p:∀y∈scope.names,y.2=NameKind.free->∃c,a.lookup y.1=some c) :
  CsOk X scope s.heap.objs.size (pushCells (s.heap.push { cls:=c0,data:=.dict #[] }) scope.names) (cellsFrom (s.heap.objs.size+1) scope.names a):=by
 have ok:=qy (P:=λx c=>X.env.cells.lookup x=some c) (lo:=s.heap.objs.size) scope.names (s.heap.push { cls:=c0,data:=.dict #[] }) a (by rw[G0]; omega)
  ⟨λx c e=>.inl (b x c e),λx y c e m=>I.ok.inj x y c (b x c e) (b y c m),λx c e=>by
   obtain⟨v,o,j,_⟩:=I.cell x c (b x c e);rw[G0];exact HE (bS j)⟩
 rw[G0] at ok;have f:∀x,scope.names.lookup x=some .free->∀y∈scope.names,y.2=.cell->y.1≠x:=λx e y n k z=>by
  have:=S.cells y n k;rw[z,e] at this; cases this
 refine⟨ok.src,ok.inj,λx h=>?_,λx c e h=>?_,λx c e h=>?_⟩
 .rcases h with e | e
  .obtain⟨c,q,_⟩:=om (lo:=0) scope.names (s.heap.objs.size+1) a (G3 _) (Hm e);exact⟨c,q⟩
  .obtain⟨c,q⟩:=p _ (Hm e) rfl;exact⟨c,(n8 _ _ _ (f x e)).trans q⟩
 .rw[n8 _ _ _ (f x e)] at h;exact b x c h
 .obtain⟨r,q,l⟩:=om (lo:=s.heap.objs.size) scope.names (s.heap.objs.size+1) a (HA _) (Hm e);rw[h] at q; cases q;exact l
def yY
  (h:Q (newEnv scope s.heap.objs.size globals (cellsFrom (s.heap.objs.size+1) scope.names a) c none .none (some b) builtinsNs) { s with heap:=pushCells (s.heap.push { cls:=.type "dict",data:=.dict #[] }) scope.names }) :
  wpAny M A (newFunctionEnv scope globals a [] c none .none (some b)) Q E s:=by
 simp only[newFunctionEnv,Option.isSome_some,if_true];refine aL (wpAny_alloc ?_);refine aL (wpAny_layCells _ (λname kind d=>by cases e:kind == NameKind.cell <;> simp) _ _ _ _ ?_);rw[show ({ s with heap:=s.heap.push { cls:=.type "dict",data:=.dict #[] } }:Shared).heap.objs.size=s.heap.objs.size+1 from G0 ..];exact aL (ba (ba h))
def DD E (S:CompS X.env.scope X.N N' caps scope)(I:Inv X pins σ H s)(hC:s.heap.objs.size<=C)
 (O:CsOk X scope s.heap.objs.size h1 cl)(hf:∀b∈fp,dh X pins H b/\b<s.heap.objs.size) :
    (bv X N' scope cl C s H fp E).Ok where
  mod:=I.ok.mod
  kind:=S.kind
  glob:=I.ok.glob
  blt:=I.ok.blt
  above:=hC
  inj:=O.inj
  has:=λx hx=>by
    have hx':(relabel scope X.env).names.lookup x=some .cell\/(relabel scope X.env).names.lookup x=some .free:=hx;refine O.has x ?_;rcases hx' with q | q
    . exact (sE _ q).imp id λz=>z.2
    . rcases sE _ q with z | z
      . exact .inr z
      . exact absurd z.1 (by decide)
  cab:=λx c z e=>O.own x c (by
    have z':(scope.names.lookup x == some NameKind.cell)=true:=z;simpa using z') e
  hd:=I.ok.hd
  frames:=I.ok.frames
  stk:=.inl rfl
  exf:=λb hb=>⟨dA (eD (hf b hb).2 hC),λx c e=>(O.src x c e).elim (λq=>(hf b hb).1.2.2.2.2.1 x c q) λq z=>absurd (z ▸ (hf b hb).2) (Nat.not_lt.mpr q.1)⟩
  bs:=I.bs
  bsz:=bC I.ok.bsz I.sz
  noex:=λb o e hb=>by
    rcases (hf b hb).1.2.2.2.1 with z | z
    . exact I.ok.noex b o e z
    . exact absurd (eD (bS e) (bC I.ok.bsz z)) (Hx _)
  exfs:=λb hb z=>by
    rcases ck (I.stkSub b z) with e | e
    . exact (hf b hb).1.2.1 e
    . exact (hf b hb).1.2.2.1 e
  funs:=I.stack
  frf:=I.stkFree
def C3 E (S:CompS X.env.scope X.N N' caps scope)(I:Inv X pins σ H s)
  (O:CsOk X scope s.heap.objs.size h1 cl)(hf:∀b∈fp,dh X pins H b/\b<s.heap.objs.size)
  (hns:h1.Ns s.heap.objs.size m)(hk:∀b o,s.heap.get? b=some o->h1.get? b=some o) :
  Inv (bv X N' scope cl s.heap.objs.size s H fp E) [] (caps.map (iy σ)) H { s with heap:=h1,toks:=tk } where
 ok:=DD E S I (bA _) O hf
 os:=rfl
 bare:=I.bare
 base:=Un.kept hk
 loc:=by
  refine⟨m,hns,λi x v e1 e2 e3=>?_⟩;rw[GK] at e2;cases ec:caps[i]? with
  | none=>rw[ec] at e2; cases e2
  | some oc=>
   rw[ec] at e2;cases oc with
   | none=>cases e2
   | some j=>
    have e2':(σ[j]?).join=some v:=cm e2;have e4:σ[j]? = some (some v):=by
     cases q:σ[j]? with
     | none=>rw[q] at e2'; cases e2'
     | some o=>rw[q] at e2'; cases o with
      | none=>cases e2'
      | some v'=>cases e2'; rfl
    obtain⟨hN,hfr⟩:=S.cap i j x ec e1;have hkd:X.env.kindOf x=some .cell\/X.env.kindOf x=some .free:=S.free _ (Hm hfr) rfl;obtain⟨m0,_,hl⟩:=I.loc;obtain⟨u,r,l⟩:=hl j x v hN e4 (hkd.elim (λz=>.inr (.inl z)) λz=>.inr (.inr z));refine⟨u,r,?_⟩;rcases l with ⟨z,_⟩ | ⟨_,c,hc,hcell⟩
    .rcases hkd with q | q <;> rw[q] at z <;> cases z
    .obtain⟨c',hc'⟩:=O.has x (.inr hfr);have:c'=c:=by
      have:=O.fr x c' hfr hc';rw[hc] at this; exact (cm this).symm
     subst this;have e3':(relabel scope X.env).names.lookup x=some .local\/(relabel scope X.env).names.lookup x=some .cell\/(relabel scope X.env).names.lookup x=some .free:=e3;refine .inr ⟨?_,c',hc',?_⟩
     .rcases e3' with q | q | q
      .rcases sE _ q with z | z
       .rw[hfr] at z; cases z
       .exact absurd z.1 (by decide)
      .exact .inl q
      .exact .inr q
     .obtain⟨o,ho,hd⟩:=hcell;exact⟨o,hk _ o ho,hd⟩
 cell:=λx c e=>by
  rcases O.src x c e with q | q
  .obtain⟨v,o,ho,hd⟩:=I.cell x c q;exact⟨v,o,hk _ o ho,hd⟩
  .exact⟨none,q.2⟩
 free:=I.hok.fresh (bA _)
 freeC:=λx c e=>(O.src x c e).elim (I.freeC x c) λq=>I.hok.fresh q.1
 pin:=λp hp=>absurd (show p∈([]:ah) from hp) (by simp)
 hok:=I.hok.kept hk
 len:=by rw[GH]; exact S.len
def wy {pins:ah}{σ:St}{H:Hp}{s:Shared}{cl:ai}{it:Addr}{fp:al}{tn:Nat->Heap->Prop}{J:It}{Q:VK}{RR:Value->Addr->Result->Shared->Prop}
  (hc:X.calm=true)(S:CompS X.env.scope X.N N' caps scope)(I:Inv X pins σ H s)
  (c1:∀x c,cl.lookup x=some c->X.env.cells.lookup x=some c)(c2:∀y∈scope.names,y.2=NameKind.free->∃c,cl.lookup y.1=some c)
  (T:Turn X.prog X.w X.K tg J fp it tn)(t0:tn 0 s.heap)(hf:∀b∈fp,dh X pins H b)
  (hg:∀cl C s H fp,PG (bv X N' scope cl C s H fp λ_ _=>False) tg g)(ht:∀cl C s H fp,PTs (bv X N' scope cl C s H fp λ_ _=>False) ifs tt)(he:∀cl C s H fp,PE (bv X N' scope cl C s H fp λ_ _=>False) elt te)
  (hw:∀l,H l=none->i8 J l g tt te Q (caps.map (iy σ)) H)
  (hR:∀l C s' H' m,Inv X pins σ H' s'->dh X pins H' C->s'.heap.Ns C m->Q (.ref l) H'->RR (.ref l) C (.ok .next) s') :
  wpAny (model X.prog X.w) X.A (newList []) (λacc s₃=>wpAny (model X.prog X.w) X.A (newFunctionEnv scope X.env.globals cl [] X.env.qual none .none (some X.env)) (λcenv s₄=>
   codeAny (model X.prog X.w) X.A (.compStart (.ListComp elt [⟨tg,iter,ifs,0⟩] scope pos) 0 (.ref it) acc { cenv with scope:=relabel scope X.env }) (RR acc cenv.locals) s₄) X.xe s₃) X.xe s:=by
 refine G9 (yY ?_);dsimp only;have I3:Inv X pins σ (upd H s.heap.objs.size (.lst [])) { s with heap:=s.heap.push { cls:=.type "list",dict:=none,data:=.seq ([]:List Value).toArray } }:=
  I.laid (t':=s.toks) (λb u e=>cb _ e) (bA _) ⟨G3 _,[],0,.nil,dH _ rfl⟩
 have c6:H s.heap.objs.size=none:=I.hok.fresh (bA _);have G:∀b∈fp,b<s.heap.objs.size:=λb h=>by
  obtain⟨o,e,_⟩:=T.obj 0 _ t0 b h;exact bS e
 obtain⟨W,⟨m0,w0⟩,a3⟩:=hw s.heap.objs.size c6;generalize a5:s.heap.push { cls:=.type "list",dict:=none,data:=.seq ([]:List Value).toArray }=H2 at I3 ⊢;have hC:H2.objs.size=s.heap.objs.size+1:=by rw[<-a5,G0]
 have O:=CsOk.mk' (c0:=.type "dict") S I3 c1 c2;have t:(pushCells (H2.push { cls:=.type "dict",data:=.dict #[] }) scope.names).Ns H2.objs.size λ_=>none:=(Heap.Ns.new H2 (.type "dict")).keeps (pushCells_keeps _ _);have old:∀b o,H2.get? b=some o->(pushCells (H2.push { cls:=.type "dict",data:=.dict #[] }) scope.names).get? b=some o:=λb o e=>pushCells_keeps _ _ b o (cb _ e);dsimp only at O;generalize pushCells (H2.push { cls:=.type "dict",data:=.dict #[] }) scope.names=h₁ at O t old ⊢;generalize d3:cellsFrom (H2.objs.size+1) scope.names cl=cs at O ⊢;have U:∀b o,s.heap.get? b=some o->h₁.get? b=some o:=λb o e=>old b o (a5 ▸ cb _ e);have a2:∀b∈fp,dh X pins (upd H s.heap.objs.size (.lst [])) b/\b<H2.objs.size:=λb h=>
  ⟨⟨by rw[bE (IF (G b h))]; exact (hf b h).1,(hf b h).2⟩,by rw[hC]; exact HE (G b h)⟩
 have Er:Value->Shared->Prop:=notedBy (model X.prog X.w) X.A (compEnvC scope cs H2.objs.size X.env) λe s'=>RR (.ref s.heap.objs.size) H2.objs.size (.error e) s';have P:∀s₃:Shared,s₃={ s with heap:=h₁,toks:=s.toks } ->
   codeAny (model X.prog X.w) X.A (.compLoop (.ListComp elt [⟨tg,iter,ifs,0⟩] scope pos) 0 (.ref it) (.ref s.heap.objs.size) (compEnvC scope cs H2.objs.size X.env))
    (RR (.ref s.heap.objs.size) H2.objs.size) s₃:=by
  rintro s₃ rfl;have I4:=C3 (N':=N') (caps:=caps) (tk:=s.toks) (notedBy (model X.prog X.w) X.A (compEnvC scope cs H2.objs.size X.env) λe s'=>RR (.ref s.heap.objs.size) H2.objs.size (.error e) s') S I3 O a2 t old;generalize a:bv X N' scope cs H2.objs.size { s with heap:=H2 } (upd H s.heap.objs.size (.lst [])) fp (notedBy (model X.prog X.w) X.A (compEnvC scope cs H2.objs.size X.env) λe s'=>RR (.ref s.heap.objs.size) H2.objs.size (.error e) s')=X' at I4;have d1:PG X' tg g:=by rw[<-a]; exact PG.nox (hg cs H2.objs.size { s with heap:=H2 } (upd H s.heap.objs.size (.lst [])) fp)
  have c5:PTs X' ifs tt:=by rw[<-a]; exact PTs.nox (ht cs H2.objs.size { s with heap:=H2 } (upd H s.heap.objs.size (.lst [])) fp)
  have b0:PE X' elt te:=by rw[<-a]; exact PE.nox (he cs H2.objs.size { s with heap:=H2 } (upd H s.heap.objs.size (.lst [])) fp)
  have eP:X'.prog=X.prog:=by rw[<-a]; rfl
  have eW:X'.w=X.w:=by rw[<-a]; rfl
  have eK:X'.K=X.K:=by rw[<-a]; rfl
  have eA:X'.A=X.A:=by rw[<-a]; rfl
  have eC:X'.calm=true:=by rw[<-a]; exact hc
  have eE:X'.env=compEnvC scope cs H2.objs.size X.env:=by rw[<-a]; rfl
  have eX:X'.xe=notedBy (model X.prog X.w) X.A (compEnvC scope cs H2.objs.size X.env) λe s'=>RR (.ref s.heap.objs.size) H2.objs.size (.error e) s':=by rw[<-a]; rfl
  have E:∀{H':Hp},(∀b∈fp,H' b=none)->∀b∈fp,dh X' [] H' b:=λ{H'} hn b h=>by
   obtain⟨f0,f1,f2,f3,f4,f5⟩:=hf b h;refine⟨hn b h,?_,?_,.inl ?_,λx c e=>?_,λp hp=>?_⟩
   .rw[eE]; exact dA (by show b<H2.objs.size; rw[hC]; exact HE (G b h))
   .intro z;have z':b∈fG X.stack:=by rw[<-a] at z; exact z
    rcases ck (I.stkSub b z') with e | e
    .exact f1 e
    .exact f2 e
   .rw[<-a]; exact h
   .rw[eE] at e; exact (O.src x c e).elim (f4 x c) λq z=>absurd (z ▸ G b h) (Nat.not_lt.mpr (bC (by rw[hC]; exact HA _) q.1))
   .have:p∈([]:ah):=by rw[<-a] at hp; exact hp
    exact absurd this (by simp)
  refine AQ (λn s'=>∃i ys σ' H',Inv X' [] σ' H' s'/\tn i s'.heap/\(∀b∈fp,H' b=none)/\W i n ys σ' H') ?_ m0
   ⟨0,[],_,_,I4,T.keep 0 _ _ t0 λb _ o e=>U b o e,λb h=>(a2 b h).1.1,w0⟩
  rintro n s5 ⟨i,ys,σ5,Y,I5,a4,a7,w5⟩;rw[<-eX];rcases a3 i n ys σ5 Y w5 with ⟨stop,q⟩ | ⟨go,N,hN,step⟩
  .have d:=T.done X' eP eW eK eC i [] s5 σ5 Y X'.xe I5 (E a7) a4 stop;rw[eA] at d;refine bc d λr s6 hZz=>?_;obtain⟨hr,I6⟩:=hZz;subst hr;have u:Un (fG X.stack) fp (upd H s.heap.objs.size (.lst [])) Y H2 s6.heap:=by
    have:=I6.base;rw[<-a] at this; exact this
   have a1:HOk X.prog X.w Y s6.heap:=by have:=I6.hok; rw[eP,eW] at this; exact this
   have c7:s6.os=s.os:=by have:=I6.os; rw[<-a] at this; exact this
   have I7:Inv X pins σ Y s6:=I3.call' (ch:=fp) c7 u a1 I6.bare λb h=>by
    obtain⟨f0,f1,f2,f3,f4,f5⟩:=hf b h;exact⟨f3,f1,f4,f5⟩
   obtain⟨m6,n6,_⟩:=I6.loc;have fC:Y H2.objs.size=none:=by have:=I6.free; rw[eE] at this; exact this
   rw[eE] at n6;exact hR _ _ s6 Y m6 I7 (I3.fpOk (bA _) fC) n6 q
  .have d:=T.item X' eP eW eK eC i [] s5 σ5 Y X'.xe I5 (E a7) a4 go;rw[eA] at d;refine bc d λr s6 hZz=>?_;obtain⟨u,hr,h6⟩:=hZz;subst hr;refine bc h6 λ_ s7 hZz=>?_;obtain⟨x,H7,I7,r7,y7,a0,b9⟩:=hZz;have b8:=I7.pinned (E b9) (T.obj _ _ a0);have ag:=d1 _ s7 σ5 H7 x u _ b8 r7 (step x H7 y7);rw[eP,eW,eA,eE] at ag;refine bc ag λ_ s8 hZz=>?_;obtain⟨σ8,H8,I8,q8⟩:=hZz;have a9:=c5 _ s8 σ8 H8 _ I8 q8;rw[eP,eW,eA,eE] at a9;have again:∀{s9:Shared} {σ9:St} {Z:Hp} {L:av},Inv X' ([]++du fp s7.heap) σ9 Z s9->N L σ9 Z->∃m,m<n/\∃i ys σ' H',Inv X' [] σ' H' s9/\tn i s9.heap/\(∀b∈fp,H' b=none)/\W i m ys σ' H':=λ{s9 σ9 Z L} I9 n9=>by
    obtain⟨m',hm,w9⟩:=hN L σ9 Z n9;refine⟨m',hm,i+1,L,σ9,Z,I9.unpinned,T.keep _ _ _ a0 λb h o e=>(I9.pin (b,o) (cx _ (cx _ (lc h e)))).1,λb h=>?_,w9⟩;obtain⟨o,e,dd⟩:=T.obj _ _ a0 b h;exact (I9.pin (b,o) (cx _ (cx _ (lc h e)))).2.1
   refine bc a9 λok s9 hZz=>?_;obtain⟨Z,I9,q9⟩:=hZz;cases ok with
   | false=>
    rw[if_neg (by decide)] at q9 ⊢;exact again I9 q9
   | true=>
    rw[if_pos rfl] at q9 ⊢;have ae:=b0 _ s9 σ8 Z _ I9 q9;rw[eP,eW,eA,eE] at ae;refine bc ae λy c3 hZz=>?_;obtain⟨v,c8,d0,c4,b6⟩:=hZz;obtain⟨a6,hy,hz,hn⟩:=b6;have aa:=pR (X:=X') _ c3 σ8 c8 (.ref s.heap.objs.size) [v] (.ref s.heap.objs.size) [y] (λ_ H'=>N (a6++[v]) σ8 H') d0 rfl (.cons c4 .nil) ⟨_,a6,v,rfl,rfl,hy,hz,hn⟩;rw[eP,eW,eA] at aa;exact bc aa λ_ d4 ⟨_,d2,b7,_,c9⟩=>again b7 c9
 exact codeAny_compStart_list (P _ rfl) (T.self _ 0 _ _ _ (T.keep 0 _ _ t0 λb _ o e=>U b o e) (P _ rfl))
def yM (z:X.calm=true)(L:compOk X.env.scope X.N N' caps scope=true)(hi:PI X tg iter wi)
  (P:∀c C s H d,PG (bv X N' scope c C s H d λ_ _=>False) tg g)(ht:∀c C s H d,PTs (bv X N' scope c C s H d λ_ _=>False) ifs tt)(Z:∀c C s H d,PE (bv X N' scope c C s H d λ_ _=>False) elt te)
  (hs:∀x,foldedSetIterable iter X.env x=pure x:=by intro _; rfl) :
  PE X (.ListComp elt [⟨tg,iter,ifs,0⟩] scope pos) (f8 wi caps g tt te):=by
 intro a s σ H Q I h;have S:=CompS.of L;obtain⟨c,i,c1,c2⟩:=uU (scope:=scope) (env:=X.env) λy hy j=>I.ok.has y.1 (S.free y hy j);rw[eval_ListComp];refine wpAny_comprehension_free (use:=none) rfl hs i S.kind S.locs (bc (hi a s σ H _ I h) λv s1 M=>bc M λt s2 F=>?_);obtain⟨it,d,tn,J,H2,rfl,Y,T,t0,f2,B⟩:=F;refine wy (RR:=λacc C=>compPost (model X.prog X.w) X.A X.xe none (EP X a σ Q) acc C) z S Y c1 c2 T t0 f2 P ht Z B ?_;intro l C p n m I' fC U q;refine⟨m,U,λW k=>?_⟩;obtain⟨f0,f1,f3,r,E,u⟩:=fC;have f:Inv X a σ n { p with heap:=W }:=I'.turned (t':=p.toks) (it:=C) (λb o G e=>k.extBut b o G e) f0 f1 r E u;exact⟨.ref l,n,f,rfl,q⟩
def Cy (hc:X.calm=true)(hS:compOk X.env.scope X.N N' caps scope=true)(hN:X.N.Nodup)(hx:X.N[i]? = some x)(hl:Loc X.env.scope x)(hi:PI X tg iter wi)
  (hg:∀cl C s H fp,PG (bv X N' scope cl C s H fp λ_ _=>False) tg g)(ht:∀cl C s H fp,PTs (bv X N' scope cl C s H fp λ_ _=>False) ifs tt)(he:∀cl C s H fp,PE (bv X N' scope cl C s H fp λ_ _=>False) elt te)
  (hsw:swapsWith (.ListComp elt [⟨tg,iter,ifs,0⟩] scope pos) (some (.Name x pos')) spos.line X.env=pure true)(hf:X.fn x=true\/X.env.scope.names.lookup x=some .local:=by first | exact .inl rfl | exact .inr rfl | assumption)
  (hs:∀x,foldedSetIterable iter X.env x=pure x:=by intro _; rfl) :
  PS X (.Assign [.Name x pos'] (.ListComp elt [⟨tg,iter,ifs,0⟩] scope pos) spos) (g9 (f8 wi caps g tt te) (dW i)):=by
 intro pins s σ H D I h;have S:=CompS.of hS;obtain⟨cl,hcl,c1,c2⟩:=uU (scope:=scope) (env:=X.env) λy hy hyf=>I.ok.has y.1 (S.free y hy hyf);rw[exec_Assign_Name_used _ _ _ _ hsw];refine aL (JM (aL ?_));show wpAny _ X.A (do let _ <-comprehension (.ListComp elt [⟨tg,iter,ifs,0⟩] scope pos) scope X.env _ (newList []) false (eval iter X.env) (some (assign (.Name x pos') X.env))) _ _ s;refine aL (Hl (wpAny_comprehension_free (use:=some (assign (.Name x pos') X.env)) (Q:=λ_ s'=>SP X pins D .next s') rfl hs hcl S.kind S.locs
  (bc (hi pins s σ H _ I h) λv s1 h1=>bc h1 λitv s2 h2=>?_)) (λ_ s' hq=>ba (ba hq)) λ_ _ e=>e)
 obtain⟨it,fp,tn,J,H2,rfl,I2,T,t0,f2,hw⟩:=h2;refine wy (RR:=λacc C=>compPost (model X.prog X.w) X.A X.xe (some (assign (.Name x pos') X.env)) (λ_ s'=>SP X pins D .next s') acc C) hc S I2 c1 c2 T t0 f2 hg ht he hw ?_;intro l C s' H' m I' fC hn q;show wpAny _ X.A (assign (.Name x pos') X.env (.ref l)) _ _ s';have oC:=hn;obtain⟨o,es,ep,ho,hd,_⟩:=oC;have I1:Inv X (pins++du [C] s'.heap) σ H' s':=I'.pinned (fp:=[C]) (λb hb=>by rw[GI.mp hb]; exact fC) λb hb=>by
  rw[GI.mp hb];exact⟨o,ho,λv z=>by rw[hd] at z; cases z⟩
 refine bc (rJ (i:=i) hN hx hl hf _ s' σ H' (.ref l) (.ref l) D.nx I1 rfl q) λ_ s2 hZz=>?_;obtain⟨σ2,H2',I2',q2⟩:=hZz;have hC2:s2.heap.get? C=some o:=(I2'.pin (C,o) (cx _ (cx _ (lc (GI.mpr rfl) ho)))).1;have nC2:H2' C=none:=(I2'.pin (C,o) (cx _ (cx _ (lc (GI.mpr rfl) ho)))).2.1;have hn2:s2.heap.Ns C m:=by
  obtain⟨o',es',ep',ho',r'⟩:=hn;rw[ho] at ho'; cases ho';exact⟨o,es',ep',hC2,r'⟩
 refine⟨m,hn2,λh' hs'=>?_⟩;obtain⟨f0,f1,f3,f4,f5,f6⟩:=fC;have I'':Inv X pins σ2 H2' { s2 with heap:=h' }:=(I2'.unpinned).turned (t':=s2.toks) (it:=C) (λb o hb e=>hs'.extBut b o hb e) nC2 f1 f4 f5 f6;exact⟨σ2,H2',I'',q2⟩
end
def dM (P:Program)(w:World):gG:=λb H s E e d=>∃(a T C:Addr) (f:List (Str×V)) (c:Hp),e=.ref a/\d.os=s.os/\AllBare d.gens/\Un (fG b) [] H c s.heap d.heap/\HOk P w c d.heap /\
 c a=some (.exc C false f)/\Fly d.heap a T .none/\c T=none/\s.heap.objs.size<=T/\E (.ref a) none c
section
variable {X:Cx}{d:ah}{σ:St}{H:Hp}{s:Shared}
def Inv.fsFree (I:Inv X d σ H s):∀b∈X.fs,H b=none:=λb a=>by
 obtain⟨_,o,c,_⟩:=I.ok.funs.mem a;exact I.base.free b o c (I.ok.frf b a) λz=>I.ok.exfs b z a
def Inv.xstep {a C:Addr}{nw:Bool}{N:List (Str×V)}{i ch:al}{Z:Heap}(I:Inv X d σ H s)(g:H a=some (.exc C nw N))(st:XStep i a ch s.heap Z)(v:∀b∈i,b=X.env.locals\/b∈X.fs)
  (f:∀b∈ch,H b=none/\X.s₀.heap.objs.size<=b/\b≠X.env.locals/\(∀x c,X.env.cells.lookup x=some c->c≠b)/\∀p∈X.pn++d,p.1≠b) :
  Inv X d σ (upd H a (.exc C false N)) { s with heap:=Z }:=by
 have k:∀b,H b=none->b≠a:=λb n z=>by rw[z,g] at n; cases n
 have J:∀b∈i,H b=none:=λb h=>by
  rcases v b h with z | z
  .rw[z]; exact I.free
  .exact I.fsFree b z
 have j:∀b o,H b=some o->b∉i/\b∉ch:=λb o e=>⟨(λz=>by rw[J b z] at e; cases e),(λz=>by rw[(f b z).1] at e; cases e)⟩
 have up:∀b o,H b=some o->b≠a->(upd H a (.exc C false N)) b=some o:=λb o e n=>by rw[bE n]; exact e
 refine I.step (g':=s.gens) (d':=s.drawn) (t':=s.toks) (ch:=ch) (λb h=>⟨.inr (f b h).2.1,(f b h).2.2⟩) (λb o n1 W l e n=>?_) (λb o n1 W l e n=>?_) (λb o _ _ n=>by rw[bE (k b n)]; exact n)
  (λb o l e=>?_) (λb xs e=>up b _ e λz=>by rw[z,g] at e; cases e) (λb o u e=>up b _ e λz=>by rw[z,g] at e; cases e) (λb ps e=>⟨#[],?_⟩) (λm hm=>?_) (λb o e=>?_) I.bare
 .exact st.keep b o e (k b n) (λz=>(v b z).elim n1 W) l
 .by_cases z:b∈i
  .exact st.slot b o e (k b n) z l
  .exact⟨o.slots,st.keep b o e (k b n) z l⟩
 .by_cases z:b=a
  .subst z;obtain⟨_,F,G,L,_,hd,_⟩:=I.hok b _ g;obtain⟨A,M,_⟩:=st.exc F G L hd;exact⟨_,M⟩
  .exact st.there b o e z
 .rw[up b _ e λz=>by rw[z,g] at e; cases e]; simp
 .obtain⟨o,B,E,Y,r⟩:=hm;have n:=k _ I.free;have U:X.env.locals∉ch:=λz=>(f _ z).2.2.1 rfl;by_cases z:X.env.locals∈i
  .obtain⟨sl,e⟩:=st.slot _ o Y n z U;exact⟨_,B,E,e,r⟩
  .exact⟨o,B,E,st.keep _ o Y n z U,r⟩
 .by_cases h:b=a
  .subst h;rw[bT] at e;cases e;obtain⟨z,F,G,L,c1,c2,c3,c4,q⟩:=I.hok b _ g;obtain⟨A,M,sz,_⟩:=st.exc F G L c2;refine⟨z,_,A,M,c1,rfl,sz.trans c3,(λw=>nomatch w),?_⟩;rcases q with q | ⟨t,d1,Q,P,mA,⟨T,B,E,e3,c⟩,r⟩
   .exact .inl q
   .exact .inr ⟨t,d1,up t _ Q P,P,mA,⟨T,B,E,st.keep t T e3 P (j t _ Q).1 (j t _ Q).2,c⟩,r⟩
  .rw[bE h] at e;refine (I.hok b o e).stay (λc u hc q=>?_) (λc q=>up c _ q λz=>by rw[z,g] at q; cases q) λc xs q=>up c _ q λz=>by rw[z,g] at q; cases q
   rcases hc with z | z
   .subst z;exact st.keep c u q h (j c _ e).1 (j c _ e).2
   .exact st.keep c u q (λy=>by rw[y,g] at z; cases z) (j c _ z).1 (j c _ z).2
def Inv.newAt (I:Inv X d σ H s)(a:s.heap.objs.size<=b):H b=none/\X.s₀.heap.objs.size<=b/\b≠X.env.locals/\(∀x c,X.env.cells.lookup x=some c->c≠b)/\∀p∈X.pn++d,p.1≠b:=by
 obtain⟨e,f1,f2,h,g,f⟩:=I.fpOk a (I.hok.fresh a);exact⟨e,bC I.sz a,f1,g,f⟩
def Inv.sinceAt (I:Inv X d σ H s)(j:Inv X d σ' a k)(h:s.heap.objs.size<=b)(e:a b=none):a b=none/\X.s₀.heap.objs.size<=b/\b≠X.env.locals/\(∀x c,X.env.cells.lookup x=some c->c≠b)/\∀p∈X.pn++d,p.1≠b:=by
 obtain⟨i,f1,f2,g,f⟩:=I.newAt h;exact⟨e,f1,f2,g,f⟩
def mM (X:Cx)(E:St->XK):Prop:=∀(d:ah) (σ:St) (H:Hp) (s:Shared) (a C:Addr) (b:List (Str×V)),Inv X d σ H s->H a=some (.exc C true b)->E σ (.ref a) none (upd H a (.exc C false b))->X.xe (.ref a) s
end
def passN:bw (dM P w) X (λ_ _ _ _=>False):=λ_ _ _ _ _ _ _ h=>by
 obtain⟨_,_,_,_,_,_,_,_,_,_,_,_,_,_,z⟩:=h;exact z.elim
section
variable {P:Program}{w:World}{K:bh}{i:Str->aA}{base:Heap}{N:ar}{d:Str}{g:Scope}{f:Addr}{j:Value}{A:Around}{c:List Env}{s:Shared}{H:Hp}{E:XK}
def passF:bw (dM P w) (eO (dM P w) P w K i base N d g f j A c s H E) (λ_=>E):=by
 intro pins σ H1 s1 e s' I1 hcx;obtain⟨a,T,C,fs,H2,rfl,os,bare,un,hok,ha,fly,nT,lT,q⟩:=hcx;have I2:=I1.call' (ch:=[]) os un hok bare λb z=>absurd z (by simp);show wpAny _ _ (leaving _ (.ref a)) _ _ s';refine C6 (base:=base) I2.ok.frames I2.stack rfl fly λh' F' st=>?_;have I3:=I2.xstep ha st (λb hb=>ck (I2.stkSub b hb)) λb hb=>by
  rcases ck hb with z | z
  .rw[z]; exact I1.sinceAt I2 lT nT
  .rw[GI.mp z]; exact I2.newAt (bA _)
 have e:upd H2 a (.exc C false fs)=H2:=by
  funext b
  by_cases z:b=a
  .subst z; rw[bT,ha]
  .rw[bE z]
 rw[e] at I3;exact⟨a,_,C,fs,H2,rfl,I3.os,I3.bare,I3.base,I3.hok,ha,F',(I2.newAt (bA _)).1,bC I1.sz (bC (Nat.le_of_lt_succ (Nat.lt_succ_of_le (by
  have:=I2.sz;have h1:s1.heap.objs.size<=s'.heap.objs.size:=by
   obtain⟨m,hn,_⟩:=I1.loc;exact bC lT (HK (by obtain⟨⟨_,_,_,_,_,_,_,z,_⟩,_⟩:=fly; exact bS z))
  exact h1))) (bA _)),q⟩
def ks:mM (eO (dM P w) P w K i base N d g f j A c s H E) (λ_=>E):=by
 intro p σ u n a C r h m q;obtain⟨_,o,G,e,I,t,B,v,_⟩:=h.hok a _ m;show wpAny _ _ (leaving _ (.ref a)) _ _ n;refine DG (base:=base) h.ok.frames h.stack rfl e t (v rfl) λF x st=>?_;have k:=h.xstep m st (λb l=>ck (h.stkSub b l)) λb l=>by
  rw[GI.mp l]; exact h.newAt (bA _)
 have y:(upd u a (.exc C false r)) n.heap.objs.size=none:=by
  rw[bE (λz=>by have:=h.hok.lt m; rw[<-z] at this; exact Hx _ this)];exact (h.newAt (bA _)).1
 exact⟨a,_,C,r,_,rfl,k.os,k.bare,k.base,k.hok,bT,x,y,h.sz,q⟩
end
section
variable {X:Cx}{e:Expr}{b:TE}{pos:Pos}{E:St->XK}
def fM (K:bh)(b:TE)(E:St->XK):TS:=λ_ σ H=>b σ H λv c=>∃(a C:Addr) (f:al) (d:List (Str×V)),v=.ref a/\c a=some (.exc C true d)/\XO K C f/\E σ (.ref a) none (upd c a (.exc C false d))
def tF (x:X.calm=true)(k:mM X E)(g:PE X e b):PS X (.Raise (some e) none pos) (fM X.K b E):=by
 intro c s σ H D I h;have go:wpAny (model X.prog X.w) X.A (raiseStmt X.env (some (do let v <-eval e X.env; standAt pos; pure v)) none) (SP X c D) X.xe s:=by
  refine Du (K:=X.K) (I.ok.hd x) (aL (bc (g c s σ H _ I h) λu m ⟨v,r,d,l,n⟩=>aL (JM (ba ?_))));obtain⟨a,C,j,t,rfl,f,T,q⟩:=n;obtain rfl:u=Value.ref a:=l;obtain⟨_,o,i,p,B,y,F,z,_⟩:=d.hok a _ f;exact⟨a,C,j,o,i,rfl,T,p,B,y,z rfl,d.kIn,k c σ r m a C t d f q⟩
 rw[arm_exec_Raise];exact aL (JM go)
end
section
variable {X:Cx}{k:Nat}{f C W:Addr}{tl:al}{fd:FuncData}{ps:ar}{sp:Sp}{dvs:av}{ds:ao}{E:St->XK}{x m:Str}{p pos apos:Pos}{e o:Expr}{es:au}{ta tv:TE}{t:TA}
def eM (C:Addr)(sp:Sp)(dvs:av)(E:St->XK)(t:TA):TE:=λσ H Q=>t σ H λb a=>b.length<=100/\∀x,a x=none ->
 sp (.ref x::(b++dvs)) (upd a x (.exc C true [])) (λv c=>v=.non/\Q (.ref x) c) (E σ)
def uk (T:XC X.K C (.ref f) tl)(F:FnOk X.prog X.w X.K X.mg X.base (dM X.prog X.w) k f fd ps sp)(hr:Room (k+1) X.A)(hb:Binds X.K fd ps ds)(hd:Vals dvs ds)
  (M:bw (dM X.prog X.w) X E)(I:Inv X b σ H s)(r:Vals i us)(j:i.length<=100)
  (h:∀x,H x=none->sp (.ref x::(i++dvs)) (upd H x (.exc C true [])) (λv U=>v=.non/\Q (.ref x) U) (E σ)) :
  wpAny (model X.prog X.w) X.A (call (.ref C) us) (EP X b σ Q) X.xe s:=by
 have d:us.length<=sizeLine:=by rw[<-r.length]; exact HK (qh (by omega))
 refine uR T I.kIn d λz a n l=>?_;have q:=h a (I.hok.fresh l);obtain⟨tt,G,nt,et⟩:=n.there;have g:Inv X b σ (upd H a (.exc C true [])) { s with heap:=z }:=I.laid (t':=s.toks) n.keeps l ⟨G3 _,_,_,G,rfl,rfl,rfl,λ_=>rfl,.inl ⟨rfl,rfl⟩⟩;have y:Vals (V.ref a::(i++dvs)) (Value.ref a::(us++ds)):=.cons rfl (r.append hd);have P:(Value.ref a::us++ds).length=ps.length:=by
  have e:=y.length;rw[F.len _ _ _ _ q] at e;exact e.symm
 refine Jz (IG (F.run _ X.stack _ _ ⟨Value.ref a::us,[]⟩ (Value.ref a::(us++ds)) _ _ (E σ) (hr.make C us []) (g.env0.make C us []) (hb _ (Value.ref a::us) g.kIn P) y q) λY N c=>?_);cases Y with
 | error e=>exact M b σ _ _ e N g c
 | ok fl=>
  cases fl with
  | ret u=>
   obtain⟨v,H',L,Z,B,J⟩:=g.after c;subst B;exact⟨Z,⟨V.ref a,H',L,rfl,J⟩⟩
  | next=>exact False.elim c
  | brk=>exact False.elim c
  | cont=>exact False.elim c
def C7 (T:XC X.K C (.ref f) tl)(b:PySem.W.keepIn X.K (.ref C)=true)(F:FnOk X.prog X.w X.K X.mg X.base (dM X.prog X.w) k f fd ps sp)(v:Room (k+1) X.A)(i:Gl X x)(n:X.mg x=some (.ref C))(y:Binds X.K fd ps ds)(hd:Vals dvs ds)(u:bw (dM X.prog X.w) X E)
  (l:PA X (e::es) t)(c:(x == ("__debug__" : Str))=false:=by decide)(j:starEach (e::es) X.env=(false,eval e X.env)::starEach es X.env:=by rfl)(d:(backTo pos (starEach es X.env)).any (·.1)=false:=by rfl) :
  PE X (.Call (.Name x p) (e::es) [] pos) (eM C sp dvs E t):=by
 intro a s σ H Q I h;refine He (ie I i n ?_ c);refine IR (h₀:=X.base) I.ok.mod.kin b (bc (l pos a s σ H _ I h) λJ B ⟨z,G,g,r,q⟩=>⟨g.kIn,?_⟩) j d;exact uk T F v y hd u g r q.1 q.2
def Dj (T:XC X.K C (.ref f) tl)(b:PySem.W.keepIn X.K (.ref C)=true)(F:FnOk X.prog X.w X.K X.mg X.base (dM X.prog X.w) k f fd ps sp)(j:Room (k+1) X.A)(d:Gl X x)(g:X.mg x=some (.ref C))(l:Binds X.K fd ps ds)(hd:Vals dvs ds)(i:bw (dM X.prog X.w) X E)
  (a:(x == ("__debug__" : Str))=false:=by decide):PE X (.Call (.Name x p) [] [] pos) (eM C sp dvs E er):=by
 intro c s σ H Q I h;refine He (ie I d g ?_ a);exact Ib I.kIn b (uk (us:=[]) T F j l hd i I .nil h.1 h.2)
def Inv.inst (I:Inv X d σ H s)(l:H a=some (.exc C L g)):∃b,s.heap.Inst a C b/\(∀f,RelO (g.lookup f) (b f))/\PySem.Within b (g.map (·.1)):=by
 obtain⟨_,o,F,e,i,v,B,G,q⟩:=I.hok a _ l;have h:∀c,o.data≠.cls c:=λc z=>by rw[v] at z; cases z
 rcases q with ⟨j,rfl⟩ | ⟨u,y,J,w,b,n,r,A⟩
 .exact⟨λ_=>none,⟨o,e,i,h,.inl ⟨j,λ_=>rfl⟩⟩,λf=>IC,PySem.Within.nil⟩
 .exact⟨b,⟨o,e,i,h,.inr ⟨u,y,w,n⟩⟩,r,A⟩
def mQ (K:bh)(ta:TE)(f:Str):TE:=λσ H Q=>ta σ H λx b=>∃(a C:Addr) (fI:Value) (tl:al) (d:Bool) (c:List (Str×V)) (v:V),x=.ref a/\b a=some (.exc C d c)/\XC K C fI tl/\NoAttr K C f/\c.lookup f=some v/\Q v b
def FV (j:PE X e ta)(i:attributeBase e m X.env (eval e X.env)=eval e X.env):PE X (.Attribute e m pos) (mQ X.K ta m):=by
 intro b s σ H Q I h;refine uA i (bc (j b s σ H _ I h) λu F t=>?_);obtain⟨x,A,d,y,z⟩:=t;obtain⟨a,C,fI,tl,G,M,v,rfl,r,T,n,l,q⟩:=z;obtain rfl:u=Value.ref a:=y;obtain⟨B,J,rel,_⟩:=d.inst r;have g:=rel m;rw[l] at g;obtain⟨L,w,c⟩:=RelO.some_of g;exact zg T d.kIn n J w (PySem.W.handedOut_of (vf c)) ⟨v,A,d.tok _,c,q⟩
def g8 (K:bh)(ta tv:TE)(f:Str):TS:=λD σ H=>tv σ H λy i=>ta σ i λx h=>∃(a C:Addr) (fI:Value) (tl:al) (g:Bool) (c:List (Str×V)),x=.ref a/\h a=some (.exc C g c)/\XC K C fI tl/\NoAttr K C f/\c.length<100 /\
 ∀d:Hp,d a=some (.exc C g (putF f y c))->(∀b o,b≠a->h b=some o->d b=some o)->D.nx σ d
def Ge (I:Inv X pins σ H s)(ha:H a=some (.exc C nw fs))(T:XC X.K C fI tl)
  (n:NoAttr X.K C m)(hl:fs.length<100)(ry:RelV y u)(h:∀s' H',Inv X pins σ H' s'->H' a=some (.exc C nw (putF m y fs))->(∀b o,b≠a->H b=some o->H' b=some o)->Q () s') :
  wpAny (model X.prog X.w) A (setAttr (.ref a) m u) Q E' s:=by
 obtain⟨_,o,vs,e,c1,c2,c3,c4,q⟩:=I.hok a _ ha;obtain⟨mA,J,rel,wi⟩:=I.inst ha;have lt:a<s.heap.objs.size:=bS e;refine Ei T I.kIn n J wi (by rw[GH]; exact qh (by omega)) λh' tk J' sz kp ob=>?_;obtain⟨o1,e1,d1,dd⟩:=ob o e;obtain⟨o2,e2,cl2,_,dc⟩:=J';obtain rfl:o1=o2:=cm (e1.symm.trans e2);obtain⟨d,hd1,hd2,hd3,hold,hnew⟩:∃d,o1.dict=some d/\d≠a/\h'.Ns1 d (λz=>if z=m then some u else mA z)/\(H d=some (.own a)\/H d=none)/\(∀b ob,b≠a->b≠d->s.heap.get? b=some ob->h'.get? b=some ob):=by
  rcases dc with ⟨z,_⟩ | ⟨d,z1,z2,z3⟩
  .rcases dd with ⟨dx,_,w⟩ | ⟨_,w⟩ <;> rw[w] at z <;> cases z
  .refine⟨d,z1,z2,z3,?_,λb ob nb nd zb=>kp b ob nb (λo0 dx g1 g2=>?_) zb⟩
   .rcases dd with ⟨dx,w1,w2⟩ | ⟨_,w⟩
    .rw[w2] at z1; cases z1;rcases q with ⟨q1,_⟩ | ⟨dy,q1,q2,_⟩
     .rw[q1] at w1; cases w1
     .rw[q1] at w1; cases w1; exact .inl q2
    .rw[w] at z1; cases z1;exact .inr (I.hok.fresh (bA _))
   .obtain rfl:o=o0:=cm (e.symm.trans g1);rcases dd with ⟨dy,w1,w2⟩ | ⟨w1,_⟩
    .rw[w1] at g2; cases g2; rw[w2] at z1; cases z1; exact nd
    .rw[w1] at g2; cases g2
 have tr:∀b ob,H b=some ob->b≠a->ob≠.own a->b≠d:=λb ob z _ ne w=>by
  rw[w] at z;rcases hold with w1 | w1 <;> rw[w1] at z <;> cases z
  exact ne rfl
 have up:∀b ob,H b=some ob->b≠a->(upd (upd H d (.own a)) a (.exc C nw (putF m y fs))) b=some ob:=λb ob z nb=>by
  rw[bE nb];by_cases w:b=d
  .subst w;rcases hold with w1 | w1 <;> rw[w1] at z
   .rw[bT]; exact z
   .cases z
  .rw[bE w]; exact z
 have unt:∀b,H b=none->s.heap.get? b≠none->b≠a/\b≠d:=λb z w=>by
  refine⟨(λv=>by rw[v,ha] at z; cases z),λv=>?_⟩;rcases dd with ⟨dx,w1,w2⟩ | ⟨_,w2⟩
  .rw[hd1] at w2; cases w2;rcases q with ⟨q1,_⟩ | ⟨dy,q1,q2,_⟩
   .rw[q1] at w1; cases w1
   .rw[q1] at w1; cases w1; rw[v,q2] at z; cases z
  .rw[hd1] at w2; cases w2;exact w (by rw[v]; exact IB (bA _))
 have some_ne:∀{b:Addr} {ob:Obj},s.heap.get? b=some ob->s.heap.get? b≠none:=λz w=>by rw[z] at w; cases w
 refine h _ _ (I.un (H':=upd (upd H d (.own a)) a (.exc C nw (putF m y fs))) (h':=h') (t':=tk) ⟨λb ob z nb _ _=>?_,λb ob z nb _ _=>?_,λb ob z nb _=>?_,λb ob z _=>?_,λb xs z=>?_,λb ob v z=>?_,λb ps z=>⟨#[],?_⟩⟩ λb ob z=>?_) bT λb ob nb z=>up b ob z nb
 .obtain⟨n1,n2⟩:=unt b nb (some_ne z);exact hnew b ob n1 n2 z
 .obtain⟨n1,n2⟩:=unt b nb (some_ne z);exact⟨ob.slots,hnew b ob n1 n2 z⟩
 .obtain⟨n1,n2⟩:=unt b nb (some_ne z);rw[bE n1,bE n2]; exact nb
 .by_cases n1:b=a
  .rw[n1]; exact⟨_,e1⟩
  .by_cases n2:b=d
   .obtain⟨od,_,_,w,_⟩:=hd3;rw[n2]; exact⟨od,w⟩
   .exact⟨ob,hnew b ob n1 n2 z⟩
 .exact up b _ z λv=>by rw[v,ha] at z; cases z
 .exact up b _ z λv=>by rw[v,ha] at z; cases z
 .rw[up b _ z λv=>by rw[v,ha] at z; cases z]; simp
 .by_cases n1:b=a
  .subst n1;rw[bT] at z;cases z;refine⟨by have:=r6 m y fs; omega,o1,vs,e1,cl2,by rw[d1]; exact c2,c3,c4,.inr ⟨d,hd1,by rw[bE hd2,bT],hd2,_,hd3,λg=>?_,λg hg=>?_⟩⟩
   .show RelO ((putF m y fs).lookup g) (if g=m then some u else mA g);rw[r4];by_cases w:g=m
    .rw[if_pos w,if_pos w]; exact ry
    .rw[if_neg w,if_neg w]; exact rel g
   .by_cases w:g=m
    .rw[w]; exact (mO m y fs).1
    .refine (mO m y fs).2 g (wi g λv=>hg ?_);show (if g=m then some u else mA g)=none;rw[if_neg w]; exact v
  .rw[bE n1] at z;by_cases n2:b=d
   .subst n2;rw[bT] at z;cases z;obtain⟨od,_,_,w,_⟩:=hd3;exact⟨od,w⟩
   .rw[bE n2] at z;have nown:ob≠.own a\/ob=.own a:=by
     by_cases w:ob=.own a
     .exact .inr w
     .exact .inl w
    refine (I.hok b ob z).stay (λc v hc w=>?_) (λc w=>up c _ w λv=>by rw[v,ha] at w; cases w) λc xs w=>up c _ w λv=>by rw[v,ha] at w; cases w
    rcases hc with w1 | w1
    .subst w1; exact hnew c v n1 n2 w
    .refine hnew c v (λx=>by rw[x,ha] at w1; cases w1) (λx=>?_) w;rw[x] at w1;rcases hold with w2 | w2 <;> rw[w2] at w1 <;> cases w1
     exact n1 rfl
def A7 (i:PE X o ta)(j:PE X e tv)(hs:swapsWith e (some (.Attribute o m pos')) pos.line X.env=pure false):PS X (.Assign [.Attribute o m pos'] e pos) (g8 X.K ta tv m):=by
 intro b s σ H D I h;refine plainObj_wpAny_Assign_Attribute (bc (j b s σ H _ I h) λu v ⟨y,z,w,F,q⟩=>bc (i b v σ z _ w q) λB L hZz=>?_) hs;obtain⟨x,N,d,A,G⟩:=hZz;obtain⟨a,C,fI,tl,M,P,rfl,g,T,n,l,k⟩:=G;obtain rfl:B=Value.ref a:=A;exact Ge d g T n l F λJ c r g1 g2=>⟨σ,c,r,k c g1 g2⟩
structure XInit (K:bh)(W:Addr):Prop where
 sp:PySem.W.specialIn K (.ref W) "__getattribute__" = some (some (.builtin "type.__getattribute__"))
 rd:PySem.W.readsIn K W (.type "type")=true
 fd:PySem.W.findCls K (.ref W) (.type "type") "__init__" = some (.val (.builtin "ValueError.__init__"))
def fH (K:bh)(t:TA):TE:=λσ H Q=>t σ H λd b=>∃(a C:Addr) (fI:Value) (tl:al) (g:Bool) (c:List (Str×V)) (rest:av),d=.ref a::rest/\rest.length<=100/\b a=some (.exc C g c)/\XC K C fI tl/\Q .non b
def wP (I:Inv X d σ H s)(g:H a=some (.exc C B G))(T:XC X.K C fI tl)(hl:us.length<=100)
  (h:∀l,Inv X d σ H l->Q .none l):wpAny (model X.prog X.w) A (call (.builtin "ValueError.__init__") (.ref a::us)) Q E' s:=by
 obtain⟨Y,o,vs,e,M,U,N,c4,q⟩:=I.hok a _ g;refine EU T I.kIn e M U (by omega) (HK (qh (by omega))) λh' sz v hZz=>?_;obtain⟨a0,F⟩:=hZz;have aN:∀b,H b=none->b≠a:=λb n z=>by rw[z,g] at n; cases n
 have y:upd H a (.exc C B G)=H:=by
  funext b
  by_cases z:b=a
  .subst z; rw[bT,g]
  .rw[bE z]
 have J:=I.write (x:=a) (e:=a) (o:=.exc C B G) (h':=h') (t':=s.toks) (by rw[g]; exact IC) (.inl rfl) (λb u nb z=>v b u nb z) ⟨_,F⟩ (by
  rw[y];refine⟨Y,_,_,F,M,rfl,by rw[Array.size_setIfInBounds]; exact N,λw=>by rw[Jf (by decide)]; exact c4 w,?_⟩;rcases q with q | ⟨j,Z,d2,L,P,⟨i,es,ep,e3,c⟩,r⟩
  .exact .inl q
  .exact .inr ⟨j,Z,d2,L,P,⟨i,es,ep,v j i L e3,c⟩,r⟩)
 rw[y] at J;exact h _ J
def jU (C:Addr):TE:=λ_ H Q=>∀x,H x=none->Q (.ref x) (upd H x (.exc C true []))
def Fy (T:XC X.K C (.builtin "ValueError.__init__") tl)(g:PySem.W.keepIn X.K (.ref C)=true)(j:Gl X x)(c:X.mg x=some (.ref C))(d:(x == ("__debug__" : Str))=false:=by decide):PE X (.Call (.Name x p) [] [] pos) (jU C):=by
 intro b s σ H Q I h;refine He (ie I j c ?_ d);refine Ib I.kIn g (uR T I.kIn (G3 _) λl a c i=>?_);obtain⟨w,q,v,u⟩:=c.there;have n:Inv X b σ (upd H a (.exc C true [])) { s with heap:=l }:=I.laid (t':=s.toks) c.keeps i ⟨G3 _,_,_,q,rfl,rfl,rfl,λ_=>rfl,.inl ⟨rfl,rfl⟩⟩;exact wP n bT T (G3 _) λy r=>⟨rfl,.ref a,_,r,rfl,h a (I.hok.fresh i)⟩
def Cg (XI:XInit X.K W)(l:Gl X x)(r:X.mg x=some (.ref W))(z:PA X (e::es) t)(d:(x == ("__debug__" : Str))=false:=by decide)
  (c:starEach (e::es) X.env=(false,eval e X.env)::starEach es X.env:=by rfl)(g:(backTo pos (starEach es X.env)).any (·.1)=false:=by rfl)
  (M:eval (.Call (.Attribute (.Name x i) "__init__" apos) (e::es) [] pos) X.env=(do
   let j <-eval (.Name x i) X.env
   standAt apos.atName
   let (f,first) <-holding [j] (getMethod j "__init__" pl)
   callWith pos f first (backTo pos (starEach (e::es) X.env)) (backToKw pos (keywordEach [] X.env))):=by rfl) :
  PE X (.Call (.Attribute (.Name x i) "__init__" apos) (e::es) [] pos) (fH X.K t):=by
 intro b s σ H Q I h;refine Ix (pl:=pl) (ie I l r ?_ d) M;refine PySem.W.method_cls I.kIn XI.sp (PySem.W.cls_value I.kIn XI.rd XI.fd rfl ?_);refine Ig (bc (z pos b _ σ H _ (I.tok _) h) λus N hZz=>?_) c g;obtain⟨U,J,F,A,B⟩:=hZz;obtain⟨a,C,fI,tl,P,Z,rest,rfl,v,y,T,q⟩:=B;cases A with
 | @cons _ u _ w G L=>
  obtain rfl:u=Value.ref a:=G;exact wP F y T (by rw[<-L.length]; exact v) λY n=>⟨.non,J,n,rfl,q⟩
end
noncomputable abbrev Cx.tryCx (X:Cx)(xe:Value->Shared->Prop)(pn:ah):Cx:={ X with xe:=xe,pn:=pn }
noncomputable abbrev Cx.markCx (X:Cx)(a:Addr):Cx:={ X with A:=X.A.mark (some (.ref a)),calm:=false,xe:=λ_ _=>False }
section
variable {X:Cx}{d:ah}{σ:St}{H:Hp}{s:Shared}
def Inv.try (I:Inv X d σ H s) a:Inv (X.tryCx a (X.pn++d)) [] σ H s:=
 ⟨⟨I.ok.mod,I.ok.kind,I.ok.glob,I.ok.blt,I.ok.above,I.ok.inj,I.ok.has,I.ok.cab,I.ok.hd,I.ok.frames,I.ok.stk,I.ok.exf,I.ok.bs,I.ok.bsz,I.ok.noex,I.ok.exfs,I.ok.funs,I.ok.frf⟩,
  I.os,I.bare,I.base,I.loc,I.cell,I.free,I.freeC,λp b=>I.pin p (by simpa using b),I.hok,I.len⟩
def Inv.untry (I:Inv (X.tryCx c (X.pn++d)) a σ H s):Inv X d σ H s:=
 ⟨⟨I.ok.mod,I.ok.kind,I.ok.glob,I.ok.blt,I.ok.above,I.ok.inj,I.ok.has,I.ok.cab,I.ok.hd,I.ok.frames,I.ok.stk,I.ok.exf,I.ok.bs,I.ok.bsz,I.ok.noex,I.ok.exfs,I.ok.funs,I.ok.frf⟩,
  I.os,I.bare,I.base,I.loc,I.cell,I.free,I.freeC,λp b=>I.pin p (ev _ b),I.hok,I.len⟩
def Inv.mark (I:Inv X d σ H s) a:Inv (X.markCx a) d σ H s:=
 ⟨⟨I.ok.mod,I.ok.kind,I.ok.glob,I.ok.blt,I.ok.above,I.ok.inj,I.ok.has,I.ok.cab,(λz=>nomatch z),I.ok.frames,I.ok.stk,I.ok.exf,I.ok.bs,I.ok.bsz,I.ok.noex,I.ok.exfs,I.ok.funs,I.ok.frf⟩,
  I.os,I.bare,I.base,I.loc,I.cell,I.free,I.freeC,I.pin,I.hok,I.len⟩
def Inv.unmark (c:X.calm=true->X.A.handled=none)(I:Inv (X.markCx a) d σ H s):Inv X d σ H s:=
 ⟨⟨I.ok.mod,I.ok.kind,I.ok.glob,I.ok.blt,I.ok.above,I.ok.inj,I.ok.has,I.ok.cab,c,I.ok.frames,I.ok.stk,I.ok.exf,I.ok.bs,I.ok.bsz,I.ok.noex,I.ok.exfs,I.ok.funs,I.ok.frf⟩,
  I.os,I.bare,I.base,I.loc,I.cell,I.free,I.freeC,I.pin,I.hok,I.len⟩
def Inv.gone (I:Inv X d σ H s)(hN:X.N.Nodup)(hi:X.N[i]? = some n)
  (U:∀(i:Nat) (x:Str) (v:V),X.N[i]? = some x->σ[i]? = some (some v)->oy X.env.scope x->∃u,RelV v u/\Look X.env s.heap m x u)
  (L:C.Ns X.env.locals (λx=>if x=n then v else m x))(h:Heap.SameBut X.env.locals s.heap C):Inv X d (σ.set i none) H { s with heap:=C,toks:=t' }:=by
 have f:∀b o,X.s₀.heap.get? b=some o->b≠X.env.locals:=λb o e=>dA (eD (bS e) I.ok.above);have G:∀b o,H b=some o->b≠X.env.locals:=λb o e z=>by rw[z,I.free] at e; cases e
 have a:∀x c,X.env.cells.lookup x=some c->∀w,s.heap.IsCell c w->C.IsCell c w:=λx c e w ⟨o,Z,hd⟩=>⟨o,(h.2 c (I.cne x c e)).trans Z,hd⟩
 refine⟨I.ok,I.os,I.bare,⟨λb o e t A g=>?_,λb o e t A g=>?_,λb o e t g=>I.base.free b o e t g,λb o e g=>?_,I.base.tups,I.base.frzs,I.base.tbls⟩,⟨_,L,λj x w J k Q=>?_⟩,λx c e=>?_,I.free,I.freeC,λp M=>?_,λb o e=>?_,by rw[GX]; exact I.len⟩
 .exact (h.2 b (f b o e)).trans (I.base.keep b o e t A g)
 .obtain⟨sl,z⟩:=I.base.slot b o e t A g;exact⟨sl,(h.2 b (f b o e)).trans z⟩
 .obtain⟨o',z⟩:=I.base.there b o e g;exact⟨o',(h.2 b (f b o e)).trans z⟩
 .have E:i≠j:=λz=>by
   subst z;by_cases q:i < σ.length
   .rw[GL q] at k; cases k
   .rw[GR (by rw[GX]; omega)] at k; cases k
  rw[GG E] at k;have xn:x≠n:=λz=>E (n0 hN hi (by rw[<-z]; exact J));obtain⟨u,r,l⟩:=U j x w J k Q;refine⟨u,r,?_⟩;rcases l with ⟨B,y⟩ | ⟨B,c,y,T⟩
  .exact .inl ⟨B,by show (if x=n then v else m x)=some u; rw[if_neg xn]; exact y⟩
  .exact .inr ⟨B,c,y,a x c y _ T⟩
 .obtain⟨w,z⟩:=I.cell x c e;exact⟨w,a x c e w z⟩
 .obtain⟨z1,P,F,Y,z5⟩:=I.pin p M;exact⟨(h.2 p.1 F).trans z1,P,F,Y,z5⟩
 .refine (I.hok b o e).stay (λc u W q=>(h.2 c ?_).trans q) (λ_ q=>q) λ_ _ q=>q;rcases W with z | z
  .rw[z]; exact G b o e
  .exact G c _ z
end
def fP (K:bh)(W:Addr)(i:Nat)(e:TS)(D:Ends):St->XK:=λσ v _ H=>∃(a C:Addr) (c:al) (d:List (Str×V)),v=.ref a/\H a=some (.exc C false d)/\XO K C c/\W∈C::c /\
 e { nx:=λσ2 b=>D.nx (σ2.set i none) b,rt:=D.rt,bk:=λσ2 b=>D.bk (σ2.set i none) b,ct:=λσ2 b=>D.ct (σ2.set i none) b } (σ.set i (some (.ref a))) H
def kB (K:bh)(W:Addr)(i:Nat)(a:(St->XK)->TS)(b:TS):TS:=λD σ H=>a (fP K W i b D) D σ H
section
variable {X:Cx}{W:Addr}{k:al}{i:Nat}{n cls:Str}{np g pos:Pos}{body d:aG}{j:Stmt}{tb:(St->XK)->TS}{ts:TS}
def GB (h:W∈C::a):(Value.ref C::(a.map Value.ref++bU)).contains (.ref W)=true:=by
 rw[Ht];rcases ck h with z | z
 .rw[z]; exact bP
 .exact bK _ (ev _ (List.mem_map.mpr ⟨W,z,rfl⟩))
def xl (I:Inv X h σ H s)(hN:X.N.Nodup)(hi:X.N[i]? = some n)(M:X.env.scope.names.lookup n=some .local)
  (XW:XO X.K W k)(hg:Gl X cls)(hm:X.mg cls=some (.ref W))(hs:∀a,PSs (X.markCx a) (j::d) ts)(U:H a=some (.exc C false fs))(Y:XO X.K C tl)(hW:W∈C::tl)(F:Fly s.heap a T .none)(fT:H T=none/\X.s₀.heap.objs.size<=T/\T≠X.env.locals/\(∀x c,X.env.cells.lookup x=some c->c≠T)/\∀p∈X.pn++h,p.1≠T)
  (q:ts { nx:=λσ2 J=>D.nx (σ2.set i none) J,rt:=D.rt,bk:=λσ2 J=>D.bk (σ2.set i none) J,ct:=λσ2 J=>D.ct (σ2.set i none) J } (σ.set i (some (.ref a))) H)
  (a0:(cls == ("__debug__" : Str))=false) :
  wpAny (model X.prog X.w) X.A (handleBy (.ref a) X.env [.ExceptHandler (some (.Name cls np)) (some n) (j::d) g]) (SP X h D) X.xe s:=by
 refine wpAny_handleBy_cons (codeAny_handlers_test ?_) (by intro z; cases z);have Im:=I.mark a;refine ie (X:=X.markCx a) Im hg hm ?_ a0;obtain⟨_,o,vs,e,c1,_⟩:=I.hok a _ U;refine D6 e c1 I.kIn Y XW ?_;rw[GB hW];refine codeAny_handlers_suite_as (mJ F λh1 F1 P=>?_);have I1:=Im.xstep U P (λ_ z=>nomatch z) λb hb=>by rw[GI.mp hb]; exact fT
 have e1:upd H a (.exc C false fs)=H:=by
  funext b
  by_cases z:b=a
  .subst z; rw[bT,U]
  .rw[bE z]
 rw[e1] at I1;refine qS (X:=X.markCx a) I1 hN hi (.inl M) (r:=rfl) (v:=.ref a) (λs2 I2=>?_) (.inr M);refine Hl (hs a _ s2 _ H _ I2 q) (λf s3 L=>?_) λ_ _ z=>z.elim;have fin:∀{σ3:St} {l:Hp} {Q:Shared->Prop},Inv (X.markCx a) h σ3 l s3->(∀t,Inv X h (σ3.set i none) l t->Q t)->wpAny (model X.prog X.w) X.A (do bindName X.env n .none; unbindBehindTheSuite X.env n g) (λ_ t=>Q t) X.xe s3:=λ{σ3 l Q} y hQ=>by
  have G:=y.unmark I.ok.hd;obtain⟨m,a1,hl⟩:=id G.loc;refine wpAny_nameGoes_keeps M a1 (by rw[I.ok.kind]; rfl) λh' v Z sb=>hQ _ (G.gone hN hi hl Z sb)
 show wpAny _ X.A (do bindName X.env n .none; unbindBehindTheSuite X.env n g) (λ_ t=>SP X h D f t) X.xe s3;cases f with
 | next=>obtain⟨σ3,l,y,E⟩:=L; exact fin y λt B=>⟨_,l,B,E⟩
 | brk=>obtain⟨σ3,l,y,E⟩:=L; exact fin y λt B=>⟨_,l,B,E⟩
 | cont=>obtain⟨σ3,l,y,E⟩:=L; exact fin y λt B=>⟨_,l,B,E⟩
 | ret u=>obtain⟨v,σ3,l,y,r3,E⟩:=L; exact fin y λt B=>⟨v,_,l,B,r3,E⟩
def Bj (hN:X.N.Nodup)(hi:X.N[i]? = some n)(hn:X.env.scope.names.lookup n=some .local)(hfr:∃L outer,X.stack=X.env::outer/\X.env.frame=some L)(XW:XO X.K W k)(hg:Gl X cls)(hm:X.mg cls=some (.ref W))
  (hb:∀(xe:Value->Shared->Prop) (pn:ah) (Ec:St->XK),bw (dM X.prog X.w) (X.tryCx xe pn) Ec->mM (X.tryCx xe pn) Ec->PassesOwn (model X.prog X.w) X.A X.env xe->PSs (X.tryCx xe pn) body (tb Ec))
  (hs:∀a,PSs (X.markCx a) (j::d) ts)(hdb:(cls == ("__debug__" : Str))=false:=by decide) :
  PS X (.Try body [.ExceptHandler (some (.Name cls np)) (some n) (j::d) g] [] [] pos) (kB X.K W i tb ts):=by
 intro c s σ H D I h;obtain⟨L,outer,P,hL⟩:=hfr;refine wpAny_Try_except ?_;generalize Y:(λ(e:Value) (a1:Shared)=>wpAny (model X.prog X.w) X.A (noteFrame e X.env) (λ_ a2=>wpAny (model X.prog X.w) X.A (setFlight e none) (λ_ E=>wpAny (model X.prog X.w) X.A (handleBy e X.env [.ExceptHandler (some (.Name cls np)) (some n) (j::d) g]) (SP X c D) X.xe E) X.xe a2) X.xe a1)=xe;have sub:∀b∈(X.env::outer).filterMap (·.frame),b=X.env.locals\/b∈X.fs:=λb p=>by
  have:b∈fG X.stack:=by rw[P]; exact p
  exact ck (I.stkSub b this)
 have pass:bw (dM X.prog X.w) (X.tryCx xe (X.pn++c)) (fP X.K W i ts D):=by
  intro M σ' r s1 e s' G a6;obtain⟨a,T,C,fs,H2,rfl,os,a0,un,a5,F,a8,nT,lT,a',C',tl,a7,eq,y,xo,hW,q⟩:=a6;cases eq;rw[F] at y;cases y;have l:Inv X c σ' r s1:=G.untry;have I2:=l.call' (ch:=[]) os un a5 a0 λb z=>absurd z (by simp);show xe (.ref a) s';rw[<-Y];have x:=I2.ok.frames;have t:=I2.stack;rw[P] at x t;refine u0 (base:=X.base) x t hL a8 λh3 F3 Q=>?_;have n2:=I2.newAt (b:=s'.heap.objs.size) (bA _);have I3:=I2.xstep F Q sub λb p=>by rw[GI.mp p]; exact l.sinceAt I2 lT nT
  have e1:upd H2 a (.exc C false fs)=H2:=by
   funext b
   by_cases z:b=a
   .subst z; rw[bT,F]
   .rw[bE z]
  rw[e1] at I3;refine mJ F3 λh4 F4 U=>?_;have I4:=I3.xstep F U (λ_ z=>nomatch z) λb p=>by rw[GI.mp p]; exact n2
  rw[e1] at I4;exact xl I4 hN hi hn XW hg hm hs F xo hW F4 n2 q hdb
 have rais:mM (X.tryCx xe (X.pn++c)) (fP X.K W i ts D):=by
  intro M σ' r s1 a C fs G F hE;obtain⟨a',C',tl,a7,eq,y,xo,hW,q⟩:=hE;cases eq;rw[bT] at y;cases y;have l:Inv X c σ' r s1:=G.untry;obtain⟨_,o,vs,e,c1,c2,c3,c4,_⟩:=l.hok a _ F;show xe (.ref a) s1;rw[<-Y];have x:=l.ok.frames;have t:=l.stack;rw[P] at x t;refine ug (base:=X.base) x t hL e c2 (c4 rfl) λh3 F3 Q=>?_;have n2:=l.newAt (b:=s1.heap.objs.size) (bA _);have I3:=l.xstep F Q sub (λ_ z=>nomatch z);have nT:(upd r a (.exc C false fs)) s1.heap.objs.size=none:=by
   rw[bE (λz=>by have:=l.hok.lt F; rw[<-z] at this; exact Hx _ this)];exact n2.1
  refine mJ F3 λh4 F4 U=>?_;have I4:=I3.xstep bT U (λ_ z=>nomatch z) λb p=>by rw[GI.mp p]; exact⟨nT,n2.2⟩
  rw[y3] at I4;exact xl I4 hN hi hn XW hg hm hs bT xo hW F4 ⟨nT,n2.2⟩ q hdb
 have own:PassesOwn (model X.prog X.w) X.A X.env xe:=by
  rw[<-Y];exact PassesOwn.looking (K:=λe a4=>wpAny (model X.prog X.w) X.A (setFlight e none) (λ_ E=>wpAny (model X.prog X.w) X.A (handleBy e X.env [.ExceptHandler (some (.Name cls np)) (some n) (j::d) g]) (SP X c D) X.xe E) X.xe a4)
 refine Hl (hb xe (X.pn++c) _ pass rais own [] s σ H D (I.try xe) h) (λf s1 Z=>?_) λe s1 Z=>?_
 .cases f with
  | next=>
   obtain⟨σ1,r,l,J⟩:=Z;exact Jp ⟨σ1,r,l.untry,J⟩
  | brk=>obtain⟨σ1,r,l,J⟩:=Z; exact⟨σ1,r,l.untry,J⟩
  | cont=>obtain⟨σ1,r,l,J⟩:=Z; exact⟨σ1,r,l.untry,J⟩
  | ret u=>obtain⟨v,σ1,r,l,r1,J⟩:=Z; exact⟨v,σ1,r,l.untry,r1,J⟩
 .exact Z
end
end L2
namespace L2
open PySem PySem.W Builtin Builtin.ObjectAttr
section
variable {prog:Program}{w:World}{A:Around}{E:Value->Shared->Prop}{s:Shared}{K:Frag}{C x:Addr}{fI:Value}{tl:al}{mA:Str->aA}
structure XI (K:Frag)(C:Addr):Prop where
 ca:findIn K (.ref C) "__class__" = some (some (.builtin "object.__class__"))
 gt:specialIn K (.builtin "object.__class__") "__get__" = some (some (.builtin "getset_descriptor.__get__"))
 tk:takesIn K (.builtin "object.__class__")=some true
 mr:mroIn K C (.type "object")=some true
def Es (T:XC K C fI tl)(Y:XI K C)(X:K.In s.heap)(J:InstAt s.heap x ox C od)
  (hq:Q (some (.ref C)) { s with toks:=s.toks+1 }):wpAny (model prog w) A (getAttr? (.ref x) "__class__") Q E s:=by
 have FA:=PySem.F.excAttr_ValueError;have iso:=wp (M:=model prog w) T X J (B := "BaseException") (by decide +kernel);have f3:=FA.ga.bind (.ref x);have hx2:(Value.builtin "BaseException.__getattribute__" == Value.builtin "object.__getattribute__")=false:=by decide +kernel
 have hx1:(onTheHeap (Value.ref C)&&Value.builtin "BaseException.__getattribute__" == Value.builtin "object.__getattribute__")=false:=by rw[hx2]; rfl
 obtain⟨nm,q,N,bs,sn,sub,ab,col,dd,k0,k1,k2,k3,k5,lk⟩:=T.obj;have hf:findObj K C od "__class__" = some (.bind (.builtin "getset_descriptor.__get__") (.builtin "object.__class__")):=by
  obtain⟨cd,hcl⟩:∃cd,clsIn K C=some cd:=by unfold clsIn; rw[lk]; exact⟨_,rfl⟩
  unfold findObj;rw[hcl,Option.bind_some,Y.ca,Option.bind_some];dsimp only;rw[Y.gt,Option.bind_some];dsimp only;rw[Y.tk];rfl
 have hC:=X _ _ lk;have J0:=J;obtain⟨hx,hc,_,_⟩:=J;obtain⟨hp,g,d,tk,os⟩:=s;change K.In hp at X;change InstAt hp x ox C od at J0;change hp.get? x=some ox at hx;have ga:∀{t:Nat} {Q':Option Value->Shared->Prop} {E':Value->Shared->Prop} {A':Around},Q' (some (.builtin "BaseException.__getattribute__")) ⟨hp,g,d,t,os⟩->wpAny (model prog w) A' (typeLookup (.ref C) "__getattribute__") Q' E' ⟨hp,g,d,t,os⟩:=λz=>(Io X T.ga).at z;have gh:∀{t:Nat} {Q':Option Value->Shared->Prop} {E':Value->Shared->Prop} {A':Around},Q' none ⟨hp,g,d,t,os⟩->wpAny (model prog w) A' (typeLookup (.ref C) "__getattr__") Q' E' ⟨hp,g,d,t,os⟩:=λz=>(Io X T.gh).at z;have gf:∀{t:Nat} {Q':Found->Shared->Prop} {E':Value->Shared->Prop} {A':Around},Q' (.bind (.builtin "getset_descriptor.__get__") (.builtin "object.__class__")) ⟨hp,g,d,t,os⟩->wpAny (model prog w) A' (find (.ref x) (.ref C) "__class__") Q' E' ⟨hp,g,d,t,os⟩:=λz=>(looks_find X J0 hf).at z;unfold getAttr? getAttrBy? getAttrBy;repeat (any_goals (first | assumption | (with_reducible refine GO hx ?_; rw[hc]) | with_reducible refine ga ?_ | with_reducible refine gh ?_ | wp_step))
 refine HW FA.ga.plain F.entry_bexc_ga (@check_slot (model prog w) _ _ _ "BaseException.__getattribute__" "BaseException" "__getattribute__" (.ref x) [.str "__class__" tk] [] _ (by decide +kernel) (by decide +kernel) iso (F.args_bexc_ga _ _) ?_);unfold Builtin.«object.__getattribute__»;repeat (any_goals (first | assumption | (with_reducible refine GO hx ?_; rw[hc]) | with_reducible refine gf ?_ | wp_step))
 refine class_get (ox:=ox) (od:=od) X J0 Y.mr ?_;repeat (any_goals (first | assumption | wp_step))
end
section
variable {K:Frag}{C x:Addr}{fI:Value}{a:al}
def vG (T:XC K C fI a)(Y:XI K C):KitX K (.ref x) (.ref C) (λh=>∃ox od,InstAt h x ox C od) where
 ty:=λ_ _ _ ⟨_,_,J⟩=>J.type
 it:=λ_ _ X _=>by
  obtain⟨nm,q,N,bs,sn,sub,ab,col,dd,k0,k1,k2,k3,k5,lk⟩:=T.obj;intro A' Q' E' s' k q;unfold isType loadHead;exact aL (wpAny_loadPart (k _ _ (X _ _ lk)) (ba q))
 ne:=λh tp dd' its n sl X htp=>by
  obtain⟨nm,q,N,bs,sn,sub,ab,col,dd,k0,k1,k2,k3,k5,lk⟩:=T.obj;refine Bool.eq_false_iff.mpr λz=>?_;have e:C=tp:=Value.ref.inj (GN.mp z);subst e;have z:=congrArg Obj.data (cm ((X _ _ lk).symm.trans htp));cases z
 ca:=λX ⟨_,_,J⟩ k=>Es T Y X J k
end
end L2
namespace L2
open PySem PySem.Spec PyProof.Rows
inductive TyX (K:bh) (H:Hp):V->Value->Prop where
 | old {x:V} {t:Value} (h:TyOf K H x t):TyX K H x t
 | exc {a C:Addr} {fI:Value} {tl:al} {nw:Bool} {fs:List (Str×V)} (e:H a=some (.exc C nw fs)) (T:XC K C fI tl) (Y:XI K C):TyX K H (.ref a) (.ref C)
section
variable {X:Cx}
def Di (I:Inv X f σ H s)(d:RelV x u)(ty:TyX X.K H x t)(e:PySem.W.kitOne X.K t c=some b)(h:∀i,Q (.bool b) { s with toks:=i }) :
  wpAny (model X.prog X.w) A (call (.builtin "isinstance") [u,c]) Q E s:=by
 cases ty with
 | old ty=>exact jH I d ty e h
 | @exc a C fI j m k g T Y=>
  cases (show u=Value.ref a from d);obtain⟨l,J,_,_⟩:=I.inst g;exact Hg (vG T Y) I.kIn (oA J) e (λz=>nomatch z) h
noncomputable def valOf:V->aA
 | .ref a=>some (.ref a)
 | .ty n=>some (.type n)
 | _=>none
end
section
variable {X:Cx}{d:ah}{σ:St}{H:Hp}{s:Shared}{f:Heap}
def Inv.turnedL {t':Nat}{fp:al}(I:Inv X d σ H s)(hf:∀b∈fp,dh X d H b)(k:∀b o,b∉fp->s.heap.get? b=some o->f.get? b=some o):Inv X d σ H { s with heap:=f,toks:=t' }:=by
 have j:∀b u,H b=some u->b∉fp:=λb u e z=>by rw[(hf b z).1] at e; cases e
 refine I.step (g':=s.gens) (d':=s.drawn) (ch:=fp) (λb i=>⟨(hf b i).2.2.2.1,(hf b i).2.1,(hf b i).2.2.2.2⟩) (λb o _ _ a e _=>k b o a e) (λb o _ _ a e _=>⟨o.slots,k b o a e⟩) (λ_ _ _ _ n=>n)
  (λb o a e=>⟨o,k b o a e⟩) (λ_ _ e=>e) (λ_ _ _ e=>e) (λb x e=>⟨#[],by rw[e]; simp⟩) (λm w=>?_) (λb u e=>?_) I.bare
 .obtain⟨o,l,t,p,r⟩:=w;exact⟨o,l,t,k _ o (λz=>(hf _ z).2.1 rfl) p,r⟩
 .refine (I.hok b u e).stay (λc v a q=>k c v ?_ q) (λ_ q=>q) λ_ _ q=>q;rcases a with z | z
  .rw[z]; exact j b u e
  .exact j c _ z
def Inv.turnedN {t':Nat}{fp:al}{a:Addr}{o:HO}(I:Inv X d σ H s)(hf:∀b∈fp,dh X d H b)(k:∀b o,b∉fp->s.heap.get? b=some o->f.get? b=some o)(hp:s.heap.objs.size<=a)(new:ObjOk X.prog X.w (upd H a o) f a o) :
  Inv X d σ (upd H a o) { s with heap:=f,toks:=t' }:=by
 have C:H a=none:=I.hok.fresh hp;have B:∀b o,s.heap.get? b=some o->b≠a:=λb o e=>dA (eD (bS e) hp);have i:∀b u,H b=some u->b≠a:=λb u e z=>by rw[z,C] at e; cases e
 have p:∀b u,H b=some u->b∉fp:=λb u e z=>by rw[(hf b z).1] at e; cases e
 refine I.step (g':=s.gens) (d':=s.drawn) (ch:=fp) (λb l=>⟨(hf b l).2.2.2.1,(hf b l).2.1,(hf b l).2.2.2.2⟩) (λb o _ _ g e _=>k b o g e) (λb o _ _ g e _=>⟨o.slots,k b o g e⟩) (λb o _ e n=>by rw[bE (B b o e)]; exact n)
  (λb o g e=>⟨o,k b o g e⟩) (λb _ e=>by rw[bE (i b _ e)]; exact e) (λb _ _ e=>by rw[bE (i b _ e)]; exact e) (λb F e=>⟨#[],by rw[bE (i b _ e),e]; simp⟩) (λm E=>?_) (λb u e=>?_) I.bare
 .obtain⟨o,x,A,y,r⟩:=E;exact⟨o,x,A,k _ o (λz=>(hf _ z).2.1 rfl) y,r⟩
 .by_cases z:b=a
  .subst z; rw[bT] at e; cases e; exact new
  .rw[bE z] at e;refine (I.hok b u e).stay (λc v g q=>k c v ?_ q) (λc q=>by rw[bE (i c _ q)]; exact q) λc _ q=>by rw[bE (i c _ q)]; exact q
   rcases g with z | z
   .rw[z]; exact p b u e
   .exact p c _ z
end
noncomputable def qU (K:bh)(a b:Addr):It:=
 ⟨λi H=>∃d c x y,SqL K H a d/\SqL K H b c/\d[i]? = some x/\c[i]? = some y,λi H v e=>∃x y p,v=.ref p/\H p=none/\e=upd H p (.tup [x,y])/\(∀d,SqL K H a d->d[i]? = some x)/\∀c,SqL K H b c->c[i]? = some y,
  λi H=>∃d c,SqL K H a d/\SqL K H b c/\(d.length<=i\/c.length<=i)⟩
def lg {h:Heap}{a b:Addr}{o u:Obj} A B (f:h.get? a=some o)(d:h.get? b=some u)(e:o.cls=.type A)(c:u.cls=.type B)(n:A≠B):a≠b:=λz=>by
 subst z; rw[f] at d; cases d; rw[e] at c; cases c; exact n rfl
def ji (z TI TO d c f e:Addr)(i:Nat)(h:Heap):Prop:=IsZip h z TI TO .none/\IsPair h TI (.ref d) (.ref c)/\(∃a b,IsPair h TO a b)/\h.IsListIter d f i/\h.IsListIter c e i
def wU {h:Heap}{z TI TO i1 i2 l1 l2:Addr}{i:Nat}{xs ys:aB}(t:ji z TI TO i1 i2 l1 l2 i h)(h1:h.IsList l1 xs)(h2:h.IsList l2 ys)(n1:TI≠TO)(n2:i1≠i2):ZipApart z TI TO i1 i2 l1 l2:=by
 obtain⟨c,s,⟨a,b,g⟩,⟨P,f,k,_⟩,⟨N,e,j,_⟩⟩:=t;obtain⟨L,f1,m,_⟩:=h1;obtain⟨M,f2,l,_⟩:=h2;have d:∀{a b:Addr} {o u:Obj} (A B:String),h.get? a=some o->h.get? b=some u->o.cls=.type A->u.cls=.type B->(A == B)=false->a≠b:=λA B x y w F n=>lg A B x y w F (by simpa using n);exact⟨d "tuple" "zip" s c rfl rfl rfl,d "tuple" "zip" g c rfl rfl rfl,d "list_iterator" "zip" f c k rfl rfl,d "list_iterator" "zip" e c j rfl rfl,n1,d "tuple" "list_iterator" s f rfl k rfl,d "tuple" "list_iterator" s e rfl j rfl,
  d "tuple" "list_iterator" g f rfl k rfl,d "tuple" "list_iterator" g e rfl j rfl,n2,d "list" "zip" f1 c m rfl rfl,d "list" "tuple" f1 g m rfl rfl,d "list" "list_iterator" f1 f m k rfl,d "list" "list_iterator" f1 e m j rfl,
  d "list" "zip" f2 c l rfl rfl,d "list" "tuple" f2 g l rfl rfl,d "list" "list_iterator" f2 f l k rfl,d "list" "list_iterator" f2 e l j rfl⟩
def yu {P:Program}{w:World}{K:bh}{es:au}{k1:Nat}{ps:Pos} l1 l2 z TI TO i1 i2 (n1:TI≠TO)(n2:i1≠i2):Turn P w K (.Tuple es k1 ps) (qU K l1 l2) [z,TI,TO,i1,i2] z (ji z TI TO i1 i2 l1 l2) where
 mem:=by simp
 obj:=λi h t b hb=>by
  obtain⟨tz,tI,⟨a,c,tO⟩,⟨o1,e1,_,d1⟩,⟨o2,e2,_,d2⟩⟩:=t;simp only[GY,GW,or_false] at hb;rcases hb with rfl | rfl | rfl | rfl | rfl
  .exact⟨_,tz,(λv q=>nomatch q)⟩
  .exact⟨_,tI,(λv q=>nomatch q)⟩
  .exact⟨_,tO,(λv q=>nomatch q)⟩
  .exact⟨o1,e1,λv q=>by rw[d1] at q; cases q⟩
  .exact⟨o2,e2,λv q=>by rw[d2] at q; cases q⟩
 keep:=λi h h' t k=>by
  obtain⟨tz,tI,⟨a,c,tO⟩,t1,t2⟩:=t;exact⟨k z (by simp) _ tz,k TI (by simp) _ tI,⟨a,c,k TO (by simp) _ tO⟩,t1.at λo e=>k i1 (by simp) o e,t2.at λo e=>k i2 (by simp) o e⟩
 item:=by
  intro X hP hw hK hc i pins s σ H E I hf st hg;subst hP hw hK;obtain⟨xs,ys,x,y,hx,hy,ex,ey⟩:=hg;obtain⟨its,rv,p,hz⟩:=I.list hx;obtain⟨its2,rv2,p2,hz2⟩:=I.list hy;obtain⟨u,hu,ru⟩:=rv.get ex;obtain⟨u2,hu2,ru2⟩:=rv2.get ey;have D:=wU st p.isList p2.isList n1 n2;obtain⟨tz,tI,⟨a,c,tO⟩,t1,t2⟩:=st;refine wpAny_pyNext_zip_item D tz tI tO t1 t2 p.isList p2.isList (x:=u) (y:=u2) (by simpa using hu) (by simpa using hu2) λh' z1 z2 z3 z4 z5 z6 z7=>⟨_,rfl,?_⟩
  refine wpAny_letOwnedTupleGo_zip (s:={ s with heap:=h' }) z1 λh2 z1' sb=>?_;have kk:∀b o,b∉[z,TI,TO,i1,i2]->s.heap.get? b=some o->h2.get? b=some o:=λb o nb e=>by
   simp only[GY,GW,or_false,not_or] at nb;obtain⟨m1,m2,m3,m4,m5⟩:=nb;exact (sb.2 b m1).trans (z7 b o m1 m3 m4 m5 e)
  have lz:z<s.heap.objs.size:=bS tz;have gT:h2.get? s.heap.objs.size=some { cls:=.type "tuple",data:=.seq #[u,u2] }:=(sb.2 _ (HL lz)).trans z5;have up:∀b o,b≠z->h'.get? b=some o->h2.get? b=some o:=λb o nb e=>(sb.2 b nb).trans e;refine⟨.ref s.heap.objs.size,upd H s.heap.objs.size (.tup [x,y]),I.turnedN (t':=s.toks) hf kk (bA _) ⟨by show 2<=sizeLine; decide,[u,u2],.cons ru (.cons ru2 .nil),_,gT,rfl,⟨_,rfl⟩,rfl⟩,rfl,
   ⟨x,y,_,rfl,I.hok.fresh (bA _),rfl,λzs hq=>by rw[I.list_inj hq hx]; exact ex,λzs hq=>by rw[I.list_inj hq hy]; exact ey⟩,
   ⟨z1',up _ _ D.TIz (z7 TI _ D.TIz D.TITO D.TIi1 D.TIi2 tI),⟨u,u2,up _ _ D.TOz z2⟩,z3.at λo e=>up _ _ D.i1z e,z4.at λo e=>up _ _ D.i2z e⟩,λb hb=>?_⟩
  obtain⟨o,e,_⟩:∃o,s.heap.get? b=some o/\True:=by
   simp only[GY,GW,or_false] at hb;obtain⟨o1,e1,_,d1⟩:=t1;obtain⟨o2,e2,_,d2⟩:=t2;rcases hb with rfl | rfl | rfl | rfl | rfl
   .exact⟨_,tz,trivial⟩
   .exact⟨_,tI,trivial⟩
   .exact⟨_,tO,trivial⟩
   .exact⟨o1,e1,trivial⟩
   .exact⟨o2,e2,trivial⟩
  rw[bE (IF (Heap.lt_size e))];exact (hf b hb).1
 done:=by
  intro X hP hw hK hc i pins s σ H E I hf st hg;subst hP hw hK;obtain⟨xs,ys,hx,hy,hend⟩:=hg;obtain⟨its,rv,p,hz⟩:=I.list hx;obtain⟨its2,rv2,p2,hz2⟩:=I.list hy;have D:=wU st p.isList p2.isList n1 n2;obtain⟨tz,tI,⟨a,c,tO⟩,t1,t2⟩:=st;have l1:=rv.length;have l2:=rv2.length;refine wpAny_pyNext_zip_end (I.ok.hd hc) D tz tI tO t1 t2 p.isList p2.isList (hend.elim (λq=>.inl (by simp; omega)) λq=>.inr (by simp; omega)) λh' kp=>⟨rfl,I.turnedL (t':=s.toks) hf λb o nb e=>?_⟩
  simp only[GY,GW,or_false,not_or] at nb;obtain⟨m1,m2,m3,m4,m5⟩:=nb;exact kp b o m1 m3 m4 m5 e
 self:=λ_ _ _ _ _ st h=>wpAny_pyIter_zip st.1 h
noncomputable def sJ (K:bh)(a:Addr):It:=
 ⟨λi H=>∃b x,SqL K H a b/\b[i]? = some x,λi H v c=>∃x p,v=.ref p/\H p=none/\c=upd H p (.tup [.int i,x])/\∀b,SqL K H a b->b[i]? = some x,λi H=>∃b,SqL K H a b/\b.length<=i⟩
def kP (e a l:Addr)(i:Nat)(h:Heap):Prop:=(∃old,IsEnum h e a i old)/\h.IsListIter a l i
def xv {P:Program}{w:World}{K:bh}{es:au}{k1:Nat}{ps:Pos} l e it:Turn P w K (.Tuple es k1 ps) (sJ K l) [e,it] e (kP e it l) where
 mem:=by simp
 obj:=λi h t b hb=>by
  obtain⟨⟨old,te⟩,⟨o1,e1,_,d1⟩⟩:=t;simp only[GY,GW,or_false] at hb;rcases hb with rfl | rfl
  .exact⟨_,te,(λv q=>nomatch q)⟩
  .exact⟨o1,e1,λv q=>by rw[d1] at q; cases q⟩
 keep:=λi h h' t k=>by
  obtain⟨⟨old,te⟩,t1⟩:=t;exact⟨⟨old,k e (by simp) _ te⟩,t1.at λo q=>k it (by simp) o q⟩
 item:=by
  intro X hP hw hK hc i pins s σ H E I hf st hg;subst hP hw hK;obtain⟨xs,x,hx,ex⟩:=hg;obtain⟨its,rv,p,hz⟩:=I.list hx;obtain⟨u,hu,ru⟩:=rv.get ex;obtain⟨⟨old,te⟩,t1⟩:=st;have ne:e≠it:=by
   obtain⟨o1,e1,c1,_⟩:=t1;exact lg "enumerate" "list_iterator" te e1 rfl c1 (by decide)
  refine wpAny_pyNext_enum_item te t1 p.isList (x:=u) (by simpa using hu) ne λh' z1 z2 z3 z4 z5=>⟨_,rfl,?_⟩
  refine wpAny_letOwnedTupleGo_enum (s:={ s with heap:=h',toks:=s.toks+1 }) z1 λh2 z1' sb=>?_;have kk:∀b o,b∉[e,it]->s.heap.get? b=some o->h2.get? b=some o:=λb o nb q=>by
   simp only[GY,GW,or_false,not_or] at nb;exact (sb.2 b nb.1).trans (z5 b o nb.1 nb.2 q)
  have le:e<s.heap.objs.size:=bS te;have gT:h2.get? s.heap.objs.size=some { cls:=.type "tuple",data:=.seq #[.int i s.toks,u] }:=(sb.2 _ (HL le)).trans z3;refine⟨.ref s.heap.objs.size,upd H s.heap.objs.size (.tup [.int i,x]),I.turnedN (t':=s.toks+1) hf kk (bA _) ⟨by show 2<=sizeLine; decide,[.int i s.toks,u],.cons ⟨_,rfl⟩ (.cons ru .nil),_,gT,rfl,⟨_,rfl⟩,rfl⟩,rfl,
   ⟨x,_,rfl,I.hok.fresh (bA _),rfl,λzs hq=>by rw[I.list_inj hq hx]; exact ex⟩,⟨⟨u,by simpa using z1'⟩,z2.at λo q=>(sb.2 it (Ij ne)).trans q⟩,λb hb=>?_⟩
  obtain⟨o,q,_⟩:∃o,s.heap.get? b=some o/\True:=by
   simp only[GY,GW,or_false] at hb;obtain⟨o1,e1,_,d1⟩:=t1;rcases hb with rfl | rfl
   .exact⟨_,te,trivial⟩
   .exact⟨o1,e1,trivial⟩
  rw[bE (IF (Heap.lt_size q))];exact (hf b hb).1
 done:=by
  intro X hP hw hK hc i pins s σ H E I hf st hg;subst hP hw hK;obtain⟨xs,hx,hend⟩:=hg;obtain⟨its,rv,p,hz⟩:=I.list hx;obtain⟨⟨old,te⟩,t1⟩:=st;have l1:=rv.length;refine wpAny_pyNext_enum_end (I.ok.hd hc) te t1 p.isList (by simp; omega) λh' kp=>⟨rfl,I.turnedL (t':=s.toks) hf λb o nb q=>?_⟩
  simp only[GY,GW,or_false,not_or] at nb;exact kp b o nb.2 q
 self:=λ_ _ _ _ _ st h=>by
  obtain⟨⟨old,te⟩,_⟩:=st;exact IZ te h
section
variable {X:Cx}{c:au}{d:Nat}{e:Pos}
def qE (K:bh)(g:TA):TI:=λσ H R=>g σ H λh f=>∃a b j i,h=[.ref a,.ref b]/\SqL K f a j/\SqL K f b i/\R (qU K a b) f
def C2 {a b:Expr}{k:TA}{p pos:Pos}(C:Gl X "zip")(Y:X.mg "zip" = none)(A:bootBuiltins "zip" = some (.type "zip"))(W:PA X [a,b] k)(hs:starEach [a,b] X.env=[(false,eval a X.env),(false,eval b X.env)]:=by rfl)(i:starEach [b] X.env=[(false,eval b X.env)]:=by rfl) :
  PI X (.Tuple c d e) (.Call (.Name "zip" p) [a,b] [] pos) (qE X.K k):=by
 intro g s σ H R I h;refine Call_ (iD I C Y A (Ho (bc (W pos g s σ H _ I h) λus f hZz=>?_) (by rw[hs,i]) (by rw[i]; rfl)));obtain⟨vs,F,j,J,P⟩:=hZz;obtain⟨x,r,xs,ys,rfl,Z,z,q⟩:=P;obtain⟨u,v,rfl,B,T⟩:=vals2 J;cases B;cases T;obtain⟨N,rx,t,G⟩:=j.list Z;obtain⟨n,ry,py,Q⟩:=j.list z;refine call_zip_2 t.isList py.isList λM m L y E U z6 w=>?_;refine wpAny_pyIter_zip (s:={ f with heap:=M }) m ⟨_,_,_,_,F,rfl,j.kept (t':=f.toks) w,yu x r (f.heap.objs.size+4) (f.heap.objs.size+2) (f.heap.objs.size+3) f.heap.objs.size (f.heap.objs.size+1) (dA (Ie _)) (dA (Ie _)),⟨m,L,⟨_,_,y⟩,E,U⟩,λb o=>?_,q⟩;have l:f.heap.objs.size<=b:=by
  simp only[GY,GW,or_false] at o;rcases o with rfl | rfl | rfl | rfl | rfl <;> omega
 exact j.fpOk l (j.hok.fresh l)
end
end L2
namespace St
open PySem PyProof.Rows
noncomputable def subs:Nat->af
 | 0=>[[]]
 | n+1=>subs n++(subs n).map (·++[n])
noncomputable def ins (l:aj)(k:Nat):aj:=l.filter (λx=>Nat.blt x k)++k::l.filter (λx=>Nat.blt k x)
noncomputable def b1 (l:aj)(k:Nat):Bool:=l.contains k||((!SetTable.has l.toArray k)&&(SetTable.below l.toArray k == (l.filter (λx=>Nat.blt x k)).length)&&(l.take (l.filter (λx=>Nat.blt x k)).length++k::l.drop (l.filter (λx=>Nat.blt x k)).length == ins l k)&&(subs 6).contains (ins l k))
def CJ:((subs 6).all λl=>(List.range 6).all λk=>b1 l k)=true:=by decide +kernel
noncomputable def hs (l:aj):Array Int:=(l.map Int.ofNat).toArray
noncomputable def b2 (m:Nat)(l:aj):Bool:=((SetTable.layClean m (hs l)).map λowner=>(List.range (m+1)).filterMap λj=>(owner.getD j none).map (j,·)) == some (l.zip (List.range l.length))
noncomputable def gm (l:aj):Nat:=SetTable.sizeAbove (SetTable.grown l.length) - 1
noncomputable def sP (l:aj):Bool:=b2 (gm l) l&&(Nat.blt 4 l.length||b2 7 l)&&b2 15 l&&(gm l == 7&&Nat.ble l.length 4||gm l == 15||gm l == 31)
def EB:((subs 6).all sP)=true:=by decide +kernel
noncomputable def b3 (l:aj):Bool:=(List.range (l.length+1)).all λi=>SetTable.below l.toArray (if i=0 then 0 else l.getD (i - 1) 0+1) == i
def tU:((subs 6).all b3)=true:=by decide +kernel
noncomputable def b4 (l:aj):Bool:=decide (l.length<=6)&&l.all (λx=>Nat.blt x 6)&&decide (l.Pairwise (· < ·))
def Fx:((subs 6).all b4)=true:=by decide +kernel
noncomputable def b5 (l:aj):Bool:=((List.range 6).filter l.contains == l)&&(List.range 6).all λk=>(subs 6).contains (l.filter (· != k))
def yQ (a:m=7\/m=15\/m=31)(b:k<6):SetTable.bits (Int.ofNat k) % (m+1)=k:=by
 have:∀m∈[7,15,31],∀k∈List.range 6,SetTable.bits (Int.ofNat k) % (m+1)=k:=by decide +kernel
 exact this m (by simpa using a) k (Hh.mpr b)
def zZ {t:SetTable}{k:Nat}(b:t.mask=7\/t.mask=15\/t.mask=31)(d:k<6)(f:SetTable.has t.place k=false)(a:SetTable.has t.dummies k=false):t.freeSlot (Int.ofNat k)=some (k,false):=by
 have hs:t.slot k=.empty:=by
  show (if SetTable.has t.place k=true then _ else if SetTable.has t.dummies k=true then _ else _)=_;rw[f,a];rfl
 obtain⟨n,c⟩:∃n,10 * SetTable.turns t.mask=n+1:=⟨10 * t.mask+149,by unfold SetTable.turns; omega⟩
 have e:(t.probeStart (Int.ofNat k)).j=k:=yQ b d;unfold SetTable.freeSlot SetTable.probe;rw[c];unfold SetTable.probe.go;rw[e,hs];rfl
structure TG (b:Bool)(l D:aj)(t:SetTable):Prop where
 mem:l∈subs 6
 place:t.place=l.toArray
 dum:∃ds,ds∈subs 6/\t.dummies=ds.toArray/\∀x∈ds,x∈D
 mask:t.mask=7/\t.fill<=4\/t.mask=15\/t.mask=31
 led:t.led=b
 plain:t.plain=true
def SG (b:Bool)(h:Heap)(a:Addr)(l D:aj):Prop:=∃c f t,h.get? a=some { cls:=.type "set",dict:=none,data:=.set c f t }/\c.toList.map (·.1)=l.map Int.ofNat/\(∀e∈c.toList,∃d,e.2=.int e.1 d)/\TG b l D t
def mem_b4 (h:l∈subs 6):l.length<=6/\(∀x∈l,x<6)/\l.Pairwise (· < ·):=by
 have:=dU Fx l h;simp only[b4,tw,GS,List.all_eq_true] at this;exact⟨this.1.1,λx a=>Iy (this.1.2 x a),this.2⟩
def vB (h:k<6):hashInt (Int.ofNat k)=Int.ofNat k:=by
 have:∀j∈List.range 6,hashInt (Int.ofNat j)=Int.ofNat j:=by decide +kernel
 exact this k (Hh.mpr h)
theorem TG.size (h:TG b l D t):t.place.size=l.length:=by rw[h.place]; simp
theorem TG.fill (h:TG b l D t):t.fill<=l.length+6:=by
 obtain⟨d,a,c,_⟩:=h.dum;have:=(mem_b4 a).1;rw[SetTable.fill,h.size,c,GE];omega
theorem TG.fits (h:TG b l D t)(a:n=l.length):t.fits n=true:=by
 have c:=(mem_b4 h.mem).1;have d:=h.fill;simp only[SetTable.fits,h.size,tw,GN,GS];refine⟨a.symm,?_⟩;rcases h.mask with ⟨e,q⟩ | e | e <;> omega
def TG.mask3 (h:TG b l D t):t.mask=7\/t.mask=15\/t.mask=31:=h.mask.imp And.left id
def m9 {a:Program}{w:World}{b:Array (Int×Value)}{l:aj}(m:l∈subs 6)(g:b.toList.map (·.1)=l.map Int.ofNat)(i:∀e∈b.toList,∃c,e.2=.int e.1 c):ElemsOf (intKind a w) b.toList:=by
 intro e d;obtain⟨c,f⟩:=i e d;have:e.1∈l.map Int.ofNat:=by rw[<-g]; exact G4 d
 obtain⟨k,h,j⟩:=eJ this;refine⟨⟨e.1,by rw[f]; exact intKind_is _ _ _ _,?_⟩,by rw[f]; rfl⟩;show e.1=hashInt e.1;rw[<-j,vB ((mem_b4 m).2.1 k h)]
def ib {es:Array (Int×Value)}{l:aj}(a:es.toList.map (·.1)=l.map Int.ofNat):es.size=l.length:=by
 have:=congrArg List.length a;simpa using this
def ins_of (h:l∈subs 6)(c:k<6)(e:k∉l):SetTable.has l.toArray k=false/\SetTable.insertAt l.toArray (SetTable.below l.toArray k) k=(ins l k).toArray/\SetTable.below l.toArray k=(l.filter (λx=>Nat.blt x k)).length/\l.take (l.filter (λx=>Nat.blt x k)).length++k::l.drop (l.filter (λx=>Nat.blt x k)).length=ins l k/\ins l k∈subs 6/\(ins l k).length=l.length+1:=by
 have q:b1 l k=true:=dU (dU CJ l h) k (Hh.mpr c);have d:l.contains k=false:=by simpa using e
 simp only[b1,d,JL,tw,GN,Ht,Iz] at q;obtain⟨⟨⟨f,b⟩,a⟩,g⟩:=q;refine⟨f,?_,b,a,g,?_⟩
 .rw[b];apply Jn.mp;rw[SetTable.toList_insertAt];simpa using a
 .rw[<-a,GQ,List.length_cons,HD,Ih];have:(l.filter (λx=>Nat.blt x k)).length<=l.length:=Jj _ _;omega
def xQ {b:Bool}{l D:aj}{t:SetTable}{g:Array (Int×Value)}{k:Nat}{x:Value}(h:TG b l D t)(p:g.toList.map (·.1)=l.map Int.ofNat)(n:k<6)(v:k∉l)(E:k∉D) :
  ∃d f,layNew t g (Int.ofNat k) x=(d,f,false,false)/\d.toList.map (·.1)=(ins l k).map Int.ofNat/\(∀e∈d.toList,e∈g.toList\/e=(Int.ofNat k,x))/\f.mask=t.mask/\f.place=(ins l k).toArray/\f.dummies=t.dummies/\f.led=b/\f.plain=true/\f.fill=t.fill+1/\ins l k∈subs 6:=by
 obtain⟨y,s,r,u,C,c⟩:=ins_of h.mem n v;obtain⟨F,z,w,A⟩:=h.dum;have a:SetTable.has t.dummies k=false:=by rw[w]; exact (ins_of z n λe=>E (A k e)).1
 have j:SetTable.has t.place k=false:=by rw[h.place]; exact y
 have f1:t.freeSlot (Int.ofNat k)=some (k,false):=zZ h.mask3 n j a;rw[<-h.place] at s r;have H:=h.fill;have G:=(mem_b4 h.mem).1;have m:({ t with place:=(ins l k).toArray,dummies:=t.dummies }:SetTable).fill=t.fill+1:=by
  simp only[SetTable.fill,h.size,GE,c];omega
 have i:({ t with place:=(ins l k).toArray,dummies:=t.dummies }:SetTable).fits (l.length+1)=true:=by
  simp only[SetTable.fits,m,tw,GN,GS,GE,c];refine⟨trivial,?_⟩;rcases h.mask with ⟨e,q⟩ | e | e <;> omega
 have o:(SetTable.insertAt g (SetTable.below t.place k) (Int.ofNat k,x)).size=l.length+1:=by
  rw[<-Array.length_toList,(SetTable.insertAt_perm _ _ _).length_eq,JI,GQ,Array.length_toList,ib p];rfl
 refine⟨SetTable.insertAt g (SetTable.below t.place k) (Int.ofNat k,x),{ t with place:=(ins l k).toArray },?_,?_,λe B=>?_,rfl,rfl,rfl,h.led,h.plain,m,C⟩
 .unfold layNew;rw[f1];dsimp only[SetTable.put];rw[a,s];simp only[Bool.false_eq_true,if_false];rw[o];simp only[SetTable.orStandIn,i,if_true,Bool.not_true]
 .rw[SetTable.toList_insertAt,r,HU,GM,IN,IP,p,<-IN,<-IP,<-u];simp
 .have:=(SetTable.insertAt_perm g (SetTable.below t.place k) (Int.ofNat k,x)).mem_iff.mp B;rw[JI,Hu,GI] at this;exact this
def DR {m f d:Nat}{ld c:Bool}{l:aj}{es:Array (Int×Value)}(q:b2 m l=true)(e:es.toList.map (·.1)=l.map Int.ofNat):SetTable.laid m f d ld c (es.map (·.1))=some (⟨m,l.toArray,#[],f,ld,d,c⟩,(List.range l.length).toArray):=by
 simp only[b2,GN] at q;obtain⟨owner,i,g⟩:=cM q;have h:es.map (·.1)=hs l:=by
  apply Jn.mp;rw[Array.toList_map,e];rfl
 have b:(l.zip (List.range l.length)).map (·.1)=l:=by rw[List.map_fst_zip]; simp
 have a:(l.zip (List.range l.length)).map (·.2)=List.range l.length:=by rw[List.map_snd_zip]; simp
 unfold SetTable.laid;rw[h];show (SetTable.layClean m (hs l)).bind _=_;rw[i];show some _=some _;rw[show (List.range (m+1)).filterMap (λj=>(owner.getD j none).map (j,·))=l.zip (List.range l.length) from g,b,a]
def zl {l:aj}{es:Array (Int×Value)}(a:es.size=l.length):(List.range l.length).toArray.filterMap (es[·]?)=es:=by
 apply Jn.mp;rw[Array.toList_filterMap];show (List.range l.length).filterMap (λi=>es[i]?)=es.toList;rw[<-a];exact filterMap_getElem?_range es
def DA {b:Bool}{l D:aj}{t:SetTable}{es:Array (Int×Value)}(hm:l∈subs 6)(h1:es.toList.map (·.1)=l.map Int.ofNat)(hl:t.led=b)(hp:t.plain=true) :
  ∃t',relayAll t es (SetTable.grown es.size)=(es,t',false)/\TG b l D t':=by
 have q:=dU EB l hm;simp only[sP,tw,G6,GN] at q;obtain⟨⟨⟨h,_⟩,_⟩,c⟩:=q;have e:es.size=l.length:=ib h1;have p:=(mem_b4 hm).1;have TT:TG b l D ⟨gm l,l.toArray,#[],t.finger,t.led,t.movedTo (gm l),t.plain⟩:=by
  refine⟨hm,rfl,⟨[],by decide +kernel,rfl,λx i=>by cases i⟩,?_,hl,hp⟩;rcases c with (⟨c,n⟩ | c) | c
  .exact .inl ⟨c,by simpa[SetTable.fill] using Iy n⟩
  .exact .inr (.inl c)
  .exact .inr (.inr c)
 refine⟨_,?_,TT⟩;have m:t.relaid (es.map (·.1)) (SetTable.grown es.size)=some (⟨gm l,l.toArray,#[],t.finger,t.led,t.movedTo (gm l),t.plain⟩,(List.range l.length).toArray):=by
  unfold SetTable.relaid;rw[e];exact DR h h1
 have d:coversAll (List.range l.length).toArray es.size=true:=by
  unfold coversAll;rw[e];exact List.isPerm_iff.mpr (List.Perm.refl _)
 unfold relayAll;rw[m];dsimp only;rw[zl e,d,TT.fits e];rfl
section
variable {prog:Program}{w:World}{A:Around}{E:Value->Shared->Prop}{s:Shared}
def SG.store {b:Bool}{h:Heap}{a:Addr}{es c:Array (Int×Value)}{d:Nat}{t t':SetTable}{l D:aj}(f:h.get? a=some { cls:=.type "set",dict:=none,data:=.set es d t })(j:c.toList.map (·.1)=l.map Int.ofNat)(g:∀e∈c.toList,∃k,e.2=.int e.1 k)(i:TG b l D t') :
  (h.update a (Obj.putSet c t')).get? a=some { cls:=.type "set",dict:=none,data:=.set c (d+1) t' }/\SG b (h.update a (Obj.putSet c t')) a l D:=by
 have e:=HC (Obj.putSet c t') f rfl;exact⟨e,c,d+1,t',e,j,g,i⟩
def small_line (h:n<=6):n<=sizeLine:=bC h (by decide)
def EX {a:Addr}{l D:aj}{b:Bool}{k:Nat}{tk:Tok}{Q:Bool->Shared->Prop}(hS:SG b s.heap a l D)(hk:k<6)(hD:k∉D)
  (h:∀h' r,Heap.SameBut a s.heap h'->SG b h' a (if k∈l then l else ins l k) D->Q r { s with heap:=h' }) :
  wpAny (model prog w) A (setAddHashed a (.int (Int.ofNat k) tk) ((intKind prog w).hash (Int.ofNat k))) Q E s:=by
 obtain⟨n,ep,t,u,p,H,g⟩:=hS;have F:ElemsOf (intKind prog w) n.toList:=m9 g.mem p H;have hz:=ib p;have h6:=(mem_b4 g.mem).1;have hf:t.fits n.size=true:=g.fits hz;have hb:n.size<scanBound:=by unfold scanBound; omega
 have y:(intKind prog w).is (Int.ofNat k) (.int (Int.ofNat k) tk)=true:=intKind_is _ _ _ _;unfold setAddHashed setAddHashedIn;refine H9 (aL (I0 u rfl hf ?_));dsimp only;rw[byScan_of (knd:=intKind prog w) rfl hb F];simp only[↓reduceIte];unfold setAddByScan;refine aL ?_;refine aL (wpAny_rule ?_);refine aL (wpAny_setScan_of (knd:=intKind prog w) y u rfl hf F ?_);have M:∀e∈n.toList,(intKind prog w).is (Int.ofNat k) e.2=true->k∈l:=by
  intro e m hi;obtain⟨I,Y⟩:=H e m;obtain⟨t2,J⟩:=Value.isInt_shape (show Value.isInt (Int.ofNat k) e.2=true from hi);rw[Y] at J;injection J with e3 _;have:e.1∈l.map Int.ofNat:=by rw[<-p]; exact G4 m
  obtain⟨k',T,ek⟩:=eJ this;rw[e3] at ek;have:k'=k:=Int.ofNat.inj ek;exact this ▸ T
 cases hr:List.findIdx? (λe=>(intKind prog w).is (Int.ofNat k) e.2) n.toList with
 | some j=>
  dsimp only;obtain⟨hj,X,_⟩:=G8.mp hr;have d:k∈l:=M _ (G5 hj) X;refine ba (ba ?_);have e:s={ s with heap:=s.heap }:=by cases s; rfl
  have:=h s.heap false (Heap.SameBut.refl a s.heap) ⟨n,ep,t,u,by rw[if_pos d]; exact p,H,by rw[if_pos d]; exact g⟩;rw[e]; exact this
 | none=>
  dsimp only;have d:k∉l:=by
   intro hm;have:Int.ofNat k∈n.toList.map (·.1):=by rw[p]; exact G4 hm
   obtain⟨e,m,ee⟩:=eJ this;have:=List.findIdx?_eq_none_iff.mp hr e m;obtain⟨I,Y⟩:=H e m;rw[Y,ee] at this;have z:(intKind prog w).is (Int.ofNat k) (.int (Int.ofNat k) I)=true:=intKind_is _ _ _ _;rw[z] at this;cases this
  rw[if_neg d] at h;have hh:(intKind prog w).hash (Int.ofNat k)=Int.ofNat k:=vB hk;rw[hh];obtain⟨f,i,hL,L,J,U,m2,m3,m4,N,m6,W⟩:=xQ (x:=.int (Int.ofNat k) tk) g p hk d hD;rw[hL];dsimp only;have B:∀e∈f.toList,∃tk,e.2=.int e.1 tk:=λe m=>by
   rcases J e m with q | q
   .exact H e q
   .rw[q]; exact⟨tk,rfl⟩
  have C:=ib L;have G:=(mem_b4 W).1;refine aL ?_;refine ba ?_;rw[N];simp only[if_true];refine aL ?_;rw[hashByValue_scannable 8 (x:=.int (Int.ofNat k) tk) rfl];refine ba ?_;simp only[plainKind,if_true,Bool.not_false,Bool.true_and];refine aL (wpAny_storeSet_of u rfl ?_ (small_line (by rw[C]; exact G)));by_cases c:i.tooFull=true
  .rw[if_pos c];obtain⟨t2,r1,r2⟩:=DA (b:=b) (D:=D) W L m4 N;rw[r1];dsimp only;have hx:=HC (Obj.putSet f i) u rfl;refine aL ?_;refine ba ?_;refine aL (wpAny_storeSet_of (o:={ cls:=.type "set",dict:=none,data:=.set f (ep+1) i }) hx rfl ?_ (small_line (by rw[C]; exact G)));refine ba (ba (h _ true ((HI s.heap a _).trans (HI _ a _)) (SG.store hx L B r2).2))
  .rw[if_neg c];have P:i.mask=7/\i.fill<=4\/i.mask=15\/i.mask=31:=by
    rcases g.mask with ⟨q,q2⟩ | q
    .refine .inl ⟨U.trans q,?_⟩;simp only[SetTable.tooFull,U,q,GS,ge_iff_le] at c;omega
    .exact .inr (by rw[U]; exact q)
   refine ba (ba (h _ true (HI s.heap a _) (SG.store u L B ⟨W,m2,by rw[m3]; exact g.dum,P,m4,N⟩).2))
end
open PySem.W
def zw:entryFor table "set.__iter__" = some Builtin.«frozenset.__iter__»:=
 entryFor_alias (id' := "frozenset.__iter__") (by kernel_rfl) rfl (by decide +kernel) (by kernel_rfl)
def lJ:Slot "set_iterator" "__next__" "set_iterator.__next__" :=
 .of (owner := "set_iterator") (n := "__next__") (by rw[typeLookup_type,Jk]; kernel_rfl) (by decide +kernel) (by decide +kernel) (by decide +kernel)
  (by first | exact .inl (by decide +kernel) | exact .inr (by decide +kernel)) (by rw[JE]; kernel_rfl)
def wW:entryFor table "set_iterator.__next__" = some Builtin.«set_iterator.__next__»:=entryFor_of_tree (by kernel_rfl)
theorem tc:Manifest.owners.lookup (String.ofList ['r','o','t','a','r','e','t','i','_','t','e','s'].reverse)=some Manifest.sig_set_iterator:=by kernel_rfl
def tm a:argsOk "set_iterator.__next__" ⟨[a],[]⟩:=by
 unfold argsOk; rw[signature?_of (id := "set_iterator.__next__") (n:=['_','_','t','x','e','n','_','_']) (o:=['r','o','t','a','r','e','t','i','_','t','e','s']) (by kernel_rfl) tc]; kernel_rfl
def wm:Slot "set_iterator" "__iter__" "set_iterator.__iter__" :=
 .of (owner := "set_iterator") (n := "__iter__") (by rw[typeLookup_type,Jk]; kernel_rfl) (by decide +kernel) (by decide +kernel) (by decide +kernel)
  (by first | exact .inl (by decide +kernel) | exact .inr (by decide +kernel)) (by rw[JE]; kernel_rfl)
def Fz:typeLookup (.type "set") "__len__" = pure (some (.builtin "set.__len__")):=by rw[typeLookup_type,Jk]; kernel_rfl
section
variable {c:Program}{w:World}{A:Around}{E:Value->Shared->Prop}{s:Shared}{r:Addr}
def CU (d:s.TypeIs (.ref r) "set")(h:Q false s):wpAny (model c w) A (Builtin.List.listLengthHint (.ref r)) Q E s:=by
 unfold Builtin.List.listLengthHint;refine aL (wpAny_specialOf d Fz ?_);generalize hid:("set.__len__" : String)=id0;wp_delta
 rw[show splitId id0=some ("set", "__len__") from by subst hid; decide +kernel];subst hid;refine aL (wpAny_isInstance (T := "set") (b:=true) d (by rw[JE]; kernel_rfl) ?_);refine Iv (λa=>absurd a (by decide)) (λ_=>?_);refine Iv (λ_=>?_) (λa=>absurd (by decide +kernel) a);refine aL (wpAny_typeOf d ?_);exact ba h
def sd (h:Q (w.params.followText "set-order") s):wpAny (model c w) A setsByText Q E s:=by
 unfold setsByText;refine aL (wpAny_askSetting ?_);exact ba h
def B5 (f:s.heap.get? a=some { cls:=.type "set",dict:=none,data:=.set b g t })(e:t.fits b.size=true)(d:t.plain=true)(h:Q false s) :
  wpAny (model c w) A (setDrawn a) Q E s:=by
 unfold setDrawn;refine aL (I0 f rfl e ?_);dsimp only;refine aL (sd ?_);refine ba ?_;show Q (!w.params.followText "set-order" && (!t.plain&&decide (b.size > 1))) s;rw[d,Bool.not_true,Bool.false_and,Bool.and_false];exact h
end
noncomputable abbrev kW (slot i:Nat)(a:Addr)(n ep:Nat):Obj:={ cls:=.type "set_iterator",data:=.fields #[.int slot 0,.int i 0,.ref a,.int n 0,.int ep 0] }
section
variable {prog:Program}{w:World}{A:Around}{E:Value->Shared->Prop}{s:Shared}{a:Addr}{es:Array (Int×Value)}{ep:Nat}{t:SetTable}
def C0 (b:s.heap.get? a=some { cls:=.type "set",dict:=none,data:=.set es ep t })(c:t.fits es.size=true)(e:t.plain=true)
  (f:Q (.ref s.heap.objs.size) { s with heap:=s.heap.push (kW 0 0 a es.size ep) }):wpAny (model prog w) A (pyIter (.ref a)) Q E s:=by
 have d:s.TypeIs (.ref a) "set":=⟨_,b,rfl⟩
 refine wpAny_pyIter_slot d F.slot_set_iter (Hv F.slot_set_iter d zw ?_ (F.args_set_iter_1 _));unfold Builtin.«frozenset.__iter__» Builtin.Frozenset.slot0 slotArgs;simp only[List.isEmpty_nil,Bool.not_true,Bool.false_eq_true,↓reduceIte,bind_assoc,List.length_nil,JH];unfold Builtin.Frozenset.addrOf Builtin.Frozenset.sizeOf;refine aL (ba ?_);try dsimp only
 refine aL (ba ?_);refine aL (aL (Js b rfl c (ba ?_)));refine aL (B5 b c e ?_);simp only[Bool.false_eq_true,if_false];refine aL (ba ?_);refine aL (wpAny_setEpoch_of b rfl c ?_);unfold newFields;refine aL (G9 (ba ⟨_,rfl, "set_iterator",_,⟨_,dH _ rfl,rfl⟩,lJ.lookup,?_⟩));exact f
noncomputable def ord (w:World)(a:Addr)(ep:Nat)(es:Array (Int×Value)):Array (Int×Value):=if w.params.followText "set-order" then pickOrder (w.params.setOrder a ep) es else es
noncomputable def nextOf (w:World)(a:Addr)(ep:Nat)(es:Array (Int×Value))(t:SetTable)(slot i:Nat):Option (Value×Nat):=
 if w.params.followText "set-order" then ((ord w a ep es)[i]?).map λe=>(e.2,slot) else match es[SetTable.below t.place slot]?,t.place[SetTable.below t.place slot]? with
  | some (_,x),some j=>some (x,j+1)
  | _,_=>none
def vU (e:s.heap.get? a=some { cls:=.type "set",dict:=none,data:=.set es ep t })(f:t.fits es.size=true)(g:t.plain=true)(d:t.led = !w.params.followText "set-order")(h:Q (nextOf w a ep es t slot i) s) :
  wpAny (model prog w) A (setNext a slot i ep) Q E s:=by
 unfold setNext;refine aL (I0 e rfl f ?_);dsimp only;refine aL (sd ?_);unfold nextOf ord at h;cases c:w.params.followText "set-order" with
 | true=>
  rw[c] at h;simp only[if_true,JH,Bool.false_eq_true,if_false] at h ⊢;refine aL ?_;unfold setWalk;refine aL (I0 e rfl f ?_);dsimp only;refine aL (sd ?_);rw[c];simp only[if_true];refine aL (wpAny_askSetting ?_);exact ba (ba h)
 | false=>
  rw[c] at h d;simp only[Bool.false_eq_true,if_false] at h ⊢;refine Iv (λb=>absurd (show (!t.plain&&decide (es.size > 1))=true from b) (by rw[g]; simp)) (λ_=>?_);refine aL ?_;refine Iv (λb=>absurd (show (!t.led&&!es.isEmpty)=true from b) (by rw[d]; simp)) (λ_=>?_);exact ba (ba h)
end
theorem uT:∀{l:List α} {i:Nat} (h:i<l.length),List.Perm (l[i]::l.eraseIdx i) l
 | x::l,0,_=>List.Perm.refl _
 | x::l,i+1,h=>by
  have:=uT (l:=l) (i:=i) (Nat.lt_of_succ_lt_succ h);rw[List.eraseIdx_cons_succ,List.getElem_cons_succ];exact (List.Perm.swap x _ _).trans (this.cons x)
theorem uf next:∀(a k:Nat) (left:List α) (b:Array α),a=left.length->List.Perm (pickOrder.go next a k left b).toList (b.toList++left)
 | 0,k,left,b,h=>by
  have:left=[]:=List.length_eq_zero_iff.mp h.symm;subst this;simp[pickOrder.go]
 | a+1,k,left,b,h=>by
  unfold pickOrder.go;have c:next k % left.length<left.length:=Nat.mod_lt _ (by omega);rw[GJ c];dsimp only;refine (uf next a (k+1) _ _ ?_).trans ?_
  .rw[List.length_eraseIdx,if_pos c]; omega
  .rw[JI,JJ];refine List.Perm.append_left _ ?_;exact uT c
def E6 next (a:Array α):List.Perm (pickOrder next a).toList a.toList:=by
 have:=uf next a.size 0 a.toList #[] (by simp);simpa[pickOrder] using this
def rl w a ep b:List.Perm (ord w a ep b).toList b.toList:=by
 unfold ord;split
 .exact E6 _ _
 .exact List.Perm.refl _
def pA w a ep b:(ord w a ep b).size=b.size:=by
 rw[<-Array.length_toList,(rl w a ep b).length_eq,Array.length_toList]
noncomputable def slotAt (w:World)(l:aj)(i:Nat):Nat:=if w.params.followText "set-order" then 0 else if i=0 then 0 else l.getD (i - 1) 0+1
section
variable {prog:Program}{w:World}{A:Around}{E:Value->Shared->Prop}{s:Shared}{a I:Addr}{es:Array (Int×Value)}{ep:Nat}{t:SetTable}{b:Bool}{l D:aj}
def Ct (ht:TG b l D t)(h1:es.toList.map (·.1)=l.map Int.ofNat)(hi:i<es.size):∃e,(ord w a ep es)[i]? = some e/\nextOf w a ep es t (slotAt w l i) i=some (e.2,slotAt w l (i+1)):=by
 have hz:=ib h1;have ho:i<(ord w a ep es).size:=by rw[pA]; exact hi
 refine⟨(ord w a ep es)[i],by simp[ho],?_⟩;unfold nextOf slotAt;by_cases hb:w.params.followText "set-order" = true
 .simp only[hb,if_true];rw[IJ ho];rfl
 .have q:=dU tU l ht.mem;simp only[b3,List.all_eq_true,GN,Hh] at q;have q1:=q i (by omega);have hbel:SetTable.below t.place (if i=0 then 0 else l.getD (i - 1) 0+1)=i:=by rw[ht.place]; exact q1
  have hil:i<l.length:=by omega
  have hb':w.params.followText "set-order" = false:=by simpa using hb
  simp only[hb',Bool.false_eq_true,if_false,hbel];have e1:es[i]? = some es[i]:=by simp[hi]
  have e2:t.place[i]? = some (l[i]'hil):=by rw[ht.place]; simp[hil]
  have e3:(ord w a ep es)=es:=by unfold ord; rw[if_neg hb]
  rw[e1,e2];simp only[e3,Nat.add_eq_zero_iff,Nat.succ_ne_self,and_false,if_false,Nat.add_sub_cancel];simp[hil]
def EN (e:TG b l D t)(h:es.toList.map (·.1)=l.map Int.ofNat):nextOf w a ep es t (slotAt w l es.size) es.size=none:=by
 have j:=ib h;unfold nextOf slotAt;by_cases f:w.params.followText "set-order" = true
 .simp only[f,if_true];rw[Ja (by rw[pA]; exact bA _)];rfl
 .have q:=dU tU l e.mem;simp only[b3,List.all_eq_true,GN,Hh] at q;have i:=q es.size (by omega);have c:SetTable.below t.place (if es.size=0 then 0 else l.getD (es.size - 1) 0+1)=es.size:=by rw[e.place]; exact i
  have d:w.params.followText "set-order" = false:=by simpa using f
  simp only[d,Bool.false_eq_true,if_false,c];have g:es[es.size]? = none:=by simp
  rw[g]
def xU (c:s.heap.get? I=some (kW slot i a es.size ep))(h:s.heap.get? a=some { cls:=.type "set",dict:=none,data:=.set es ep t })(g:t.fits es.size=true)(k:t.plain=true)(o:t.led = !w.params.followText "set-order")(r:nextOf w a ep es t slot i=some (x,nx))
  (n:∀d,d.get? I=some (kW nx (i+1) a es.size ep)->Heap.SameBut I s.heap d->Q (some x) { s with heap:=d }):wpAny (model prog w) A (pyNext (.ref I)) Q E s:=by
 have f:s.TypeIs (.ref I) "set_iterator":=⟨_,c,rfl⟩
 unfold pyNext;refine aL (wpAny_attempt (wpAny_callSpecial?_slot (name:=Str.ofString "__next__") f lJ (Hv lJ f wW ?_ (tm _))));unfold Builtin.«set_iterator.__next__» slotArgs;refine aL (show wpAny _ _ (pure (Value.ref I,[])) _ _ _ from ba ?_);refine aL (wpAny_fieldsOf c rfl ?_);dsimp only;refine aL (Js h rfl g ?_);refine Iv (λe=>absurd e (by simp)) (λ_=>?_);refine aL (vU h g k o ?_);rw[Int.toNat_natCast,Int.toNat_natCast,Int.toNat_natCast,r];dsimp only;refine aL (wpAny_setField_rec c (by simp) λj g1 p=>?_);refine aL (wpAny_setField_rec (s:={ s with heap:=j }) g1 (by simp) λm g2 q=>?_);exact ba ⟨_,rfl,ba (n m g2 (p.trans q))⟩
def x9 (j:A.handled=none)(c:s.heap.get? I=some (kW slot i a es.size ep))(h:s.heap.get? a=some { cls:=.type "set",dict:=none,data:=.set es ep t })(f:t.fits es.size=true)(o:t.plain=true)(p:t.led = !w.params.followText "set-order")(k:nextOf w a ep es t slot i=none)
  (n:∀g,Heap.ExtBut I s.heap g->Q none { s with heap:=g }):wpAny (model prog w) A (pyNext (.ref I)) Q E s:=by
 have e:s.TypeIs (.ref I) "set_iterator":=⟨_,c,rfl⟩
 unfold pyNext;refine aL (wpAny_attempt (wpAny_callSpecial?_slot (name:=Str.ofString "__next__") e lJ (Hv lJ e wW ?_ (tm _))));unfold Builtin.«set_iterator.__next__» slotArgs;refine aL (show wpAny _ _ (pure (Value.ref I,[])) _ _ _ from ba ?_);refine aL (wpAny_fieldsOf c rfl ?_);dsimp only;refine aL (Js h rfl f ?_);refine Iv (λd=>absurd d (by simp)) (λ_=>?_);refine aL (vU h f o p ?_);rw[Int.toNat_natCast,Int.toNat_natCast,Int.toNat_natCast,k];dsimp only;refine aL (JB c rfl (by simp) ?_);show wpAny _ _ (newExc (.type "StopIteration") [] >>= _) _ _ _;refine aL ?_;dsimp only[newExc,newTuple];refine aL (G9 ?_ (by size_fits));refine aL (m:=firstArgMember _ _) (wpAny_of_eq (a:=Value.none) (by first | rfl | (dsimp only[firstArgMember]; rfl)) ?_);refine G9 ?_ (by size_fits);dsimp only[raiseNew];refine aL (wpAny_handled ?_);rw[show A.in1.handled=none from j];refine aL (ba (wpAny_throw ?_));refine aL (wpAny_isInstance (T := "StopIteration") (b:=true) ⟨_,dH _ rfl,rfl⟩ isSubtype_stop ?_);exact ba (n _ (((HI ..).extBut.push _).push _))
end
def FH:entryFor table "set_iterator.__iter__" = some Builtin.«dict_keyiterator.__iter__»:=
 entryFor_alias (id' := "dict_keyiterator.__iter__") (by kernel_rfl) rfl (by decide +kernel) (by kernel_rfl)
def Gw a:argsOk "set_iterator.__iter__" ⟨[a],[]⟩:=by
 unfold argsOk; rw[signature?_of (id := "set_iterator.__iter__") (n:=['_','_','r','e','t','i','_','_']) (o:=['r','o','t','a','r','e','t','i','_','t','e','s']) (by kernel_rfl) tc]; kernel_rfl
noncomputable abbrev mI (a:Array (Int×Value))(ep:Nat)(t:SetTable):Obj:={ cls:=.type "set",dict:=none,data:=.set a ep t }
section
variable {prog:Program}{w:World}{A:Around}{E:Value->Shared->Prop}{s:Shared}{a I:Addr}{c:Array (Int×Value)}{ep:Nat}{t:SetTable}{l D:aj}
def CL w l:slotAt w l 0=0:=by unfold slotAt; split <;> rfl
def Gi (hh:A.handled=none)(hne:a≠I)(ht:TG (!w.params.followText "set-order") l D t)(h1:c.toList.map (·.1)=l.map Int.ofNat) :
  Walks prog w A I [I,a] [I] c.size (λi v=>∃e,(ord w a ep c)[i]? = some e/\v=e.2) (λi h=>h.get? I=some (kW (slotAt w l i) i a c.size ep)/\h.get? a=some (mI c ep t)) where
 sub:=λb hb=>by simp at hb; simp[hb]
 frame:=λ_ _ _ st hk=>⟨hk I (by simp) _ st.1,hk a (by simp) _ st.2⟩
 item:=λi s Q E hi st hQ=>by
  obtain⟨e,e1,e2⟩:=Ct (w:=w) (a:=a) (ep:=ep) ht h1 hi;refine xU st.1 st.2 (ht.fits (ib h1)) ht.plain ht.led e2 λh' g sb=>?_;exact hQ _ h' s.toks ⟨e,e1,rfl⟩ ⟨g,sb.extBut _ _ hne st.2⟩ λb o hb q=>sb.extBut b o (λz=>hb (by simp[z])) q
 done:=λs Q E st hQ=>x9 hh st.1 st.2 (ht.fits (ib h1)) ht.plain ht.led (EN ht h1) λh' he=>hQ h' s.toks λb o hb q=>he b o (λz=>hb (by simp[z])) q
 self:=λi s Q E st hQ=>by
  have hT:s.TypeIs (.ref I) "set_iterator":=⟨_,st.1,rfl⟩
  refine wpAny_pyIter_slot hT wm (Hv wm hT FH ?_ (Gw _));show wpAny _ _ (ret (.ref I)) _ _ s;exact ba ⟨_,rfl, "set_iterator",_,hT,lJ.lookup,hQ⟩
def BB (ht:TG (!w.params.followText "set-order") l D t)(h1:c.toList.map (·.1)=l.map Int.ofNat):KdlSrc prog w "set" a a c.size (λi v=>∃e,(ord w a ep c)[i]? = some e/\v=e.2) (λh=>h.get? a=some (mI c ep t)) where
 type:=λ_ hm=>⟨_,hm,rfl⟩
 there:=λ_ hm=>⟨bS hm,bS hm⟩
 keep:=λ_ _ hm hk=>hk a (.inl rfl) _ hm
 notList:=by decide
 notTuple:=by decide
 hint:=λ_ _ _ _ hm hq=>CU ⟨_,hm,rfl⟩ hq
 iter:=λA s hh hm=>⟨kW 0 0 a c.size ep,_,(λ_ _ hq=>C0 hm (ht.fits (ib h1)) ht.plain hq),Gi hh (dA (bS hm)) ht h1,⟨by rw[CL]; exact dH _ rfl,cb _ hm⟩⟩
def EI (K:KdlSrc prog w T r d n P u)(y:A.handled=none)(f:u s.heap)(z:n<=sizeLine)
  (B:∀j k acc,(∀b o,s.heap.get? b=some o->j.get? b=some o)->ItemsOf P acc n->Q acc.toList { s with heap:=j,toks:=k }):wpAny (model prog w) A (collect (.ref r)) Q E s:=by
 unfold collect;refine aL (wpAny_runValue (Iw F.entry_proto_collect ?_));rw[HX F.plain_proto_collect _];show wpAny _ A.in1 (newList [] >>= λl=>again (.builtin "list.__iadd__" ⟨[l,.ref r],[]⟩)) _ _ s;refine aL (G9 ?_);refine ba ⟨plainId_quiet F.plain_list_iadd _,Iw F.entry_list_iadd ?_⟩;rw[HX F.plain_list_iadd _];show wpAny _ A.in1 (Builtin.List.listExtendWith (.ref s.heap.objs.size) (.ref r) (.ref s.heap.objs.size)) _ _ _;have h:=K.there _ f;refine kdl_extend (R:=λr p=>match r with
   | .ok (.ret v)=>wpAny (model prog w) A (match v with
    | .ref a=>do
     match (<-load a).data with
     | .seq x _=>pure x.toList
     | _=>unsupported "internal:collect"
    | _=>unsupported "internal:collect") Q E p
   | .ok _=>False
   | .error e=>E e p) (s:={ s with heap:=s.heap.push { cls:=.type "list",data:=.seq ([]:List Value).toArray } }) K y (K.keep _ _ f λb _ o e=>cb _ e) s.heap.objs.size (HL h.1) (HL h.2) (.ref s.heap.objs.size) 0 (dH _ rfl) (λj k i C q m g=>?_) z
 show wpAny _ A (load s.heap.objs.size >>= _) _ _ _;refine aL (wpAny_load m ?_);exact ba (B j k i (λb o e=>q b o (dA (bS e)) (cb _ e)) g)
def sorted_set (Z:A.handled=none)(hS:SG (!w.params.followText "set-order") s.heap a l D)
  (h:∀f u L (J:ao) n,(∀b o,s.heap.get? b=some o->f.get? b=some o)->a<L->f.get? L=some { cls:=.type "list",data:=.seq J.toArray n }->IntsAre J (l.map Int.ofNat)->Q (.ref L) { s with heap:=f,toks:=u }) :
  wpAny (model prog w) A (call (.builtin "sorted") [.ref a]) Q E s:=by
 obtain⟨c,ep,t,N,z,h2,B⟩:=hS;have hz:=ib z;have h6:=(mem_b4 B.mem).1;refine Calls.call_function_entry kind_sorted plain_sorted entry_sorted (args_sorted1 _) ?_;unfold Builtin.«sorted»;refine aL (m:=checkCount "sorted" 1 1 _) (ba ?_);refine aL (EI (BB (prog:=prog) (a:=a) (ep:=ep) B z) Z N (small_line (by omega)) λf u acc y d=>?_);refine aL (wpAny_newList ?_ (hsz:=by rw[Array.length_toList,d.1]; exact small_line (by omega)));have C:acc.toList=(ord w a ep c).toList.map (·.2):=by
  apply Ha;intro j;rw[GK,Jl,Jl];by_cases P:j<acc.size
  .obtain⟨e,e1,e2⟩:=d.2 j acc[j] (by simp[P]);rw[e1,IJ P,e2];rfl
  .have F:(ord w a ep c).size<=j:=by rw[pA,<-d.1]; omega
   rw[Ja (by omega),Ja F];rfl
 have i:IntsAre acc.toList ((ord w a ep c).toList.map (·.1)):=by
  rw[C];have:∀(m:List (Int×Value)),(∀e∈m,∃u,e.2=.int e.1 u)->IntsAre (m.map (·.2)) (m.map (·.1)):=by
   intro m;induction m with
   | nil=>intro _; exact IntsAre.nil
   | cons e m X=>
    intro M;obtain⟨u,Y⟩:=M e bP;rw[GM,GM,Y];exact IntsAre.cons _ _ (X λx U=>M x (bK _ U))
  exact this _ λe he=>h2 e ((rl w a ep c).mem_iff.mp he)
 have g:(f.push (seqObj "list" acc.toList.toArray 0)).get? f.objs.size=some (seqObj "list" acc.toList.toArray 0):=dH _ rfl;have v:acc.toList.length<64:=by rw[Array.length_toList,d.1]; omega
 refine aL (H9 (Hv slot_list_sort ⟨_,g,rfl⟩ entry_list_sort (list_sort_tree g i v λk r a1 T W=>⟨_,rfl,?_⟩) (args_list_sort _)));have G:r=l.map Int.ofNat:=by
  have p:r.Perm (l.map Int.ofNat):=by
   rw[<-z];exact T.trans ((rl w a ep c).map _)
  refine ksm_same p W ?_;rw[List.pairwise_map];exact (mem_b4 B.mem).2.2.imp λh=>Int.ofNat_le.mpr (HK h)
 subst G;obtain⟨e,ge⟩:=sortedHeap_at (out:=k) g;refine ba ⟨_,rfl,h _ _ f.objs.size k.toList e (λb o q=>?_) ?_ ?_ a1⟩
 .have H:b<f.objs.size:=bS (y b o q);rw[sortedHeap_old (IF H) (by rw[G0]; exact HE H)];exact cb _ (y b o q)
 .exact bS (y a _ N)
 .simpa using ge
end
noncomputable def stp (l:aj)(k:Nat):aj:=if k∈l then l else ins l k
noncomputable def acc (val:Nat->Nat)(i:Nat):aj:=((List.range i).map val).foldl stp []
def Av val i:acc val (i+1)=stp (acc val i) (val i):=by
 unfold acc;rw[List.range_succ,HU,JK];rfl
section
variable {prog:Program}{w:World}{A:Around}{R:Result->Shared->Prop}{I:Addr}{fp wr:al}{G:Array GenState->Array GenState->Prop}{n:Nat}{P:Nat->Value->Prop}{St:Nat->Shared->Prop}
def SG.at (x:SG b h a l D)(e:∀o,h.get? a=some o->h'.get? a=some o):SG b h' a l D:=by
 obtain⟨c,f,t,d,r⟩:=x;exact⟨c,f,t,e _ d,r⟩
def x8 b (W:WalksS prog w A.in1 I fp wr G n P St) S (x:S∉fp) val (q:∀i v,P i v->val i<6/\∃t,v=.int (Int.ofNat (val i)) t) :
  ∀(k i:Nat) (s:Shared),n - i=k->i<=n->St i s->SG b s.heap S (acc val i) [] ->
   (∀a,Moved (S::wr) G s a->SG b a.heap S (acc val n) []->R (.ok (.ret .none)) a) ->
   codeAny (model prog w) A (.builtin "set.update.loop" ⟨[.ref S,.ref I],[]⟩) R s:=by
 have m:S∉wr:=λh=>x (W.sub _ h);have c:∀b∈wr,b∈S::wr:=λb p=>bK _ p;intro k;induction k with
 | zero=>
  intro i s Q Y d H M;have L:i=n:=by omega
  subst L;refine Iw F.entry_set_update_loop ?_;rw[HX IU _];show wpAny _ A.in1 (pyNext (.ref I) >>= _) _ _ s;refine aL (W.done s _ _ d λa u=>?_);show wpAny _ A.in1 (ret Value.none) _ _ a;exact ba (M a (u.mono c) (H.at λo e=>u.heap S _ m e))
 | succ k X=>
  intro i s Q Y d H M;have f:i<n:=by omega
  refine Iw F.entry_set_update_loop ?_;rw[HX IU _];show wpAny _ A.in1 (pyNext (.ref I) >>= _) _ _ s;refine aL (W.item i s _ _ f d λv a T g u=>?_);obtain⟨C,t,rfl⟩:=q i v T;have B:SG b a.heap S (acc val i) []:=H.at λo e=>u.heap S _ m e;show wpAny _ A.in1 (holding [Value.int (Int.ofNat (val i)) t] (setAdd S (.int (Int.ofNat (val i)) t)) >>= _) _ _ a;refine aL (H9 ?_);unfold setAdd;refine H9 ?_;refine aL ((intKind prog w).pyHash (k:=Int.ofNat (val i)) (intKind_is _ _ _ _) ?_);refine EX (s:={ a with toks:=a.toks+1 }) B C (λz=>by cases z) λU r l J=>?_;have N:SG b U S (acc val (i+1)) []:=by rw[Av]; exact J
  refine ba ⟨plainId_quiet IU _,X (i+1) _ (by omega) f (W.frame _ a _ _ g (HA _) λb p o e=>?_) N λE j y=>?_⟩
  .rw[l.2 b (λh:b=S=>x (by rw[<-h]; exact p))]; exact e
  .refine M E (Moved.trans W.gtrans ((u.mono c).then_heap (HA _) λb o p e=>?_) j) y;rw[l.2 b (λh:b=S=>p (by rw[h]; exact bP))]; exact e
end
section
variable {f:Program}{w:World}{A:Around}{E:Value->Shared->Prop}{s:Shared}
def Cr a
  (h:Q₁ (.ref s.heap.objs.size) { s with heap:=s.heap.push { cls:=.type "set",dict:=none,data:=.set #[] 0 (.fresh 0 0 (!w.params.followText "set-order")) } }) :
  codeAny (model f w) A (.call (.builtin "set.__new__") ⟨[.type "set",a],[]⟩) (wants Q₁ E) s:=by
 refine codeAny_of_tree ?_;show wpAny _ A.in1 (do checkBuiltinCall "set.__new__" ⟨[.type "set",a],[]⟩; again (.builtin "set.__new__" ⟨[.type "set",a],[]⟩)) _ _ s;refine aL (wpAny_of_eq (F.newCall_set_1 a) (ba ⟨plainId_quiet F.plain_set_new _,Iw F.entry_set_new ?_⟩));rw[HX F.plain_set_new _];unfold Builtin.«set.__new__» Builtin.Frozenset.newClass;have b:=sub_set_self;obtain⟨c,g,d,e,os⟩:=s;dsimp only;wp_walk
 refine wpAny_askSetting (ba ?_);dsimp only;dsimp only[newObj];refine aL (wpAny_alloc (ba ?_));exact ba h
def xu b (e:h.get? a=some { cls:=.type "set",dict:=none,data:=.set #[] 0 (.fresh 0 0 b) }):SG b h a [] []:=
 ⟨#[],0,_,e,rfl,λe c=>by simp at c,⟨by decide +kernel,rfl,⟨[],by decide +kernel,rfl,λx d=>by cases d⟩,.inl ⟨rfl,by simp[SetTable.fill,SetTable.fresh]⟩,rfl,rfl⟩⟩
set_option maxHeartbeats 3200000 in
def set_list {l:Addr}{items:aB}{ns:aj}{Q:Value->Shared->Prop}
  (hh:A.handled=none)(hl:s.heap.IsList l items)(hi:IntsAre items.toList (ns.map Int.ofNat))(h6:∀x∈ns,x<6)
  (h:∀(h':Heap) (tk:Nat),SG (!w.params.followText "set-order") h' s.heap.objs.size (ns.foldl stp []) [] ->
   (∀b o,b<s.heap.objs.size->s.heap.get? b=some o->h'.get? b=some o)->Q (.ref s.heap.objs.size) { s with heap:=h',toks:=tk }) :
  wpAny (model f w) A (call (.type "set") [.ref l]) Q E s:=by
 have N:items.size=ns.length:=by have:=IntsAre.length hi; simpa using this
 have L:acc (λi=>ns.getD i 0) items.size=ns.foldl stp []:=by
  unfold acc;have:(List.range items.size).map (λi=>ns.getD i 0)=ns:=by
   rw[N];apply Ha;intro j;by_cases hj:j<ns.length
   .simp[hj]
   .simp[Nat.le_of_not_lt hj]
  rw[this]
 obtain⟨c,tl,b6⟩:=Iq.mro;have Y:=Iq.made;have b7:=Iq.sub;refine Jz (codeAny_of_tree ?_);show wpAny _ _ (callAny (.type "set") _) _ _ _;refine ba ⟨JD _ (by decide +kernel),Iw F.entry_type_call ?_⟩;rw[Around.under_plain (weight_type_call_type "set" [.ref l] []) rfl];have h1:=Iq.notType;have h2:=Iq.canCreate;have c1:=F.typeCall_set_1 (.ref l);repeat (any_goals (first | assumption | wp_step))
 refine IG (Cr (.ref l) (E:=E) (Q₁:=λobj p=>obj=.ref s.heap.objs.size/\p={ s with heap:=s.heap.push { cls:=.type "set",dict:=none,data:=.set #[] 0 (.fresh 0 0 (!w.params.followText "set-order")) } }) ⟨rfl,rfl⟩) λr p hr=>?_;cases r with
 | error e=>exact hr
 | ok fl=>
  cases fl with
  | ret obj=>
   obtain⟨rfl,rfl⟩:=hr;generalize b0:(!w.params.followText "set-order")=a at *;have hS:(s.heap.push { cls:=.type "set",dict:=none,data:=.set #[] 0 (.fresh 0 0 a) }).get? s.heap.objs.size=some { cls:=.type "set",dict:=none,data:=.set #[] 0 (.fresh 0 0 a) }:=dH _ rfl;have hT:Shared.TypeIs { s with heap:=s.heap.push { cls:=.type "set",dict:=none,data:=.set #[] 0 (.fresh 0 0 a) } } (.ref s.heap.objs.size) "set":=⟨_,hS,rfl⟩
   have b9:=Iq.init.lookup;have c0:=Iq.init.bind (.ref s.heap.objs.size);repeat (any_goals (first | assumption | wp_step))
   refine IG (HW (R:=wants (λr q=>r=.none/\∃h' tk,q={ s with heap:=h',toks:=tk }/\SG a h' s.heap.objs.size (ns.foldl stp []) [] /\
     (∀b o,b<s.heap.objs.size->s.heap.get? b=some o->h'.get? b=some o)) E) Iq.init.plain F.entry_set_init (check_set_init_1 hT ?_)) λT q d=>?_
   .obtain⟨ol,H,C,nl,B⟩:=hl;obtain⟨a9,z,a2,n⟩:=ol;simp only at C B;subst C; subst B;have P:(s.heap.push { cls:=.type "set",dict:=none,data:=.set #[] 0 (.fresh 0 0 a) }).get? l=some { cls:=.type "list",dict:=z,data:=.seq items nl,slots:=n }:=cb _ H;have a7:=F.sub_list_set;have a8:=F.sub_list_frozenset;have b8:(Value.type "list" == Value.type "dict")=false:=by decide
    have J:(s.heap.push { cls:=.type "set",dict:=none,data:=.set #[] 0 (.fresh 0 0 a) }).IsList l items:=⟨_,P,rfl,nl,rfl⟩
    unfold Builtin.«set.__init__» noKeywords Builtin.Frozenset.updateFrom;generalize X:pyIter=PI;wp_walk
    subst X;refine IV J ?_;refine aL (wpAny_runValue ?_);have G:l<s.heap.objs.size:=bS H;have a6:A.in1.in1.in1.handled=none:=by simp[hh]
    have I:l≠(s.heap.push { cls:=.type "set",dict:=none,data:=.set #[] 0 (.fresh 0 0 a) }).objs.size:=by
     rw[G0]; exact dA (HE G)
    have a5:s.heap.objs.size∉[(s.heap.push { cls:=.type "set",dict:=none,data:=.set #[] 0 (.fresh 0 0 a) }).objs.size,l]:=by
     rw[G0]; simp only[GY,GW,or_false,not_or];exact⟨dA (Ie _),HL G⟩
    have M:∀(i:Nat) (v:Value),items[i]? = some v->(λi=>ns.getD i 0) i<6/\∃t,v=.int (Int.ofNat ((λi=>ns.getD i 0) i)) t:=λi v hv=>by
     have u:i<ns.length:=by
      have:=(Hq.mp hv).1;omega
     obtain⟨t,et⟩:=IntsAre.int_at hi i v (by rw[Jl]; exact hv);refine⟨?_,t,?_⟩
     .simp only[GP,GJ u,Option.getD_some];exact h6 _ (G5 u)
     .rw[et];simp[u]
    refine x8 a ((Walks.list a6 _ l I items).toS) s.heap.objs.size
     a5 (λi=>ns.getD i 0) M (items.size - 0) 0 _ (by omega) (G3 _)
     ⟨⟨_,dH _ rfl,rfl,rfl⟩,(J.push _)⟩ ?hS0 ?hR
    case hS0=>exact xu a (cb _ hS)
    case hR=>
     intro s' U m;rw[L] at m;obtain⟨h',g',d',Z,a1⟩:=s';have eg:g'=s.gens:=U.gens;have ed:d'=s.drawn:=U.drawn;have eo:a1=s.os:=U.os;subst eg; subst ed; subst eo;show wpAny _ _ _ _ _ _;refine ba ?_;show wpAny _ _ (ret Value.none) _ _ _;refine ba ⟨rfl,h',Z,rfl,m,λb o hb e=>?_⟩;have a4:b≠s.heap.objs.size:=dA hb;have a0:b≠(s.heap.push { cls:=.type "set",dict:=none,data:=.set #[] 0 (.fresh 0 0 a) }).objs.size:=by
      rw[G0]; exact dA (HE hb)
     exact U.heap b o (by simp only[GY,GW,or_false,not_or]; exact⟨a4,a0⟩) (cb _ (cb _ e))
   .cases T with
    | error e=>exact d
    | ok y=>
     cases y with
     | ret r=>
      obtain⟨rfl,h',tk,rfl,m,a3⟩:=d;repeat (any_goals (first | assumption | wp_step))
      exact h _ _ m a3
     | _=>exact d.elim
  | _=>exact hr.elim
end
end St
namespace L2
open PySem PySem.Spec PyProof.Rows
section
variable {X:Cx}
noncomputable def eh (a:aj):av:=a.map λn=>.int (Int.ofNat n)
def BN (K:bh)(d:TE):TE:=λσ H Q=>d σ H λx c=>∃a b,x=.ref a/\SqL K c a (eh b)/\(∀n∈b,n<6)/\∀p,c p=none->Q (.ref p) (upd c p (.lst (eh (b.foldl St.stp []))))
theorem uG:∀{b:aj} {a:ao},Vals (eh b) a->IntsAre a (b.map Int.ofNat)
 | [],_,h=>by cases h; exact .nil
 | n::b,_,h=>by
  cases h with
  | cons c d=>
   obtain⟨t,rfl⟩:=(show ∃t,_=Value.int (Int.ofNat n) t from c)
   exact .cons _ _ (uG d)
theorem tP:∀{b:aj} {a:ao},IntsAre a (b.map Int.ofNat)->Vals (eh b) a
 | [],_,h=>by cases h; exact .nil
 | n::b,_,h=>by
  cases h with
  | cons _ t h=>exact .cons ⟨t,rfl⟩ (tP h)
def z8 (T:X.calm=true)(F:PE X e N)(g1:Gl X "sorted")(z:X.mg "sorted" = none)(b1:bootBuiltins "sorted" = some (.builtin "sorted"))(g2:Gl X "set")(J:X.mg "set" = none)(b2:bootBuiltins "set" = some (.type "set"))
  (i:starEach [.Call (.Name "set" m) [e] [] l] X.env=[(false,eval (.Call (.Name "set" m) [e] [] l) X.env)])(f:starEach [e] X.env=[(false,eval e X.env)]) :
  PE X (.Call (.Name "sorted" p1) [.Call (.Name "set" m) [e] [] l] [] p4) (BN X.K N):=by
 intro j s σ H Q I h;have v:=I.ok.hd T;refine He (iD I g1 z b1 ?_);refine Ig ?_ i rfl;rw[i];show wpAny _ _ (spliced ((false,eval (.Call (.Name "set" m) [e] [] l) X.env)::[])) _ _ s;refine Jx ?_;refine He (iD I g2 J b2 ?_);refine Ho ?_ f rfl;rw[f];show wpAny _ _ (spliced ((false,eval e X.env)::[])) _ _ s;refine Jx (bc (F j s σ H _ I h) λu s1 z0=>?_);obtain⟨x,H1,p,B,a,W,ex,A,C,q⟩:=z0;subst ex;cases B;refine Calls.spliced_nil ?_;obtain⟨U,Y,M,hz⟩:=p.list A;refine St.set_list v M.isList (by simpa using uG Y) C λh' tk w E=>?_;refine Calls.spliced_nil ?_;refine St.sorted_set v w λZ k L G n r d g c=>?_;refine⟨.ref L,upd H1 L (.lst (eh (W.foldl St.stp []))),p.laid (t':=k) (λb o y=>r b o (E b o (bS y) y)) (HK d) ⟨?_,G,n,tP c,g⟩,rfl,q L (p.hok.fresh (HK d))⟩;have:=w;obtain⟨es,ep,t,_,h1,_,P⟩:=this;rw[eh,GH];exact St.small_line (St.mem_b4 P.mem).1
def xK:OpR X (binaryOp .Add) (λx y H Q=>∃a b m,x=.ref a/\y=.ref b/\SqT X.K H a []/\SqT X.K H b m/\Q (.ref b) H):=by
 intro k s σ H x y v u Q I C w h;obtain⟨a,b,m,rfl,rfl,r,o,q⟩:=h;cases C;cases w;obtain⟨p,t,⟨⟨cls,A,data,z⟩,j,i,n,hd⟩,_⟩:=I.tuple r;obtain⟨e,E,⟨⟨l,g,data2,sl2⟩,f,d,B,c⟩,_⟩:=I.tuple o;simp only at i hd d c;subst i hd d c;cases t;exact concat_meets ⟨_,j,rfl⟩ ⟨_,f,rfl⟩ noFill_tuple_add seq_tuple_add IW IT (IM _ _)
  (tuple_addW0 a b #[] e.toArray n B A g z sl2 rfl) ⟨j,f,⟨.ref b,H,I,rfl,q⟩⟩
def BM l items n b a m i sl2 (p:¬(!items.isEmpty&&Builtin.List.listTooLong (items.size+a.size))=true)(f:items.size<=sizeLine)(c:items.size+a.size<=sizeLine+1) :
  Meets (Builtin.«list.extend» ⟨[.ref l,.ref b],[]⟩) (λ_ R s=>s.heap.get? l=some { cls:=.type "list",dict:=none,data:=.seq items n,slots:=#[] }/\s.heap.get? b=some { cls:=.type "tuple",dict:=i,data:=.seq a m,slots:=sl2 }/\R (.ok (.ret Value.none)) { s with heap:=s.heap.update l (Obj.mapSeq λx=>x++a),toks:=s.toks }):=
 .of_wp λk w A R s h=>by
  obtain⟨u,g,d,v,os⟩:=s; obtain⟨j,o,h⟩:=h; have f1:=AutoSeq1.idx_int; have f2:=AutoSeq1.sub_tuple_tuple; have t:=AutoSeq1.sub_list_list; have r:=AutoSeq1.sub_tuple_list; have q:=AutoSeq1.sub_list_tuple;have e:(items++a).size<=sizeLine+1:=by rw[Array.size_append]; exact c
  wp_walk using (wpAny_updateSeq j rfl (hz:=f) (_hz':=e)),wpAny_loadPart' j,wpAny_loadPart' o; exact⟨_,rfl,h⟩
def jF (K:bh):V->av->Hp->VK->Prop:=λx d H Q=>∃l b c a,x=.ref l/\d=[.ref b]/\H l=some (.lst c)/\SqT K H b a/\c.length+a.length<=sizeLine/\Q .non (upd H l (.lst (c++a)))
def AL:n5 X "list.extend" (jF X.K):=by
 intro pins s σ H x vs v us Q I rx rv h;obtain⟨l,b,xs,zs,rfl,rfl,hH,hB,hz,q⟩:=h;cases rx;obtain⟨u,rfl,ru⟩:=rv.one;cases ru;obtain⟨z,its,n,r,hl,e⟩:=I.lstM hH;obtain⟨its2,r2,⟨⟨cls2,dd2,data2,sl2⟩,ho2,hc2,n2,hd2⟩,_⟩:=I.tuple hB;simp only at hc2 hd2;subst hc2 hd2;have hl2:=r2.length;have hsz:its.toArray.size+its2.toArray.size<=sizeLine:=by rw[GE,GE]; omega
 have hlong:¬(!its.toArray.isEmpty&&Builtin.List.listTooLong (its.toArray.size+its2.toArray.size))=true:=by
  rw[Dr hsz,Bool.and_false];exact Hb
 refine JA F.slot_list_extend ⟨_,e,rfl⟩ F.entry_list_extend (F.args_list_extend_2 _ _)
  (BM l its.toArray n b its2.toArray n2 dd2 sl2 hlong (by rw[GE]; omega) (by omega)) ⟨e,ho2,?_⟩
 refine⟨.non,_,I.lset (its':=its++its2) hH e (by simp) (r.append r2) ?_,rfl,q⟩;rw[GQ];omega
def Da (b:s.heap.get? l=some { cls:=.type "list",data:=.seq items n })
  (e:0<=k)(a:k<2 ^ 63)(i:k<items.size)(f:Q () { s with heap:=s.heap.update l (Obj.mapSeq (·.setIfInBounds k.toNat v)) }):wpAny (model g w) A (setItem (.ref l) (.int k t) v) Q E s:=by
 have d:s.heap.IsList l items:=PySem.IsL.isList b;unfold setItem;try with_reducible refine H9 ?_
 first | refine aL (ba ?_) | skip
 refine aL (wpAny_sequenceKey d.typeIs (by decide) ?_);refine aL (wpAny_callSpecial?_slot (name:=Str.ofString "__setitem__") d.typeIs slot_list_setitem
  (Hv slot_list_setitem d.typeIs entry_list_setitem ?_ (args_list_setitem _ _ _)))
 show wpAny _ _ (Builtin.List.listSubscript? (.int k t) >>= _) _ _ s;refine aL (wpAny_listSubscript_int (fitsIndex_of e a) ?_);clear a;obtain⟨j,rfl⟩:=Int.eq_ofNat_of_zero_le e;have h:j<items.size:=by omega
 have c:items[j]? = some items[j]:=IJ h;show wpAny _ _ ((seqItemAt l j >>= λr=>pure (r.map (j,·))) >>= _) _ _ s;refine aL (aL (wpAny_seqItemAt b rfl (ba ?_)));rw[c];show wpAny _ _ (setSeqItemAt l j v >>= _) _ _ s;refine aL (wpAny_setSeqItemAt b rfl ?_);first
  | exact aL (ba (ba ⟨.none,rfl,ba f⟩))
  | exact ba ⟨.none,rfl,ba f⟩
def kz (c d f:TE):TS:=λD σ H=>f σ H λy e=>c σ e λx g=>d σ g λk b=>∃l a i,x=.ref l/\k=.int i/\b l=some (.lst a)/\0<=i/\i<a.length/\D.nx σ (upd b l (.lst (a.set i.toNat y)))
def EF (F:PE X o m)(E:PE X i P)(v:PE X value B)(hs:swapsWith value (some (.Subscript o i b)) pos.line X.env=pure false):PS X (.Assign [.Subscript o i b] value pos) (kz m P B):=by
 intro a s σ H D I h;refine wpAny_Assign_Subscript (bc (v a s σ H _ I h) λu w ⟨y,C,N,J,q⟩=>bc (F a w σ C _ N q) λov M ⟨x,T,Y,G,Z⟩=>bc (E a M σ T _ Y Z) λQ g hZz=>?_) hs;obtain⟨k,H3,d,U,l,L,j,ex,W,f,A,j1,p⟩:=hZz;subst ex W;cases G;obtain⟨t,rfl⟩:=(show ∃t,Q=Value.int j t from U)
 obtain⟨z,c,n,r,hl,e⟩:=d.lstM f;have hz:(L.length:Int)<=16777216:=by
  have:=z;rw[sizeLine_eq] at this;omega
 refine Da e A (by omega) (by rw[GE]; omega) ?_;exact⟨σ,_,d.lset (its':=c.set j.toNat u) (t':=g.toks) f e (by simp) (Vals.set J j.toNat r) (by rw[GX]; exact z),p⟩
def Ar {a:Program}{w:World}{A:Around}{E:Value->Shared->Prop}{s:Shared}{t f:Addr}{items:aB}{k l:Value}{lo d:Option Int}{Q:Value->Shared->Prop}(b:IsTup s.heap t items)(hs:s.heap.IsSliceOf f k l .none)(m:IsPart k lo)(o:IsPart l d)
  (j:HT.sIx items.size 0 lo=0/\HT.sIx items.size items.size d=items.size)(h:Q (.ref t) s):wpAny (model a w) A (getItem (.ref t) (.ref f)) Q E s:=by
 obtain⟨os,e,g,n⟩:=id hs;have i:s.TypeIs (.ref f) "slice":=⟨os,e,g⟩
 unfold getItem;try with_reducible refine H9 ?_
 first | refine aL (ba ?_) | skip
 refine aL (wpAny_sequenceKey b.typeIs (by decide) ?_);refine aL (wpAny_callSpecial?_slot (name:=Str.ofString "__getitem__") b.typeIs Hf
  (Hv Hf b.typeIs entry_tuple_getitem ?_ (args_tuple_getitem _ _)))
 show wpAny _ _ (Builtin.Tuple.tupleItemsOf (.ref t) >>= _) _ _ s;refine aL (tupleItemsOf_ b ?_);refine aL (wpAny_typeOf i ?_);rw[if_pos (by decide)];refine aL (HT.sliceApplied_gen hs m o ?_);have c:(((HT.sIx items.size 0 lo:Nat):Int) == 0&&(1:Int) == 1&&(HT.sIx items.size items.size d - HT.sIx items.size 0 lo) == items.size)=true:=by
  rw[j.1,j.2]; simp
 show wpAny _ _ (if (((HT.sIx items.size 0 lo:Nat):Int) == 0&&(1:Int) == 1&&(HT.sIx items.size items.size d - HT.sIx items.size 0 lo) == items.size)=true then _ else _) _ _ s;rw[if_pos c];unfold Builtin.Tuple.tupleIsExact;refine aL (aL (wpAny_typeOf b.typeIs (ba ?_)));rw[if_pos (by decide)];refine aL (wpAny_rule (aL (ba (ba ⟨_,rfl,ba h⟩))))
def l7 (K:bh):V->Option Int->Option Int->Hp->VK->Prop:=λx lo c H Q=>∃a b,x=.ref a/\SqT K H a b /\
 (HT.sIx b.length 0 lo=0/\HT.sIx b.length b.length c=b.length->Q (.ref a) H) /\
 (¬(HT.sIx b.length 0 lo=0/\HT.sIx b.length b.length c=b.length)->∀p,H p=none->Q (.ref p) (upd H p (.tup (d6 b lo c))))
def A5:m8 X (l7 X.K):=by
 intro c s σ H x v p n lo k q Q I g hs j m h;obtain⟨a,b,rfl,i,t,o⟩:=h;by_cases e:HT.sIx b.length 0 lo=0/\HT.sIx b.length b.length k=b.length
 .cases g;obtain⟨f,r,l,u⟩:=I.tuple i;have d:f.toArray.size=b.length:=by rw[GE]; exact r.length.symm
  refine⟨"tuple",_,Hf.lookup,l.typeIs,?_⟩;exact Ar l hs j m (by rw[d]; exact e) ⟨.ref a,H,I,rfl,t e⟩
 .exact AD c s σ H _ v p n lo k q Q I g hs j m ⟨a,b,rfl,i,e,o e⟩
def AF (f:Nat->β->Sem (ForInStep β))(I:Nat->β->Shared->Prop)(Q:β->Shared->Prop)
  (turn:∀i b s,i<n->I i b s->wpAny M A (f i b) (λr g=>match r with | .yield a=>I (i+1) a g | .done a=>Q a g) E s)
  (fin:∀b s,I n b s->Q b s)(b:β)(h:I 0 b s):wpAny M A (forIn [0:n] b f) Q E s:=by
 rw[Std.Legacy.Range.forIn_eq_forIn_range'];refine wpAny_forIn_list f (λrest b s=>∃i,rest=List.range' i (n - i)/\i<=n/\I i b s) Q ?_ ?_ _ b ⟨0,by simp[Std.Legacy.Range.size],G3 _,h⟩
 .rintro x rest b s ⟨i,e,l,d⟩;have c:i<n:=by
   have:=congrArg List.length e;simp at this;omega
  have k:n - i=(n - (i+1))+1:=by omega
  rw[k,II] at e;obtain⟨rfl,rfl⟩:=List.cons.inj e;refine Hl (turn x b s c d) (λr g j=>?_) λ_ _ m=>m;cases r with
  | done a=>exact j
  | yield a=>exact⟨x+1,rfl,c,j⟩
 .rintro b s ⟨i,e,l,d⟩;have:i=n:=by
   have:=congrArg List.length e;simp at this;omega
  subst this;exact fin b s d
def BZ (l:Addr)(items:aB)(n:Nat)(dd:aE)(sl:Array aA)(x:Value)(e:Value->Bool)(j:Nat)(hj:j<items.size)
  (hit:e items[j]=true)(hno:∀m (hm:m<items.size),m<j->e items[m]=false) :
  Meets (Builtin.«tuple.index» ⟨[.ref l,x],[]⟩)
   (λA R s=>s.heap.get? l=some { cls:=.type "tuple",dict:=dd,data:=.seq items n,slots:=sl }/\(∀y,y∈items->SeqAt.EqAt A.in1 s y x (e y))/\R (.ok (.ret (.int j s.toks))) { s with toks:=s.toks+1 }):=
 .of_wp λc w A R s h=>by
  obtain⟨v,g,d,r,os⟩:=s; obtain⟨E,z,h⟩:=h;wp_walk using Ia E,AF _ (λi b f=>b.1=none/\f=⟨v,g,d,r,os⟩/\i<=j) _
  case turn=>
   rintro i b f G ⟨B,rfl,k⟩;have a:i<items.size:=by omega
   have C:items[i]? = some items[i]:=by simp[a]
   rw[C];refine aL (z _ (Array.getElem_mem a) c w _ _ ?_);by_cases q:i=j
   .subst q;rw[hit];wp_walk
    exact⟨_,rfl,h⟩
   .rw[hno i a (by omega)];wp_walk
    exact⟨rfl,rfl,by omega⟩
  case fin=>
   rintro b f ⟨B,rfl,k⟩;omega
  case h=>exact⟨rfl,rfl,G3 _⟩
def hU (K:bh):V->av->Hp->VK->Prop:=λx c H Q=>∃a b y j,x=.ref a/\c=[y]/\SqT K H a b/\flatV y=true/\b.all flatV=true/\(b.findIdx? λz=>eqV z y)=some j/\Q (.int (j:Nat)) H
def zj:pF X "tuple.index" (hU X.K):=by
 intro p s σ H x vs v Z Q I E Y h;obtain⟨a,f,y,j,rfl,rfl,G,T,A,L,q⟩:=h;cases E;cases Y with
 | @cons _ u _ Z U N=>
 cases N;obtain⟨b,r,⟨⟨cls,W,data,sl⟩,B,t,n,hd⟩,_⟩:=I.tuple G;simp only at t hd;subst t hd;obtain⟨hj,hp,hq⟩:=G8.mp L;have len:=r.length;have c:∀i (g:i<f.length) (C:i<b.toArray.size),eY y b.toArray[i]=eqV f[i] y:=λi g C=>by
  obtain⟨w,e,l⟩:=r.get (i:=i) (x:=f[i]) (by simp[g]);have M:b.toArray[i]=w:=by
   have o:i<b.length:=by simpa using C
   rw[GJ o] at e;simpa using cm e
  rw[M];exact oH l (dU A _ (G5 g))
 have d:j<b.toArray.size:=by rw[GE]; omega
 refine JA PySem.F.slot_tuple_index ⟨_,B,rfl⟩ PySem.F.entry_tuple_index (PySem.F.args_tuple_index_2 _ _)
  (BZ a b.toArray n W sl u (eY y) j d (by rw[c j hj d]; exact hp) λm J hl=>?_)
  ⟨B,λz P=>j9 U T r A z (by simpa using P),⟨.int (j:Nat),H,I.tok _,⟨_,rfl⟩,q⟩⟩
 have k:m<f.length:=by omega
 rw[c m k J];simpa using hq m hl
end
section
variable {f:Program}{w:World}{A:Around}{E:Value->Shared->Prop}{s:Shared}{j t:Addr}{i:Nat}{items:aB}
def tf (hit:s.heap.IsTupleIter j t i)
  (h:wpAny (model f w) A.in1 (Builtin.«tuple_iterator.__next__» ⟨[.ref j],[]⟩) (λfin s'=>∃v,fin=.done (.ret v)/\Q v s') E s):wpAny (model f w) A (Builtin.SmallTypes.nextOf (.ref j)) Q E s:=by
 unfold Builtin.SmallTypes.nextOf;refine aL (wpAny_callSpecial?_slot (name:=Str.ofString "__next__") hit.typeIs Jb (Hv Jb hit.typeIs PySem.F.entry_tuple_iterator_next ?_ (PySem.F.args_tuple_iterator_next_1 _)));refine Hl h (λfin s' ⟨v,e,q⟩=>⟨v,e,ba q⟩) λ_ _ e=>e
def D5 (hit:s.heap.IsTupleIter j t i)(ht:s.heap.IsTuple t items)(hx:items[i]? = some x)(hQ:∀h',h'.IsTupleIter j t (i+1)->Heap.SameBut j s.heap h'->Q x { s with heap:=h' }):wpAny (model f w) A (Builtin.SmallTypes.nextOf (.ref j)) Q E s:=by
 refine tf hit ?_;obtain⟨o,a,h,hd⟩:=id hit;obtain⟨ol,b,_,nl,c⟩:=ht;show wpAny _ _ (field (.ref j) 0 >>= _) _ _ s;refine aL (HB a hd (x:=.ref t) rfl ?_);show wpAny _ _ (if (Value.ref t == Value.none)=true then _ else _) _ _ s;rw[if_neg (show ¬((Value.ref t == Value.none)=true) from Hb)];show wpAny _ _ (field (.ref j) 1 >>= _) _ _ s;refine aL (HB a hd (x:=.int i 0) rfl ?_);show wpAny _ _ (seqItems? (.ref t) >>= _) _ _ s;refine aL (wpAny_seqItems b c ?_);simp only[Int.toNat_natCast,hx];refine aL (JB a hd (by simp) (ba ⟨x,rfl,hQ _ ?_ (HI ..)⟩));exact⟨_,HC _ a (Ji (JC hd _)),(Obj.cls_mapFields ..).trans h,by rw[JC hd]; simp[rawInt]⟩
def vR (hh:A.handled=none)(hit:s.heap.IsTupleIter j t i)(ht:s.heap.IsTuple t items)(hx:items[i]? = none)
  (hE:∀h' e,Heap.ExtBut j s.heap h'->(∃o,h'.get? e=some o/\o.cls=.type "StopIteration")->E (.ref e) { s with heap:=h' }):wpAny (model f w) A (Builtin.SmallTypes.nextOf (.ref j)) Q E s:=by
 refine tf hit ?_;obtain⟨o,b,p,hd⟩:=id hit;obtain⟨ol,c,_,nl,d⟩:=ht;show wpAny _ _ (field (.ref j) 0 >>= _) _ _ s;refine aL (HB b hd (x:=.ref t) rfl ?_);show wpAny _ _ (if (Value.ref t == Value.none)=true then _ else _) _ _ s;rw[if_neg (show ¬((Value.ref t == Value.none)=true) from Hb)];show wpAny _ _ (field (.ref j) 1 >>= _) _ _ s;refine aL (HB b hd (x:=.int i 0) rfl ?_);show wpAny _ _ (seqItems? (.ref t) >>= _) _ _ s;refine aL (wpAny_seqItems c d ?_);simp only[Int.toNat_natCast,hx];refine aL (wpAny_rule (aL (JB b hd (by simp) ?_)));show wpAny _ _ (newExc (.type "StopIteration") [] >>= _) _ _ _;refine aL ?_;dsimp only[newExc,newTuple];refine aL (G9 ?_ (by size_fits));refine aL (m:=firstArgMember _ _) (wpAny_of_eq (a:=Value.none) (by first | rfl | (dsimp only[firstArgMember]; rfl)) ?_);refine G9 ?_ (by size_fits);dsimp only[raiseNew];refine aL (wpAny_handled ?_);rw[show A.in1.handled=none from hh];exact aL (ba (wpAny_throw (hE _ _ (((HI ..).extBut.push _).push _) ⟨_,dH _ rfl,rfl⟩)))
def kI (hh:A.handled=none) j t (hne:t≠j) items :
  Draws f w A j [j,t] items.size (λi v=>items[i]? = some v) (λi h=>h.IsTupleIter j t i/\h.IsTuple t items) where
 live:=λ_ _ st=>let ⟨o,ho,_⟩:=st.1; ⟨o,ho⟩
 frame:=λ_ _ _ st hk=>⟨st.1.at λo e=>hk j (by simp) o e,let ⟨o,ho,r⟩:=st.2; ⟨o,hk t (by simp) o ho,r⟩⟩
 item:=λi s Q E hi st hQ=>D5 st.1 st.2 (x:=items[i]) (by simp[hi]) λh' a b=>hQ _ h' s.toks (by simp[hi]) ⟨a,let ⟨o,ho,r⟩:=st.2; ⟨o,(b.2 t hne).trans ho,r⟩⟩ b
 done:=λs Q E st hE=>vR hh st.1 st.2 (by simp) hE
def ze (hh:A.handled=none) j t items n (hx:items[n]? = none) :
  Draws f w A j [j,t] n (λ_ _=>False) (λk h=>k=n/\h.IsTupleIter j t n/\h.IsTuple t items) where
 live:=λ_ _ st=>let ⟨o,ho,_⟩:=st.2.1; ⟨o,ho⟩
 frame:=λ_ _ _ st hk=>⟨st.1,st.2.1.at λo e=>hk j (by simp) o e,let ⟨o,ho,r⟩:=st.2.2; ⟨o,hk t (by simp) o ho,r⟩⟩
 item:=λi s Q E hi st hQ=>absurd hi (by rw[st.1]; exact Hx _)
 done:=λs Q E st hE=>vR hh st.2.1 st.2.2 hx hE
def BX l items n dct sl :
  Meets (Builtin.«enumerate.__new__» ⟨[.type "enumerate",.ref l],[]⟩) (λ_ R s=>s.heap.get? l=some { cls:=.type "tuple",dict:=dct,data:=.seq items n,slots:=sl } /\
   R (.ok (.ret (.ref (s.heap.push { cls:=.type "tuple_iterator",data:=.fields #[.ref l,.int 0 0] }).objs.size)))
    { s with heap:=(s.heap.push { cls:=.type "tuple_iterator",data:=.fields #[.ref l,.int 0 0] }).push { cls:=.type "enumerate",data:=.fields #[.none,.bool false,.ref s.heap.objs.size,rawInt 0,.none,.none] } }):=
 .of_wp λf w A R s h=>by
  obtain⟨p,g,d,o,os⟩:=s; obtain⟨b,h⟩:=h;have m:=sub_enumerate;have k:Heap.IsTuple (Shared.heap ⟨p,g,d,o,os⟩) l items:=⟨_,b,rfl,n,rfl⟩
  wp_walk using Ia b
  refine wpAny_stack_any λst=>ba ?_;split
  .rename_i c _ _ _ _ _;cases (c == Value.type "enumerate") <;> (wp_walk using Ia b,Jv k; exact⟨_,rfl,h⟩)
  .wp_walk using Ia b,Jv k
   exact⟨_,rfl,h⟩
def BC (hL:s.heap.IsTuple l items)
  (h:∀h',IsEnum h' (s.heap.objs.size+1) s.heap.objs.size 0 .none->h'.IsTupleIter s.heap.objs.size l 0->(∀b o,s.heap.get? b=some o->h'.get? b=some o)->Q (.ref (s.heap.objs.size+1)) { s with heap:=h' }) :
  wpAny (model f w) A (call (.type "enumerate") [.ref l]) Q E s:=by
 obtain⟨⟨c,e,r,v⟩,q,p,n,hd⟩:=hL;have k:c=.type "tuple":=p;have d:r=.seq items n:=hd;subst k d;refine callType_new PySem.F.called_enumerate (by decide) (PySem.F.typeCall_enumerate_1 _) (PySem.F.newCall_enumerate_1 _) (λobj=>PySem.F.args_object_init_2 obj _) PySem.F.entry_enumerate_new (BX l items n e v) ⟨q,?_⟩;have m:(s.heap.push { cls:=.type "tuple_iterator",data:=.fields #[.ref l,.int 0 0] }).objs.size=s.heap.objs.size+1:=G0 ..;show _/\_;rw[m];have g:=dH (s.heap.push { cls:=.type "tuple_iterator",data:=.fields #[.ref l,.int 0 0] }) (o:={ cls:=.type "enumerate",data:=.fields #[.none,.bool false,.ref s.heap.objs.size,rawInt 0,.none,.none] }) rfl;rw[m] at g;exact⟨⟨_,g,rfl⟩,h _ g ⟨_,cb _ (dH _ rfl),rfl,rfl⟩ λb o x=>cb _ (cb _ x)⟩
end
noncomputable def kd (K:bh)(a:Addr):It:=
 ⟨λi H=>∃b x,SqT K H a b/\b[i]? = some x,λi H v c=>∃x p,v=.ref p/\H p=none/\c=upd H p (.tup [.int i,x])/\∀b,SqT K H a b->b[i]? = some x,λi H=>∃b,SqT K H a b/\b.length<=i⟩
def iG (e a l:Addr)(i:Nat)(h:Heap):Prop:=(∃old,IsEnum h e a i old)/\h.IsTupleIter a l i
def Ah {P:Program}{w:World}{K:bh}{es:au}{k1:Nat}{ps:Pos} l e it:Turn P w K (.Tuple es k1 ps) (kd K l) [e,it] e (iG e it l) where
 mem:=by simp
 obj:=λi h t b hb=>by
  obtain⟨⟨old,te⟩,⟨o1,e1,_,d1⟩⟩:=t;simp only[GY,GW,or_false] at hb;rcases hb with rfl | rfl
  .exact⟨_,te,(λv q=>nomatch q)⟩
  .exact⟨o1,e1,λv q=>by rw[d1] at q; cases q⟩
 keep:=λi h h' t k=>by
  obtain⟨⟨old,te⟩,t1⟩:=t;exact⟨⟨old,k e (by simp) _ te⟩,t1.at λo q=>k it (by simp) o q⟩
 item:=by
  intro X hP hw hK hc i pins s σ H E I hf st hg;subst hP hw hK;obtain⟨xs,x,hx,ex⟩:=hg;obtain⟨its,rv,p,hz⟩:=I.tuple hx;obtain⟨u,hu,ru⟩:=rv.get ex;obtain⟨⟨old,te⟩,t1⟩:=st;have hl:=rv.length;have hi:i<its.toArray.size:=by
   have:=(di hu).1;simpa using this
  have ne:e≠it:=by
   obtain⟨o1,e1,c1,_⟩:=t1;exact lg "enumerate" "tuple_iterator" te e1 rfl c1 (by decide)
  have nl:l≠it:=by
   obtain⟨o1,e1,c1,_⟩:=t1;obtain⟨o2,e2,c2,_⟩:=p;exact lg "tuple" "tuple_iterator" e2 e1 c2 c1 (by decide)
  have nel:e≠l:=by
   obtain⟨o2,e2,c2,_⟩:=p;exact lg "enumerate" "tuple" te e2 rfl c2 (by decide)
  refine wpAny_pyNext_enum_itemD (kI (A:=X.A.in1) (by exact I.ok.hd hc) it l nl its.toArray) te (show s.heap.IsTupleIter it l i/\s.heap.IsTuple l its.toArray from ⟨t1,p⟩) hi ne (by simp; exact⟨ne,nel⟩) λy h' tk hy z1 z2 z3 z4 z5=>?_;have ey:y=u:=by
   have hu':its.toArray[i]? = some u:=by simpa using hu
   rw[hu'] at hy;exact (cm hy).symm
  subst ey;refine⟨_,rfl,?_⟩;refine wpAny_letOwnedTupleGo_enum (s:={ s with heap:=h',toks:=tk+1 }) z1 λh2 z1' sb=>?_;have kk:∀b o,b∉[e,it]->s.heap.get? b=some o->h2.get? b=some o:=λb o nb q=>by
   simp only[GY,GW,or_false,not_or] at nb;exact (sb.2 b nb.1).trans (z5 b o nb.1 nb.2 q)
  have le:e<s.heap.objs.size:=bS te;have gT:h2.get? s.heap.objs.size=some { cls:=.type "tuple",data:=.seq #[.int i tk,y] }:=(sb.2 _ (HL le)).trans z3;refine⟨.ref s.heap.objs.size,upd H s.heap.objs.size (.tup [.int i,x]),I.turnedN (t':=tk+1) hf kk (bA _) ⟨by show 2<=sizeLine; decide,[.int i tk,y],.cons ⟨_,rfl⟩ (.cons ru .nil),_,gT,rfl,⟨_,rfl⟩,rfl⟩,rfl,
   ⟨x,_,rfl,I.hok.fresh (bA _),rfl,λzs hq=>by rw[I.tuple_inj hq hx]; exact ex⟩,⟨⟨y,by simpa using z1'⟩,z2.1.at λo q=>(sb.2 it (Ij ne)).trans q⟩,λb hb=>?_⟩
  obtain⟨o,q,_⟩:∃o,s.heap.get? b=some o/\True:=by
   simp only[GY,GW,or_false] at hb;obtain⟨o1,e1,_,d1⟩:=t1;rcases hb with rfl | rfl
   .exact⟨_,te,trivial⟩
   .exact⟨o1,e1,trivial⟩
  rw[bE (IF (Heap.lt_size q))];exact (hf b hb).1
 done:=by
  intro X hP hw hK hc i pins s σ H E I hf st hg;subst hP hw hK;obtain⟨xs,hx,hend⟩:=hg;obtain⟨its,rv,p,hz⟩:=I.tuple hx;obtain⟨⟨old,te⟩,t1⟩:=st;have hl:=rv.length;have nl:l≠it:=by
   obtain⟨o1,e1,c1,_⟩:=t1;obtain⟨o2,e2,c2,_⟩:=p;exact lg "tuple" "tuple_iterator" e2 e1 c2 c1 (by decide)
  refine wpAny_pyNext_enum_endD (ze (A:=X.A.in1) (by exact I.ok.hd hc) it l its.toArray i (by simp; omega)) te ⟨rfl,t1,p⟩ λh' kp=>⟨rfl,I.turnedL (t':=s.toks) hf λb o nb q=>?_⟩
  simp only[GY,GW,or_false,not_or] at nb;exact kp b o nb.2 q
 self:=λ_ _ _ _ _ st h=>by
  obtain⟨⟨old,te⟩,_⟩:=st;exact IZ te h
section
variable {X:Cx}{c:au}{d:Nat}{e:Pos}
def yP {a:Expr}{C:TA}{p pos:Pos}(G:Gl X "enumerate")(L:X.mg "enumerate" = none)(F:bootBuiltins "enumerate" = some (.type "enumerate"))(N:PA X [a] C)(hs:starEach [a] X.env=[(false,eval a X.env)]:=by rfl) :
  PI X (.Tuple c d e) (.Call (.Name "enumerate" p) [a] [] pos) (λσ H R=>C σ H λx g=>(∃a n,x=[.ref a]/\SqL X.K g a n/\R (sJ X.K a) g)\/∃a n,x=[.ref a]/\SqT X.K g a n/\R (kd X.K a) g):=by
 intro m s σ H R I h;refine Call_ (iD I G L F (Ho (bc (N pos m s σ H _ I h) λQ i hZz=>?_) hs rfl));obtain⟨x,g,f,E,M⟩:=hZz;rcases M with ⟨w,n,rfl,o,q⟩ | ⟨w,n,rfl,o,q⟩
 .obtain⟨u,rfl,A⟩:=vals1 E;cases A;obtain⟨y,J,r,v⟩:=f.list o;refine call_enumerate_list r.isList λB l t P z=>?_;refine IZ (s:={ i with heap:=B }) l ⟨_,_,_,_,g,rfl,f.kept (t':=i.toks) z,xv w _ _,⟨⟨_,l⟩,t⟩,λb j=>?_,q⟩;have k:i.heap.objs.size<=b:=by
   simp only[GY,GW,or_false] at j;rcases j with rfl | rfl <;> omega
  exact f.fpOk k (f.hok.fresh k)
 .obtain⟨u,rfl,A⟩:=vals1 E;cases A;obtain⟨y,J,r,v⟩:=f.tuple o;refine BC r λB l t z=>?_;refine IZ (s:={ i with heap:=B }) l ⟨_,_,_,_,g,rfl,f.kept (t':=i.toks) z,Ah w _ _,⟨⟨_,l⟩,t⟩,λb j=>?_,q⟩;have k:i.heap.objs.size<=b:=by
   simp only[GY,GW,or_false] at j;rcases j with rfl | rfl <;> omega
  exact f.fpOk k (f.hok.fresh k)
end
section
variable {X:Cx}
def fX:V->av->Hp->VK->Prop:=λx b H Q=>∃l a i y,x=.ref l/\b=[.int i,y]/\H l=some (.lst a)/\0<=i/\i.toNat<=a.length/\a.length<sizeLine/\Q .non (upd H l (.lst (a.take i.toNat++y::a.drop i.toNat)))
def D9:n5 X "list.insert" fX:=by
 intro g s σ H x M v p Q I o m h;obtain⟨l,J,i,y,rfl,rfl,j,L,E,G,q⟩:=h;cases o;cases m with
 | @cons _ C _ p A B=>
 obtain⟨u,rfl,k⟩:=Vals.one B;obtain⟨t,rfl⟩:=A;obtain⟨z,a,n,r,N,e⟩:=I.lstM j;have w:sizeLine<2 ^ 62:=by decide
 have b:¬(!Builtin.List.listFitsIndex i)=true:=by rw[fitsIndex_both (by omega) (by omega)]; decide
 have c:a.toArray.size<=sizeLine:=by rw[GE]; omega
 refine JA PySem.F.slot_list_insert ⟨_,e,rfl⟩ PySem.F.entry_list_insert (PySem.F.args_list_insert_3 _ _ _) (PySem.AutoSeq1.list_insert_list_int_val_1 l a.toArray n i t u b c) ⟨e,?_⟩;have f:i.toNat<=a.length:=by omega
 refine⟨.non,_,I.lset (its':=a.take i.toNat++u::a.drop i.toNat) j e ?_ ((r.take i.toNat).append (.cons k (r.drop i.toNat))) ?_,rfl,q⟩
 .have d:¬i<0:=by omega
  simp only[d,if_false,GE,Nat.min_eq_left f];apply Jn.mp;simp;exact Jc (by simp)
 .simp only[GQ,HD,List.length_cons,Ih];omega
def hG:V->av->Hp->VK->Prop:=λx c H Q=>∃a b y j,x=.ref a/\c=[y]/\Rd H a (.lst b)/\flatV y=true/\b.all flatV=true/\(b.findIdx? λz=>eqV z y)=some j/\Q (.int (j:Nat)) H
def Ai:pF X "list.index" hG:=by
 intro t s σ H x vs v U Q I T J h;obtain⟨a,f,y,j,rfl,rfl,N,L,A,W,q⟩:=h;cases T;cases J with
 | @cons _ u _ U ry rn=>
 cases rn;obtain⟨B,b,n,r,E⟩:=N.ok I.hok;obtain⟨G,Y,M⟩:=G8.mp W;have len:=r.length;have c:∀i (l:i<f.length) (C:i<b.toArray.size),eY y b.toArray[i]=eqV f[i] y:=λi l C=>by
  obtain⟨w,e,p⟩:=r.get (i:=i) (x:=f[i]) (by simp[l]);have Z:b.toArray[i]=w:=by
   have k:i<b.length:=by simpa using C
   rw[GJ k] at e;simpa using cm e
  rw[Z];exact oH p (dU A _ (G5 l))
 have d:j<b.toArray.size:=by rw[GE]; omega
 have g:(j:Int)<2 ^ 63 - 1:=by
  have:sizeLine<2 ^ 62:=by decide
  omega
 refine JA PySem.F.slot_list_index ⟨_,E,rfl⟩ PySem.F.entry_list_index (PySem.F.args_list_index_2 _ _)
  (PySem.SeqAt.list_indexAt a b.toArray n none #[] u (eY y) j d g (by rw[c j G d]; exact Y) λm P hl=>?_)
  ⟨E,λz B=>j9 ry L r A z (by simpa using B),⟨.int (j:Nat),H,I.tok _,⟨_,rfl⟩,q⟩⟩
 have o:m<f.length:=by omega
 rw[c m o P];simpa using M m hl
noncomputable def isIntV:V->Bool
 | .int _=>true
 | _=>false
noncomputable def kf (i:Int):Value->Bool
 | .int j _=>j == i
 | _=>false
theorem t4:∀{xs:av} {us:ao},Vals xs us->xs.all isIntV=true->∀u∈us,MeetsSeq.EqGives u (.int i t) (kf i u)
 | _,_,.nil,_=>λu b=>by cases b
 | y::xs,u::us,.cons r q,f=>λg b=>by
  rw[List.all_cons,tw] at f;rcases ck b with rfl | b
  .cases y with
   | int j=>obtain⟨e,rfl⟩:=r; exact MeetsSeq.EqGives.int j i e t
   | _=>cases f.1
  .exact t4 q f.2 g b
def iu:V->av->Hp->VK->Prop:=λx b H Q=>∃l a i j,x=.ref l/\b=[.int i]/\H l=some (.lst a)/\a.all isIntV=true/\(a.findIdx? λz=>eqV z (.int i))=some j/\Q .non (upd H l (.lst (a.eraseIdx j)))
def DY:n5 X "list.remove" iu:=by
 intro B s σ H x vs v us Q I U P h;obtain⟨l,b,i,j,rfl,rfl,G,L,W,q⟩:=h;cases U;obtain⟨u,rfl,M⟩:=Vals.one P;obtain⟨t,rfl⟩:=M;obtain⟨z,a,n,r,hl,e⟩:=I.lstM G;obtain⟨N,Y,T⟩:=G8.mp W;have c:∀m (o:m<b.length) (J:m<a.toArray.size),kf i a.toArray[m]=eqV b[m] (.int i):=λm o J=>by
  obtain⟨w,e,f⟩:=r.get (i:=m) (x:=b[m]) (by simp[o]);have Z:a.toArray[m]=w:=by
   have g:m<a.length:=by simpa using J
   rw[GJ g] at e;simpa using cm e
  rw[Z];have A:=dU L _ (G5 o);cases C:b[m] with
  | int y=>rw[C] at f; obtain⟨t',rfl⟩:=f; rfl
  | _=>rw[C] at A; cases A
 have d:j<a.toArray.size:=by rw[GE]; omega
 refine JA PySem.F.slot_list_remove ⟨_,e,rfl⟩ PySem.F.entry_list_remove (PySem.F.args_list_remove_2 _ _)
  (MeetsSeq.list_remove l a.toArray n (.int i t) (kf i) (λy hy=>t4 r L y (by simpa using hy)) j d (by rw[c j N d]; exact Y) (λm E k=>?_) (by rw[GE]; omega)) ⟨e,?_⟩
 .have p:m<b.length:=by rw[GE] at E; omega
  rw[c m p E];simpa using T m k
 .refine⟨.non,_,I.lset (its':=a.eraseIdx j) G e ?_ (r.eraseIdx j) ?_,rfl,q⟩
  .show a.toArray.eraseIdxIfInBounds j=(a.eraseIdx j).toArray;rw[List.eraseIdxIfInBounds_toArray]
  .have:=sS b j;omega
end
end L2
namespace Ip
open PySem (Str)
noncomputable section
mutual
noncomputable def D.flat:D->Bool
 | .lst _=>false
 | .tup a=>D.flats a
 | .ins _ _=>false
 | .exc _ _=>false
 | _=>true
noncomputable def D.flats:ax->Bool
 | []=>true
 | d::a=>d.flat&&D.flats a
end
@[simp] theorem o5:D.flat .non=true/\(∀b,D.flat (.bl b)=true)/\(∀b,D.flat (.int b)=true)/\(∀b,D.flat (.str b)=true)/\(∀a,D.flat (.lst a)=false)/\(∀a,D.flat (.tup a)=D.flats a)/\(∀c a,D.flat (.ins c a)=false)/\(∀c a,D.flat (.exc c a)=false)/\D.flats []=true/\∀d a,D.flats (d::a)=(d.flat&&D.flats a):=by and_intros <;> intros <;> rfl
theorem oS:∀a:ax,D.flats a=a.all D.flat
 | []=>rfl
 | d::b=>congrArg (d.flat&&·) (oS b)
noncomputable def D.fb:Nat->D->Bool
 | 0,d=>d.flat
 | k+1,.lst a=>a.all (D.fb k)
 | k+1,.tup a=>a.all (D.fb k)
 | k+1,.ins _ b=>b.all λp=>D.fb k p.2
 | _+1,.exc _ _=>false
 | _+1,_=>true
@[simp] theorem nN:(∀d,D.fb 0 d=d.flat)/\∀k,(∀a,D.fb (k+1) (.lst a)=a.all (D.fb k))/\(∀a,D.fb (k+1) (.tup a)=a.all (D.fb k))/\(∀c b,D.fb (k+1) (.ins c b)=b.all λp=>D.fb k p.2)/\(∀c b,D.fb (k+1) (.exc c b)=false)/\D.fb (k+1) .non=true/\(∀b,D.fb (k+1) (.bl b)=true)/\(∀b,D.fb (k+1) (.int b)=true)/\∀b,D.fb (k+1) (.str b)=true:=⟨λ_=>rfl,λ_=>by and_intros <;> intros <;> rfl⟩
noncomputable def D.pur:Nat->D->Bool
 | 0,.lst _=>false
 | 0,.tup _=>false
 | n+1,.lst a=>a.all (D.pur n)
 | n+1,.tup a=>a.all (D.pur n)
 | _,.ins _ _=>false
 | _,.exc _ _=>false
 | _,.str s=>s.cps.all (·<1114112)
 | _,_=>true
@[simp] theorem pur_non n:D.pur n .non=true:=by cases n <;> rfl
@[simp] theorem pur_bl n b:D.pur n (.bl b)=true:=by cases n <;> rfl
@[simp] theorem Af n i:D.pur n (.int i)=true:=by cases n <;> rfl
@[simp] theorem eS n s:D.pur n (.str s)=s.cps.all (·<1114112):=by cases n <;> rfl
@[simp] theorem pur_lst n a:D.pur (n+1) (.lst a)=a.all (D.pur n):=rfl
@[simp] theorem tZ n a:D.pur (n+1) (.tup a)=a.all (D.pur n):=rfl
@[simp] theorem pur_ints (n:Nat)(a:ak):(a.map D.int).all (D.pur n)=true:=by simp
noncomputable abbrev D.pures (a:ax):Bool:=a.all (D.pur 60)
noncomputable def D.scal:D->Bool
 | .non=>true | .bl _=>true | .int _=>true | .str _=>true
 | _=>false
@[simp] theorem scal_:D.scal .non=true/\(∀b,D.scal (.bl b)=true)/\(∀b,D.scal (.int b)=true)/\(∀b,D.scal (.str b)=true)/\(∀a,D.scal (.lst a)=false)/\(∀a,D.scal (.tup a)=false)/\(∀c a,D.scal (.ins c a)=false)/\(∀c a,D.scal (.exc c a)=false):=by and_intros <;> intros <;> rfl
mutual
noncomputable def D.eq:D->D->Bool
 | .non,.non=>true
 | .int i,.int j=>decide (i=j)
 | .int i,.bl b=>decide (i=if b then 1 else 0)
 | .bl b,.int i=>decide ((if b then 1 else 0)=i)
 | .bl b,.bl c=>decide (b=c)
 | .str s,.str t=>decide (s=t)
 | .lst d,.lst a=>D.eqs d a
 | .tup d,.tup a=>D.eqs d a
 | _,_=>false
noncomputable def D.eqs:ax->ax->Bool
 | [],[]=>true
 | x::b,y::a=>x.eq y&&D.eqs b a
 | _,_=>false
end
inductive R (α:Type) where
 | ok (a:α)
 | exc (c:Nat) (fs:List aH)
 | bad
@[simp,reducible] noncomputable def R.bind {α β:Type}(r:R α)(f:α->R β):R β:=match r with
 | .ok a=>f a
 | .exc c b=>.exc c b
 | .bad=>.bad
noncomputable abbrev KD:=aH
abbrev _root_.az:=Option KD
abbrev _root_.aw:=List KD
noncomputable def bg (j:Nat)(x:KD):Bool:=x.2.flat||(x.1 == j||(D.fb j x.2&&D.fb x.1 x.2))
noncomputable def aY (xs:aw):Nat:=match xs.find? λx=>!x.2.flat with
 | none=>98
 | some x=>if xs.all (bg x.1) then x.1 else 0
noncomputable def cJ (k:Nat)(a:ax)(v:KD):Nat:=if bg k v then k else if a.all (λd=>bg v.1 (k,d)) then v.1 else 0
noncomputable abbrev SL:Nat:=1000000
inductive Run where
 | ret (k:Nat) (d:D) (outs:aw)
 | exc (c:Nat) (fs:List aH) (outs:aw)
 | bad
def ma n:∃f:Int->Bool,∀i,f i=true ↔ -(2 ^ n)<=i/\i<2 ^ n:=⟨λi=>decide (-(2 ^ n)<=i/\i<2 ^ n),λi=>decide_eq_true_iff⟩
noncomputable def cU:Int->Bool:=Classical.choose (ma 62)
def eH:cU i=true ↔ -(2 ^ 62)<=i/\i<2 ^ 62:=Classical.choose_spec (ma 62) i
noncomputable def fh (n:Nat)(i:Int):aC:=if 0<=i then (if i<n then some i.toNat else none) else if -(n:Int)<=i then some (i+n).toNat else none
noncomputable def dO (n d:Nat):Option Int->Nat
 | none=>d
 | some i=>if 0<=i then min i.toNat n else (i+n).toNat
noncomputable def cutD {α:Type}(a:List α)(lo b:Option Int):List α:=(a.drop (dO a.length 0 lo)).take (dO a.length a.length b - dO a.length 0 lo)
@[simp] theorem isTy_bl G b t:aZ G (.bl b) t=mB t:=rfl
@[simp] theorem isTy_int G b t:aZ G (.int b) t=jh t:=rfl
@[simp] theorem isTy_str G b t:aZ G (.str b) t=jz t:=rfl
@[simp] theorem isTy_lst G b t:aZ G (.lst b) t=jw t:=rfl
@[simp] theorem isTy_tup G b t:aZ G (.tup b) t=i9 t:=rfl
@[simp] theorem isTy_ins G c a t:aZ G (.ins c a) t=jB G c t:=rfl
@[simp] theorem isTy_exc G c a t:aZ G (.exc c a) t=jJ G c t:=rfl
@[simp] theorem isTy_non G t:aZ G .non t=false:=rfl
noncomputable def allB:ax->Option Bool
 | []=>some true
 | .bl b::a=>(allB a).map λc=>b&&c
 | _::_=>none
noncomputable def anyB:ax->Option Bool
 | []=>some false
 | .bl b::a=>(anyB a).map λc=>b||c
 | _::_=>none
noncomputable def dk:ax->Option ak
 | []=>some []
 | .int i::a=>(dk a).map λis=>i::is
 | _::_=>none
noncomputable def D.memb (x:D)(xs:ax):Bool:=xs.any λy=>y.eq x
noncomputable def D.find (x:D)(a:ax):aC:=a.findIdx? λy=>y.eq x
@[simp] noncomputable def fB (b:Bool):az:=some (99,.bl b)
@[simp] noncomputable def fI (i:Int):az:=some (99,.int i)
@[simp] noncomputable def okB (b:Bool):R KD:=.ok (99,.bl b)
@[simp] noncomputable def D.seq:D->Option ax
 | .lst a=>some a
 | .tup a=>some a
 | _=>none
@[simp] noncomputable def D.lstO:D->Option ax
 | .lst a=>some a
 | _=>none
noncomputable def cz (f:D->az):aw->az
 | [x]=>f x.2
 | _=>none
@[simp] theorem on1_ f x:cz f [x]=f x.2:=rfl
noncomputable def bQ (f:D->D->az):aw->az
 | [x,y]=>f x.2 y.2
 | _=>none
@[simp] theorem on2_ f x y:bQ f [x,y]=f x.2 y.2:=rfl
@[simp] noncomputable def on3 (f:D->D->D->az):aw->az
 | [x,y,z]=>f x.2 y.2 z.2
 | _=>none
noncomputable def cj (f:Int->Int->az):D->D->az
 | .int i,.int j=>f i j
 | _,_=>none
@[simp] theorem num2_ f i j:cj f (.int i) (.int j)=f i j:=rfl
@[simp] noncomputable def gL:D->D->az
 | .int i,.int j=>fI (i+j)
 | .tup b,.tup a=>if b.length+a.length<=SL then some (0,.tup (b++a)) else none
 | _,_=>none
noncomputable def dY:ax->Option aj
 | []=>some []
 | .int i::b=>if 0<=i/\i<6 then (dY b).map λa=>i.toNat::a else none
 | _::_=>none
noncomputable def bq (a:aj):aj:=(List.range 6).filter λk=>a.contains k
noncomputable def natL (ns:aj):ax:=ns.map λn=>.int (Int.ofNat n)
@[simp] noncomputable def jX:D->D->az
 | .int i,.int j=>if cU i||cU j then fI (i * j) else none
 | _,_=>none
@[simp] noncomputable def km (neg:Bool)(x y:D):az:=if x.pur 60&&y.pur 60 then fB (if neg then !x.eq y else x.eq y) else none
@[simp] noncomputable def j0 (neg:Bool)(x y:D):az:=match y.seq with
 | some a=>if x.scal&&a.all D.scal then fB (if neg then !x.memb a else x.memb a) else none
 | none=>none
@[simp] noncomputable def aR:D->D->az
 | x,.int i=>match x.seq with
  | some a=>match (fh a.length i).bind λj=>a[j]? with
   | some d=>some (0,d)
   | none=>none
  | none=>none
 | _,_=>none
@[simp] noncomputable def bJ (lo b:Option Int):D->az
 | .lst a=>some (1,.lst (cutD a lo b))
 | .tup a=>some (0,.tup (cutD a lo b))
 | _=>none
noncomputable def iz (f:Nat):D->az
 | .ins _ a=>match a.lookup f with | some d=>some (0,d) | none=>none
 | .exc _ a=>match a.lookup f with | some d=>some (0,d) | none=>none
 | _=>none
@[simp] noncomputable def gI (f:ax->az):D->az
 | .lst a=>f a
 | _=>none
@[simp] noncomputable def dI (f:ax->az)(x:D):az:=match x.seq with | some a=>f a | none=>none
@[simp] noncomputable def kJ:D->az
 | .bl b=>fB (!b)
 | _=>none
@[simp] noncomputable def jN:D->az
 | .int i=>fI (-i)
 | _=>none
@[simp] noncomputable def d7 (neg:Bool):D->az
 | .non=>fB (!neg)
 | _=>fB neg
@[simp] noncomputable def l5:D->az
 | .lst a=>some (0,.tup a)
 | .tup a=>some (0,.tup a)
 | _=>none
noncomputable def cV (x y:D):az:=match x.seq with
 | some a=>if y.scal&&a.all D.scal then (match y.find a with | some j=>fI j | none=>none) else none
 | none=>none
@[simp] theorem zr a y:cV (.lst a) y=if y.scal&&a.all D.scal then (match y.find a with | some j=>fI j | none=>none) else none:=rfl
@[simp] theorem wc xs y:cV (.tup xs) y=if y.scal&&xs.all D.scal then (match y.find xs with | some j=>fI j | none=>none) else none:=rfl
def A4 (h:cV x y=some z):(∃xs,x=.tup xs)\/∃xs,x=.lst xs:=by cases x <;> first | exact .inl ⟨_,rfl⟩ | exact .inr ⟨_,rfl⟩ | cases h
noncomputable def D.isL:D->Bool
 | .lst _=>true
 | _=>false
noncomputable def fi:ax->az
 | .int i::c=>match dk c with | some is=>fI (is.foldl (λa b=>if b<a then b else a) i) | none=>none
 | _=>none
noncomputable def bz (G:Pg):Op->aw->az
 | .lst,a=>some (aY a+1,.lst (a.map (·.2)))
 | .tup,a=>some (aY a+1,.tup (a.map (·.2)))
 | .add,a=>bQ gL a
 | .sub,a=>bQ (cj λi j=>fI (i - j)) a
 | .mul,a=>bQ jX a
 | .fdiv,a=>bQ (cj λi j=>if 0<j/\j<1000000000000000000000000000000000000000000000000000000000000 then fI (i / j) else none) a
 | .mod,a=>bQ (cj λi j=>if 0<j then fI (i % j) else none) a
 | .pow,a=>bQ (cj λi j=>if 0<=j/\j<=1000000/\cU i=true then fI (i ^ j.toNat) else none) a
 | .shr,_=>none
 | .neg,a=>cz jN a
 | .not,a=>cz kJ a
 | .eq,a=>bQ (km false) a
 | .ne,a=>bQ (km true) a
 | .lt,a=>bQ (cj λi j=>fB (decide (i<j))) a
 | .le,a=>bQ (cj λi j=>fB (decide (i<=j))) a
 | .gt,a=>bQ (cj λi j=>fB (decide (j<i))) a
 | .ge,a=>bQ (cj λi j=>fB (decide (j<=i))) a
 | .isN,a=>cz (d7 false) a
 | .notN,a=>cz (d7 true) a
 | .isin,a=>bQ (j0 false) a
 | .nin,a=>bQ (j0 true) a
 | .ix,a=>bQ aR a
 | .slL,a=>bQ (λx y=>match y with | .int i=>bJ (some i) none x | _=>none) a
 | .slH,a=>bQ (λx y=>match y with | .int i=>bJ none (some i) x | _=>none) a
 | .slLH,_=>none
 | .rev,a=>cz (gI λc=>some (1,.lst c.reverse)) a
 | .fld f,a=>cz (iz f) a
 | .isi d,a=>cz (λx=>fB (d.any (aZ G x))) a
 | .len,a=>cz (dI λc=>fI c.length) a
 | .list,a=>cz (dI λc=>some (1,.lst c)) a
 | .lrng,_=>none
 | .lrev,_=>none
 | .tuple,a=>cz l5 a
 | .all,a=>cz (gI λc=>match allB c with | some b=>fB b | none=>none) a
 | .any,a=>cz (gI λc=>match anyB c with | some b=>fB b | none=>none) a
 | .toInt,_=>none
 | .sum,_=>none
 | .srt,_=>none
 | .srtSet,a=>cz (gI λc=>match dY c with | some e=>some (1,.lst (natL (bq e))) | none=>none) a
 | .symd,_=>none
 | .min1,a=>cz (gI fi) a
 | .min2,_=>none
 | .max2,_=>none
 | .index,a=>bQ cV a
 | .count,_=>none
@[simp] theorem Gm G a:bz G .lst a=some (aY a+1,.lst (a.map (·.2))):=rfl
@[simp] theorem zO G a:bz G .tup a=some (aY a+1,.tup (a.map (·.2))):=rfl
@[simp] theorem yr G vs:bz G .add vs=bQ gL vs:=rfl
@[simp] theorem opD_sub G vs:bz G .sub vs=bQ (cj λi j=>fI (i - j)) vs:=rfl
@[simp] theorem Dz G vs:bz G .mul vs=bQ jX vs:=rfl
@[simp] theorem opD_fdiv G vs:bz G .fdiv vs=bQ (cj λi j=>if 0<j/\j<1000000000000000000000000000000000000000000000000000000000000 then fI (i / j) else none) vs:=rfl
@[simp] theorem opD_mod G vs:bz G .mod vs=bQ (cj λi j=>if 0<j then fI (i % j) else none) vs:=rfl
@[simp] theorem opD_pow G vs:bz G .pow vs=bQ (cj λi j=>if 0<=j/\j<=1000000/\cU i=true then fI (i ^ j.toNat) else none) vs:=rfl
@[simp] theorem opD_shr G a:bz G .shr a=none:=rfl
@[simp] theorem FT G vs:bz G .neg vs=cz jN vs:=rfl
@[simp] theorem Bl G vs:bz G .not vs=cz kJ vs:=rfl
@[simp] theorem AR G vs:bz G .eq vs=bQ (km false) vs:=rfl
@[simp] theorem DW G vs:bz G .ne vs=bQ (km true) vs:=rfl
@[simp] theorem opD_lt G vs:bz G .lt vs=bQ (cj λi j=>fB (decide (i<j))) vs:=rfl
@[simp] theorem opD_le G vs:bz G .le vs=bQ (cj λi j=>fB (decide (i<=j))) vs:=rfl
@[simp] theorem opD_gt G vs:bz G .gt vs=bQ (cj λi j=>fB (decide (j<i))) vs:=rfl
@[simp] theorem opD_ge G vs:bz G .ge vs=bQ (cj λi j=>fB (decide (j<=i))) vs:=rfl
@[simp] theorem xH G vs:bz G .isN vs=cz (d7 false) vs:=rfl
@[simp] theorem DL G vs:bz G .notN vs=cz (d7 true) vs:=rfl
@[simp] theorem opD_isin G vs:bz G .isin vs=bQ (j0 false) vs:=rfl
@[simp] theorem opD_nin G vs:bz G .nin vs=bQ (j0 true) vs:=rfl
@[simp] theorem BH G vs:bz G .ix vs=bQ aR vs:=rfl
@[simp] theorem opD_slL G vs:bz G .slL vs=bQ (λx y=>match y with | .int i=>bJ (some i) none x | _=>none) vs:=rfl
@[simp] theorem opD_slH G vs:bz G .slH vs=bQ (λx y=>match y with | .int i=>bJ none (some i) x | _=>none) vs:=rfl
@[simp] theorem opD_slLH G a:bz G .slLH a=none:=rfl
@[simp] theorem Gg G vs:bz G .rev vs=cz (gI λxs=>some (1,.lst xs.reverse)) vs:=rfl
@[simp] theorem zY G f vs:bz G (.fld f) vs=cz (iz f) vs:=rfl
@[simp] theorem opD_isi G ts vs:bz G (.isi ts) vs=cz (λx=>fB (ts.any (aZ G x))) vs:=rfl
@[simp] theorem yk G vs:bz G .len vs=cz (dI λxs=>fI xs.length) vs:=rfl
@[simp] theorem Gn G vs:bz G .list vs=cz (dI λxs=>some (1,.lst xs)) vs:=rfl
@[simp] theorem opD_lrng G a:bz G .lrng a=none:=rfl
@[simp] theorem opD_lrev G a:bz G .lrev a=none:=rfl
@[simp] theorem BV G vs:bz G .tuple vs=cz l5 vs:=rfl
@[simp] theorem x1 G vs:bz G .all vs=cz (gI λxs=>match allB xs with | some b=>fB b | none=>none) vs:=rfl
@[simp] theorem yF G vs:bz G .any vs=cz (gI λxs=>match anyB xs with | some b=>fB b | none=>none) vs:=rfl
@[simp] theorem opD_toInt G a:bz G .toInt a=none:=rfl
@[simp] theorem opD_sum G a:bz G .sum a=none:=rfl
@[simp] theorem opD_srt G a:bz G .srt a=none:=rfl
@[simp] theorem Dx G vs:bz G .srtSet vs=cz (gI λxs=>match dY xs with | some ns=>some (1,.lst (natL (bq ns))) | none=>none) vs:=rfl
@[simp] theorem opD_symd G a:bz G .symd a=none:=rfl
@[simp] theorem yq G vs:bz G .min1 vs=cz (gI fi) vs:=rfl
@[simp] theorem opD_min2 G a:bz G .min2 a=none:=rfl
@[simp] theorem opD_max2 G a:bz G .max2 a=none:=rfl
@[simp] theorem ET G vs:bz G .index vs=bQ cV vs:=rfl
@[simp] theorem opD_count G a:bz G .count a=none:=rfl
@[simp,reducible] noncomputable def R.of {α:Type}:Option α->R α
 | some a=>.ok a
 | none=>.bad
def dN (h:(none:Option α)=some x):False:=nomatch h
noncomputable def o9 (f:D->Option ax):aw->Option ax
 | []=>none
 | x::r=>match r with
  | []=>f x.2
  | _::_=>none
noncomputable def p9 (f:D->D->Option ax):aw->Option ax
 | []=>none
 | x::r=>match r with
  | []=>none
  | y::t=>match t with
   | []=>f x.2 y.2
   | _::_=>none
def tj (h:o9 f vs=some ds):∃x,vs=[x]/\f x.2=some ds:=by
 cases vs with
 | nil=>exact (dN h).elim
 | cons x r=>
  cases r with
  | nil=>exact⟨x,rfl,h⟩
  | cons _ _=>exact (dN h).elim
def wB (h:p9 f vs=some ds):∃x y,vs=[x,y]/\f x.2 y.2=some ds:=by
 cases vs with
 | nil=>exact (dN h).elim
 | cons x r=>
  cases r with
  | nil=>exact (dN h).elim
  | cons y t=>
   cases t with
   | nil=>exact⟨x,y,rfl,h⟩
   | cons _ _=>exact (dN h).elim
noncomputable def fQ:D->Option Int
 | .int i=>some i
 | _=>none
def sK (h:fQ d=some i):d=.int i:=by
 cases d <;> first | exact (dN h).elim | exact congrArg D.int (cm h)
noncomputable def i6 (d:D):Option ax:=(fQ d).bind λj=>if cU j=true then some ((List.range j.toNat).map λ(n:Nat)=>.int n) else none
noncomputable def jD (d e:D):Option ax:=(fQ d).bind λi=>(fQ e).bind λj=>if cU i=true/\cU j=true then some ((List.range (j - i).toNat).map λ(n:Nat)=>.int (i+n)) else none
noncomputable def ja (x:D):Option ax:=x.seq.map λa=>a.mapIdx λn d=>.tup [.int n,d]
noncomputable def mV (x y:D):Option ax:=x.lstO.bind λb=>y.lstO.map λa=>(b.zip a).map λp=>.tup [p.1,p.2]
noncomputable def dB:Wk->aw->Option ax
 | .seq=>o9 D.seq
 | .rng1=>o9 i6
 | .rng2=>p9 jD
 | .enum=>o9 ja
 | .zip=>p9 mV
 | .rngD=>λ_=>none
 | .rev=>λ_=>none
noncomputable abbrev Sl:=List (Option D)
@[simp] noncomputable def cW (a:Sl):aC->Option D
 | some i=>(a[i]?).join
 | none=>none
noncomputable def cP {α:Type}(f:D->α):aj->ax->List (Option α)->List (Option α)
 | i::is,d::b,a=>cP f is b (a.set i (some (f d)))
 | _,_,a=>a
@[simp] theorem setsT_ {α:Type}(f:D->α) i is d b a:cP f (i::is) (d::b) a=cP f is b (a.set i (some (f d))):=rfl
@[simp] theorem setsT0 {α:Type}(f:D->α) b a:cP f [] b a=a:=rfl
@[simp] noncomputable def dP {α:Type}(f:D->α)(a:List (Option α)):Tg->D->Option (List (Option α))
 | .one i,d=>some (a.set i (some (f d)))
 | .many is,d=>match d with
  | .tup b=>if b.length=is.length then some (cP f is b a) else none
  | _=>none
noncomputable def aW (f:D->R az):ax->R aw
 | []=>.ok []
 | x::b=>(f x).bind λo=>(aW f b).bind λa=>.ok (match o with | some y=>y::a | none=>a)
@[simp] noncomputable def R.bl (r:R KD):R Bool:=r.bind λx=>match x.2 with
 | .bl b=>.ok b
 | _=>.bad
@[simp] noncomputable def R.nox {α:Type}(r:R α):R α:=match r with | .exc _ _=>.bad | r=>r
noncomputable def ig {α:Type}(d:D)(t e b:α):α:=match d with
 | .bl c=>if c then t else e
 | _=>b
@[simp] theorem lF c (t e b:α):ig (.bl c) t e b=if c then t else e:=rfl
section
variable (G:Pg)(cl:Nat->aw->Run)
noncomputable def gF:Run->R KD
 | .ret k d []=>.ok (k,d)
 | .exc c a []=>.exc c a
 | _=>.bad
@[simp] theorem runR_ k d:gF (.ret k d [])=.ok (k,d):=rfl
@[simp] theorem runRx c a:gF (.exc c a [])=.exc c a:=rfl
@[simp] noncomputable def fill (F:Fn)(a:aw):aw:=a++(F.dfl.drop (F.dfl.length - (F.np - a.length))).map λd=>(99,d)
@[simp] noncomputable def dE (f m:Nat):Option Fn:=match G.fn f with
 | some F=>if F.io=[]/\m<=F.np/\F.np - m<=F.dfl.length then some F else none
 | none=>none
noncomputable def br (c m:Nat):Option (Nat×Fn×D):=match G.cl c with
 | some C=>match C.init with
  | some f=>match G.fn f with
   | some F=>if F.io=[0]/\m+1<=F.np/\F.np - (m+1)<=F.dfl.length/\m<=50 then some (f,F,if C.isx then .exc c [] else .ins c []) else none
   | none=>none
  | none=>none
 | none=>none
noncomputable def made:Run->R KD
 | .ret _ .non [x]=>.ok x
 | .exc c a _=>.exc c a
 | _=>.bad
@[simp] theorem made_ k x:made (.ret k .non [x])=.ok x:=rfl
@[simp] theorem madex c a o:made (.exc c a o)=.exc c a:=rfl
@[simp] noncomputable def gk (p:Nat×Fn×D)(a:aw):R KD:=made (cl p.1 ((1,p.2.2)::fill { p.2.1 with np:=p.2.1.np - 1 } a))
noncomputable def bX (m k:Nat):D->Option (Nat×Fn)
 | .ins c a=>match G.cl c with
  | some C=>match C.meths.lookup m with
   | some f=>match G.fn f with
    | some F=>if F.io=[]/\a.lookup m=none/\k+1<=F.np/\F.np - (k+1)<=F.dfl.length then some (f,F) else none
    | none=>none
   | none=>none
  | none=>none
 | _=>none
@[simp] noncomputable def sl2D (i:Int)(x:D):D->R KD
 | .int j=>R.of (bJ (some i) (some j) x)
 | _=>.bad
mutual
noncomputable def eval (a:Sl):Ex->R KD
 | .var i=>match a[i]? with
  | some (some d)=>.ok (0,d)
  | _=>.bad
 | .cst d=>.ok (99,d)
 | .op o g=>(evals a g).bind λh=>R.of (bz G o h)
 | .and x y=>(eval a x).bind λv=>ig v.2 (eval a y) (okB false) .bad
 | .or x y=>(eval a x).bind λv=>ig v.2 (okB true) (eval a y) .bad
 | .chain o p x y z=>(eval a x).bind λu=>(eval a y).bind λv=>(R.of (bz G o [u,v])).bind λb=>ig b.2 ((eval a z).bind λw=>R.of (bz G p [v,w])) (okB false) .bad
 | .sl2 x y z=>(eval a x).bind λu=>(eval a y).bind λv=>match v.2 with
  | .int i=>(eval a z).bind λw=>sl2D i u.2 w.2
  | _=>.bad
 | .comp j r s q t e=>(evals a q).bind λh=>match dB s h with
  | some l=>if l.length<=SL then
    ((aW (λx=>match dP id (j.map (cW a)) r x with
     | some b=>((evals b t).bind λn=>match n with
      | []=>(eval b e).bind λy=>.ok (some y)
      | [t]=>ig t.2 ((eval b e).bind λy=>.ok (some y)) (.ok none) .bad
      | _=>.bad)
     | none=>.bad) l).nox).bind λk=>.ok (aY k+1,.lst (k.map (·.2)))
   else .bad
  | none=>.bad
 | .call f g=>(R.of (dE G f g.length)).bind λF=>(evals a g).bind λh=>gF (cl f (fill F h))
 | .make c g=>(R.of (br G c g.length)).bind λp=>(evals a g).bind (gk cl p)
 | .meth m o g=>(eval a o).bind λx=>(R.of (bX G m g.length x.2)).bind λp=>(evals a g).bind λh=>gF (cl p.1 (fill p.2 (x::h)))
 | .bad=>.bad
noncomputable def evals (a:Sl):aF->R aw
 | []=>.ok []
 | e::b=>(eval a e).bind λx=>(evals a b).bind λc=>.ok (x::c)
end
@[simp] theorem de a:evals G cl a []=.ok []:=rfl
@[simp] theorem bG a e b:evals G cl a (e::b)=(eval G cl a e).bind λx=>(evals G cl a b).bind λxs=>.ok (x::xs):=rfl
noncomputable def compF (c:Sl)(a:Tg)(t:aF)(e:Ex)(x:D):R az:=match dP id c a x with
 | some b=>(evals G cl b t).bind λd=>match d with
  | []=>(eval G cl b e).bind λy=>.ok (some y)
  | [t]=>ig t.2 ((eval G cl b e).bind λy=>.ok (some y)) (.ok none) .bad
  | _=>.bad
 | none=>.bad
@[simp] theorem gc a i:eval G cl a (.var i)=match a[i]? with
  | some (some d)=>.ok (0,d)
  | _=>.bad:=rfl
@[simp] theorem kT a d:eval G cl a (.cst d)=.ok (99,d):=rfl
@[simp] theorem cK a o b:eval G cl a (.op o b)=(evals G cl a b).bind λvs=>R.of (bz G o vs):=rfl
@[simp] theorem me a x y:eval G cl a (.and x y)=(eval G cl a x).bind λv=>ig v.2 (eval G cl a y) (okB false) .bad:=rfl
@[simp] theorem lY a x y:eval G cl a (.or x y)=(eval G cl a x).bind λv=>ig v.2 (okB true) (eval G cl a y) .bad:=rfl
@[simp] theorem qz a o p x y z:eval G cl a (.chain o p x y z)=(eval G cl a x).bind λu=>(eval G cl a y).bind λv=>(R.of (bz G o [u,v])).bind λb=>
  ig b.2 ((eval G cl a z).bind λw=>R.of (bz G p [v,w])) (okB false) .bad:=rfl
@[simp] theorem qi a x y z:eval G cl a (.sl2 x y z)=(eval G cl a x).bind λu=>(eval G cl a y).bind λv=>match v.2 with
  | .int i=>(eval G cl a z).bind λw=>sl2D i u.2 w.2
  | _=>.bad:=rfl
@[simp] theorem ii a f es:eval G cl a (.call f es)=(R.of (dE G f es.length)).bind λF=>(evals G cl a es).bind λvs=>gF (cl f (fill F vs)):=rfl
@[simp] theorem lO a f es:eval G cl a (.make f es)=(R.of (br G f es.length)).bind λp=>(evals G cl a es).bind (gk cl p):=rfl
@[simp] theorem jY a m o b:eval G cl a (.meth m o b)=(eval G cl a o).bind λx=>(R.of (bX G m b.length x.2)).bind λp=>(evals G cl a b).bind λc=>gF (cl p.1 (fill p.2 (x::c))):=rfl
@[simp] theorem gC a:eval G cl a .bad=.bad:=rfl
@[simp] theorem lp a b f d c t e:eval G cl a (.comp b f d c t e)=(evals G cl a c).bind λi=>match dB d i with
  | some h=>if h.length<=SL then ((aW (compF G cl (b.map (cW a)) f t e) h).nox).bind λg=>.ok (aY g+1,.lst (g.map (·.2))) else .bad
  | none=>.bad:=by
 rfl
noncomputable abbrev Fr:=List az
@[simp] noncomputable def Fr.sl (A:Fr):Sl:=A.map (Option.map (·.2))
inductive O where
 | nx (A:Fr) | ret (k:Nat) (d:D) (A:Fr) | exc (c:Nat) (fs:List aH) (A:Fr) | bad
mutual
noncomputable def Ex.names:Ex->aj
 | .var i=>[i]
 | .cst _=>[]
 | .op _ d=>Ex.namess d
 | .and a b=>a.names++b.names
 | .or a b=>a.names++b.names
 | .chain _ _ a b c=>a.names++(b.names++c.names)
 | .sl2 a b c=>a.names++(b.names++c.names)
 | .comp e _ _ f _ _=>e.filterMap id++Ex.namess f
 | .call _ d=>Ex.namess d
 | .make _ d=>Ex.namess d
 | .meth _ o d=>o.names++Ex.namess d
 | .bad=>[]
noncomputable def Ex.namess:aF->aj
 | []=>[]
 | e::a=>e.names++Ex.namess a
end
@[simp] theorem jI:(∀i,(Ex.var i).names=[i])/\(∀d,(Ex.cst d).names=[])/\(∀o d,(Ex.op o d).names=Ex.namess d)/\(∀a b,(Ex.and a b).names=a.names++b.names)/\(∀a b,(Ex.or a b).names=a.names++b.names)/\(∀o p a b c,(Ex.chain o p a b c).names=a.names++(b.names++c.names))/\(∀a b c,(Ex.sl2 a b c).names=a.names++(b.names++c.names))/\(∀e t w f a b,(Ex.comp e t w f a b).names=e.filterMap id++Ex.namess f)/\(∀f d,(Ex.call f d).names=Ex.namess d)/\(∀f d,(Ex.make f d).names=Ex.namess d)/\(∀m o d,(Ex.meth m o d).names=o.names++Ex.namess d)/\Ex.namess []=[]/\∀e a,Ex.namess (e::a)=e.names++Ex.namess a:=by and_intros <;> intros <;> rfl
@[simp] noncomputable def frz1 (A:Fr)(i:Nat):Fr:=match A[i]? with
 | some (some (_,d))=>A.set i (some (0,d))
 | _=>A
@[simp] noncomputable def frz (ns:aj)(A:Fr):Fr:=ns.foldl frz1 A
noncomputable def cN (A:Fr):Fr:=A.map (Option.map λx=>(0,x.2))
@[simp] noncomputable def settle (a:aj)(A:Fr)(x:KD):Fr:=if x.2.fb x.1 then A else frz a A
@[simp] noncomputable def excA (A:Fr)(a:List aH):Fr:=if a.all λp=>p.2.flat then A else cN A
@[simp] noncomputable def putF (f:Nat)(d:D):List aH->List aH
 | []=>[(f,d)]
 | (g,e)::r=>if g=f then (g,d)::r else (g,e)::putF f d r
noncomputable def bH (body:D->Fr->O):ax->Fr->O
 | [],A=>.nx A
 | x::a,A=>match body x A with
  | .nx A=>bH body a A
  | o=>o
@[simp] noncomputable def R.toO {α:Type}(r:R α)(A:Fr)(f:α->O):O:=match r with
 | .ok a=>f a
 | .exc c b=>.exc c b (excA A b)
 | .bad=>.bad
@[simp] noncomputable def O.seq (o:O)(f:Fr->O):O:=match o with
 | .nx A=>f A
 | o=>o
noncomputable def D.isI:D->Bool
 | .int _=>true
 | _=>false
noncomputable def hX (m:Mu)(k:Nat)(a:ax)(c:aw):az:=match m,c with
 | .append,[v]=>if a.length<SL then some (cJ k a v+1,.lst (a++[v.2])) else none
 | .extend,[v]=>match v.2 with
  | .tup b=>if b.all D.scal=true/\a.length+b.length<=SL then some (1,.lst (a++b)) else none
  | _=>none
 | .insert,[v,w]=>match v.2 with
  | .int i=>if 0<=i/\i.toNat<=a.length/\a.length<SL then some (1,.lst (a.take i.toNat++w.2::a.drop i.toNat)) else none
  | _=>none
 | _,_=>none
@[simp] theorem wu k a v:hX .append k a [v]=if a.length<SL then some (cJ k a v+1,.lst (a++[v.2])) else none:=rfl
@[simp] theorem t6 k a v w:hX .insert k a [v,w]=match v.2 with
  | .int i=>if 0<=i/\i.toNat<=a.length/\a.length<SL then some (1,.lst (a.take i.toNat++w.2::a.drop i.toNat)) else none
  | _=>none:=rfl
@[simp] theorem uW k b v:hX .extend k b [v]=match v.2 with
  | .tup a=>if a.all D.scal=true/\b.length+a.length<=SL then some (1,.lst (b++a)) else none
  | _=>none:=rfl
section
variable (io:aj)
@[simp] noncomputable def cq (i:Nat)(x:KD)(A:Fr):O:=if io.contains i=false/\i<A.length then .nx (A.set i (some x)) else .bad
noncomputable def setFs:aj->aw->Fr->O
 | [],[],A=>.nx A
 | i::is,x::a,A=>(cq io i x A).seq (setFs is a)
 | _,_,_=>.bad
@[simp] theorem setFs0 A:setFs io [] [] A=.nx A:=rfl
@[simp] theorem qx i is x a A:setFs io (i::is) (x::a) A=(cq io i x A).seq (setFs io is a):=rfl
@[simp] noncomputable def bZ (a:Tg)(d:D)(A:Fr):O:=match a,d with
 | .one i,d=>cq io i (0,d) A
 | .many is,.tup b=>setFs io is (b.map λd=>(0,d)) A
 | _,_=>.bad
@[simp] noncomputable def gu (io:aj)(is:aj)(e:Ex)(A:Fr)(x:KD):O:=match x.2 with
 | .tup a=>setFs io is (a.map λd=>(0,d)) (settle e.names A x)
 | _=>.bad
noncomputable def cZ (A:Fr)(e:Ex)(r:R KD):O:=match e with
 | .var i=>match A[i]? with
  | some (some x)=>.ret x.1 x.2 (A.set i none)
  | _=>.bad
 | e=>r.toO A λx=>.ret x.1 x.2 (settle e.names A x)
@[simp] theorem uc A i r:cZ A (.var i) r=match A[i]? with
  | some (some x)=>.ret x.1 x.2 (A.set i none)
  | _=>.bad:=rfl
@[simp] theorem retO_cst A d r:cZ A (.cst d) r=r.toO A λx=>.ret x.1 x.2 (settle (Ex.cst d).names A x):=rfl
@[simp] theorem retO_op A o a r:cZ A (.op o a) r=r.toO A λx=>.ret x.1 x.2 (settle (Ex.op o a).names A x):=rfl
@[simp] theorem retO_and A x y r:cZ A (.and x y) r=r.toO A λz=>.ret z.1 z.2 (settle (Ex.and x y).names A z):=rfl
@[simp] theorem retO_or A x y r:cZ A (.or x y) r=r.toO A λz=>.ret z.1 z.2 (settle (Ex.or x y).names A z):=rfl
@[simp] theorem retO_chain A o p x y w r:cZ A (.chain o p x y w) r=r.toO A λz=>.ret z.1 z.2 (settle (Ex.chain o p x y w).names A z):=rfl
@[simp] theorem retO_sl2 A x y w r:cZ A (.sl2 x y w) r=r.toO A λz=>.ret z.1 z.2 (settle (Ex.sl2 x y w).names A z):=rfl
@[simp] theorem retO_comp A a d c b t e r:cZ A (.comp a d c b t e) r=r.toO A λz=>.ret z.1 z.2 (settle (Ex.comp a d c b t e).names A z):=rfl
@[simp] theorem retO_call A f a r:cZ A (.call f a) r=r.toO A λz=>.ret z.1 z.2 (settle (Ex.call f a).names A z):=rfl
@[simp] theorem retO_make A f a r:cZ A (.make f a) r=r.toO A λz=>.ret z.1 z.2 (settle (Ex.make f a).names A z):=rfl
@[simp] theorem retO_meth A f o a r:cZ A (.meth f o a) r=r.toO A λz=>.ret z.1 z.2 (settle (Ex.meth f o a).names A z):=rfl
@[simp] theorem retO_bad A r:cZ A .bad r=r.toO A λz=>.ret z.1 z.2 (settle Ex.bad.names A z):=rfl
@[simp] noncomputable def gi (b:aj)(A:Fr)(x:KD):O:=match x with
 | (_+1,.exc c a)=>.exc c a (excA (settle b A x) a)
 | _=>.bad
@[simp] noncomputable def fe (m:Mu)(b:aw)(A:Fr)(x:Nat):Option az->O
 | some (some (k+1,.lst a))=>match hX m k a b with
  | some y=>.nx (A.set x (some y))
  | none=>.bad
 | _=>.bad
noncomputable def pD (m:Mu)(c:aw)(A:Fr)(x:Nat)(i:Int):Option az->O
 | some (some (k+2,.lst a))=>match fh a.length i with
  | some j=>match a[j]? with
   | some (.lst b)=>match hX m k b c with
    | some y=>.nx (A.set x (some (cJ (k+1) (a.eraseIdx j) y+1,.lst (a.set j y.2))))
    | none=>.bad
   | _=>.bad
  | none=>.bad
 | _=>.bad
@[simp] noncomputable def cQ:Option az->Bool
 | some (some (_,.lst _))=>true
 | _=>false
@[simp] noncomputable def eU (m:Mu)(A:Fr)(x:Nat)(d:aF)(c b:aw):O:=
 let a:=if b.all (λv=>v.2.fb v.1) then A else frz (Ex.namess d) A
 match c with
 | []=>fe m b a x a[x]?
 | [(_,.int i)]=>pD m b a x i a[x]?
 | _=>.bad
@[simp] noncomputable def iH (A:Fr)(x:Nat)(v w:KD):Option az->O
 | some (some (k+1,.lst a))=>match w.2 with
  | .int i=>if 0<=i/\i<a.length then .nx (A.set x (some (1,.lst (a.set i.toNat v.2)))) else .bad
  | _=>.bad
 | _=>.bad
@[simp] noncomputable def fU (A:Fr)(x f:Nat)(v:KD):Option az->O
 | some (some (k+1,.ins c a))=>if a.length<50 then .nx (A.set x (some (cJ k (a.map (·.2)) v+1,.ins c (putF f v.2 a)))) else .bad
 | some (some (k+1,.exc c a))=>if a.length<50 then .nx (A.set x (some (cJ k (a.map (·.2)) v+1,.exc c (putF f v.2 a)))) else .bad
 | _=>.bad
@[simp] noncomputable def hV (A:Fr):aw->O
 | (_,.exc _ _)::_=>.nx A
 | _=>.bad
@[simp] noncomputable def iM (G:Pg)(io:aj)(c i x:Nat):O->O
 | .exc b a d=>if aZ G (.exc b a) (.cls c)=true then (cq io x (0,.exc b a) d).seq λA=>if io.contains i=false/\i≠x/\i<A.length then .nx (A.set i none) else .bad else .bad
 | o=>o
noncomputable def natO:Option az->aC
 | some (some (_,.int n))=>if 0<=n then some n.toNat else none
 | _=>none
noncomputable def natsO (A:Fr):aj->Option aj
 | []=>some []
 | i::is=>(natO A[i]?).bind λn=>(natsO A is).map λa=>n::a
noncomputable def intF:Option az->Option Int
 | some (some (_,.int n))=>some n
 | _=>none
noncomputable def d9 (rm:Bool)(v:Int)(a:ax):Option ax:=if a.all D.isI=true then (if rm=true then (D.find (.int v) a).map λj=>a.eraseIdx j else if a.length<SL then some (a++[.int v]) else none) else none
noncomputable def df (rm:Bool)(v:Int):aj->D->Option D
 | [],.lst c=>(d9 rm v c).map .lst
 | n::e,.lst a=>(a[n]?).bind λd=>(df rm v e d).map λb=>.lst (a.set n b)
 | _,_=>none
noncomputable def fY (A:Fr)(x:Nat)(is:aj)(rm:Bool)(j:Nat):Option az->O
 | some (some z)=>match if is.length<z.1 then (natsO A is).bind λa=>(intF A[j]?).bind λv=>df rm v a z.2 else none with
  | some d=>.nx (A.set x (some (z.1,d)))
  | none=>.bad
 | _=>.bad
noncomputable def R.okO {α:Type}:R α->(α->O)->O
 | .ok a,f=>f a
 | _,_=>.bad
noncomputable def dJ (G:Pg)(f k:Nat):Option Fn:=(G.fn f).bind λF=>if F.io=[0]/\k=F.np then some F else none
noncomputable def kL (A:Fr)(x:Nat):Run->O
 | .ret _ .non [z]=>if z.2.fb z.1=true then .nx (A.set x (some z)) else .bad
 | _=>.bad
noncomputable def iW (cl:Nat->aw->Run)(f:Nat)(A:Fr)(x:Nat)(vs:aw):Option az->O
 | some (some y)=>kL A x (cl f (y::vs))
 | _=>.bad
noncomputable def setA:aF->aw->Fr->Fr
 | e::a,v::b,A=>setA a b (settle e.names A v)
 | _,_,A=>A
@[simp] noncomputable def lu (G:Pg)(a:ax->Fr->O)(d:Wk)(c:aF)(A:Fr)(e:aw):O:=match dB d e with
 | some b=>if b.length<=SL then a b (frz (Ex.namess c) A) else .bad
 | none=>.bad
mutual
noncomputable def exec (A:Fr):S->O
 | .set i e=>(eval G cl A.sl e).toO A λx=>cq io i x (settle e.names A x)
 | .setT is e=>(eval G cl A.sl e).toO A (gu io is e A)
 | .ret e=>cZ A e (eval G cl A.sl e)
 | .ex e=>(eval G cl A.sl e).toO A λx=>.nx (settle e.names A x)
 | .iff c t e=>((eval G cl A.sl c).bl).toO A λb=>if b then execs A t else execs A e
 | .fo k n h b=>(evals G cl A.sl h).toO A (lu G (bH λx A=>(bZ io k x A).seq λA=>execs A b) n h A)
 | .rais c a=>(eval G cl A.sl (.make c a)).toO A (gi (Ex.make c a).names A)
 | .mut x d m a=>if cQ A[x]? then (evals G cl A.sl d).toO A λl=>(evals G cl A.sl a).toO A (eU m A x a l) else .bad
 | .put x d i e=>if d.isEmpty=true then (eval G cl A.sl e).toO A λv=>(eval G cl A.sl i).toO A λw=>iH (settle e.names A v) x v w (settle e.names A v)[x]? else .bad
 | .sfld x f e=>(eval G cl A.sl e).toO A λv=>fU (settle e.names A v) x f v (settle e.names A v)[x]?
 | .xinit a=>(evals G cl A.sl a).toO A (hV A)
 | .tryE b c i x=>iM G io c i x (execs A b)
 | .raisV c=>.exc c [] (excA A [])
 | .nest x is rm j=>fY A x is rm j A[x]?
 | .byref f x a=>match dJ G f (a.length+1) with
  | some _=>(evals G cl A.sl a).okO λg=>iW cl f (setA a g A) x g (setA a g A)[x]?
  | none=>.bad
 | .bad=>.bad
noncomputable def execs (A:Fr):ay->O
 | []=>.nx A
 | s::a=>(exec A s).seq λA=>execs A a
end
end
end
section
variable (G:Pg)(a:Nat->aw->Run)(io:aj)
@[simp] theorem w6 A:execs G a io A []=.nx A:=rfl
@[simp] theorem k6 A s ss:execs G a io A (s::ss)=(exec G a io A s).seq λA=>execs G a io A ss:=rfl
noncomputable def fJ (c:Tg)(b:ay)(x:D)(A:Fr):O:=(bZ io c x A).seq λA=>execs G a io A b
@[simp] theorem lC A i e:exec G a io A (.set i e)=(eval G a A.sl e).toO A λx=>cq io i x (settle e.names A x):=rfl
@[simp] theorem vk A is e:exec G a io A (.setT is e)=(eval G a A.sl e).toO A (gu io is e A):=rfl
@[simp] theorem mW A e:exec G a io A (.ret e)=cZ A e (eval G a A.sl e):=rfl
@[simp] theorem oG A e:exec G a io A (.ex e)=(eval G a A.sl e).toO A λx=>.nx (settle e.names A x):=rfl
@[simp] theorem uP A c t e:exec G a io A (.iff c t e)=((eval G a A.sl c).bl).toO A λb=>if b then execs G a io A t else execs G a io A e:=rfl
@[simp] theorem wf A c b:exec G a io A (.rais c b)=(eval G a A.sl (.make c b)).toO A (gi (Ex.make c b).names A):=rfl
@[simp] theorem k8 A x b m c:exec G a io A (.mut x b m c)=if cQ A[x]? then (evals G a A.sl b).toO A λd=>(evals G a A.sl c).toO A (eU m A x c d) else .bad:=rfl
@[simp] theorem qA A x b i e:exec G a io A (.put x b i e)=if b.isEmpty=true then (eval G a A.sl e).toO A λv=>(eval G a A.sl i).toO A λw=>iH (settle e.names A v) x v w (settle e.names A v)[x]? else .bad:=rfl
@[simp] theorem ES A x f e:exec G a io A (.sfld x f e)=(eval G a A.sl e).toO A λv=>fU (settle e.names A v) x f v (settle e.names A v)[x]?:=rfl
@[simp] theorem Gz A b:exec G a io A (.xinit b)=(evals G a A.sl b).toO A (hV A):=rfl
@[simp] theorem uz A b c i x:exec G a io A (.tryE b c i x)=iM G io c i x (execs G a io A b):=rfl
@[simp] theorem ux A c:exec G a io A (.raisV c)=.exc c [] (excA A []):=rfl
theorem uo A x is rm j:exec G a io A (.nest x is rm j)=fY A x is rm j A[x]?:=rfl
theorem qW A f x es:exec G a io A (.byref f x es)=match dJ G f (es.length+1) with
  | some _=>(evals G a A.sl es).okO λb=>iW a f (setA es b A) x b (setA es b A)[x]?
  | none=>.bad:=rfl
@[simp] theorem zt A:exec G a io A .bad=.bad:=rfl
@[simp] theorem ri A e d c b:exec G a io A (.fo e d c b)=(evals G a A.sl c).toO A (lu G (bH (fJ G a io e b)) d c A):=by
 rfl
end
def wS (h:x.2.flat=true):bg j x=true:=by simp[bg,h]
@[simp] theorem joinK_nil:aY []=98:=rfl
@[simp] theorem n4 (h:x.2.flat=true):aY (x::xs)=aY xs:=by
 have b:∀j,bg j x=true:=λj=>wS h;unfold aY;rw[List.find?_cons_of_neg (by simp[h])];cases xs.find? λx=>!x.2.flat with
 | none=>rfl
 | some y=>
  show (if (bg y.1 x&&xs.all (bg y.1))=true then y.1 else 0)=if xs.all (bg y.1)=true then y.1 else 0
  rw[b y.1,Bool.true_and]
@[simp] noncomputable def outs (A:Fr):aj->Option aw
 | []=>some []
 | i::is=>match A[i]? with
  | some (some x)=>(outs A is).map λa=>x::a
  | _=>none
@[simp] noncomputable def fin (io:aj):O->Run
 | .nx A=>match outs A io with
  | some a=>.ret 99 .non a
  | none=>.bad
 | .ret k d A=>match outs A io with
  | some a=>.ret k d a
  | none=>.bad
 | .exc c b A=>match outs A io with
  | some a=>.exc c b a
  | none=>.bad
 | _=>.bad
@[simp] noncomputable def bn (F:Fn)(a:aw):Fr:=a.mapIdx (λi v=>if F.io.contains i then some v else some (0,v.2))++List.replicate (F.ns - F.np) none
noncomputable def run (G:Pg):Nat->Nat->aw->Run
 | 0,_,_=>.bad
 | n+1,f,a=>match G.fn f with
  | some F=>if a.length=F.np then fin F.io (execs G (run G n) F.io (bn F a) F.body) else .bad
  | none=>.bad
def qY {G:Pg}{F:Fn}(h:G.fn f=some F)(b:a.length=F.np):run G (n+1) f a=fin F.io (execs G (run G n) F.io (bn F a) F.body):=by
 show (match G.fn f with | some F=>if a.length=F.np then _ else _ | none=>_)=_;rw[h];exact if_pos b
end
end Ip
namespace Ip
open PySem
noncomputable def pos? (x:Str):ar->aC
 | []=>none
 | y::a=>if y == x then some 0 else (pos? x a).map (·+1)
theorem pos?_get:∀{l:ar} {i:Nat},pos? x l=some i->l[i]? = some x
 | [],_,h=>by simp[pos?] at h
 | y::a,i,h=>by
  unfold pos? at h;by_cases e:(y == x)=true
  .rw[if_pos e] at h;cases h;simpa using e
  .rw[if_neg e] at h;cases q:pos? x a with
   | none=>rw[q] at h; cases h
   | some j=>rw[q] at h; cases h; simpa using pos?_get q
noncomputable def pN:Operator->Option Op
 | .Add=>some .add | .Sub=>some .sub | .Mult=>some .mul | .FloorDiv=>some .fdiv | .Mod=>some .mod | .Pow=>some .pow
 | _=>none
noncomputable def gE:CmpOp->Option Op
 | .Eq=>some .eq | .NotEq=>some .ne | .Lt=>some .lt | .LtE=>some .le | .Gt=>some .gt | .GtE=>some .ge | .In=>some .isin | .NotIn=>some .nin
 | _=>none
noncomputable def bi (sc:Scope)(x:Str):Bool:=sc.names.lookup x == some .globalImplicit
noncomputable def bb (sc:Scope)(x:Str):Bool:=sc.names.lookup x == some .local||sc.names.lookup x == some .cell||sc.names.lookup x == some .free
noncomputable def bx (sc:Scope)(x:Str):Bool:=sc.names.lookup x == some .local||sc.names.lookup x == some .cell
noncomputable def mX:List (Str×Op):=[("len",.len),("list",.list),("tuple",.tuple),("all",.all),("any",.any),("min",.min1)]
noncomputable def eV (T:Tb)(a:Scope):Expr->Option Ty
 | .Name x _=>if bi a x then (match T.cls.lookup x with
  | some c=>some (.cls c)
  | none=>jS.lookup x) else none
 | _=>none
noncomputable def dZ (T:Tb)(b:Scope):Expr->Option (List Ty)
 | .Tuple a _ _=>if a.length<=1000 then a.mapM (eV T b) else none
 | e=>(eV T b e).map λt=>[t]
noncomputable def dm (d:Scope)(N c:ar)(b:List aC)(a:Scope):Bool:=
 a.kind == .function&&a.names.all (λy=>(y.2 != .cell||a.names.lookup y.1 == some .cell)&&(y.2 != .local||a.names.lookup y.1 == some .local)&&(y.2 != .free||(d.names.lookup y.1 == some .cell||d.names.lookup y.1 == some .free))) &&
 b.length == c.length&&decide c.Nodup&&(b.zip c).all λp=>match p.1 with
  | none=>true
  | some j=>N[j]? == some p.2&&a.names.lookup p.2 == some .free
noncomputable def aX (a:Scope):ar:=(a.names.filter λy=>y.2 == .local||y.2 == .cell||y.2 == .free).map (·.1)
noncomputable def bm (N:ar)(a:Scope):List aC:=(a.names.filter λy=>y.2 == .local||y.2 == .cell||y.2 == .free).map λy=>if y.2 == .free then pos? y.1 N else none
noncomputable def cY (a:Scope)(N:ar):Expr->Option Tg
 | .Name x _=>if bx a x then (pos? x N).map .one else none
 | .Tuple b _ _=>(b.mapM λ(e:Expr)=>match e with
  | .Name x _=>if bx a x then pos? x N else none
  | _=>none).map .many
 | _=>none
theorem wR a N x p:cY a N (.Name x p)=if bx a x then (pos? x N).map .one else none:=rfl
theorem AM b N a k p:cY b N (.Tuple a k p)=(a.mapM λ(e:Expr)=>match e with
  | .Name x _=>if bx b x then pos? x N else none
  | _=>none).map .many:=rfl
noncomputable def aQ (x:Str):Bool:=!(x == ("__debug__" : Str))&&!(x == ("__classdict__" : Str))
noncomputable def da:Expr->Bool
 | .Set _ _ _=>false
 | _=>true
noncomputable def jo:CmpOp->Option Op
 | .Eq=>some .eq | .NotEq=>some .ne | .Lt=>some .lt | .LtE=>some .le | .Gt=>some .gt | .GtE=>some .ge
 | _=>none
noncomputable def isNone:Expr->Bool
 | .Constant .none _ _=>true
 | _=>false
noncomputable def h8:Expr->Bool
 | .UnaryOp .USub (.Constant (.int 1) _ _) _=>true
 | _=>false
noncomputable def noStar (es:au):Bool:=es.all λe=>match e with
 | .Starred _ _=>false
 | _=>true
noncomputable def fK:Expr->Bool
 | .Call (.Name _ _) [] [] _=>false
 | _=>true
noncomputable def en:Wk->Tg->Bool
 | .enum,.one _=>false
 | .zip,.one _=>false
 | _,_=>true
noncomputable def dg:Tg->aj
 | .one i=>[i]
 | .many is=>is
noncomputable def bt:Expr->Option Str
 | .Name x _=>some x
 | _=>none
noncomputable def fg:Expr->Option (Expr×List Expr×List Keyword×Pos)
 | .Call f a k p=>some (f,a,k,p)
 | _=>none
noncomputable def gp:Expr->Option (Expr×Str×Pos)
 | .Attribute o m p=>some (o,m,p)
 | _=>none
noncomputable def j7:Stmt->Option (List Expr×Expr×Pos)
 | .Assign a e p=>some (a,e,p)
 | _=>none
noncomputable def dG:ExceptHandler->Option Expr×Option Str×List Stmt×Pos
 | .ExceptHandler t n b p=>(t,n,b,p)
def fF (h:bt e=some x):∃p,e=.Name x p:=by
 cases e <;> first | exact (dN h).elim | exact⟨_,congrArg (λx=>Expr.Name x _) (cm h)⟩
def nX (h:fg e=some x):e=.Call x.1 x.2.1 x.2.2.1 x.2.2.2:=by
 cases e <;> first | exact (dN h).elim | exact congrArg (λx:Expr×List Expr×List Keyword×Pos=>Expr.Call x.1 x.2.1 x.2.2.1 x.2.2.2) (cm h)
def pW (h:gp e=some x):e=.Attribute x.1 x.2.1 x.2.2:=by
 cases e <;> first | exact (dN h).elim | exact congrArg (λx:Expr×Str×Pos=>Expr.Attribute x.1 x.2.1 x.2.2) (cm h)
def FE (h:j7 l=some x):l=.Assign x.1 x.2.1 x.2.2:=by
 cases l <;> first | exact (dN h).elim | exact congrArg (λx:List Expr×Expr×Pos=>Stmt.Assign x.1 x.2.1 x.2.2) (cm h)
def y8 (h:ExceptHandler):h=.ExceptHandler (dG h).1 (dG h).2.1 (dG h).2.2.1 (dG h).2.2.2:=by cases h; rfl
noncomputable def kA:Expr->Option (Expr×Expr×Pos)
 | .Subscript a i p=>some (a,i,p)
 | _=>none
def vZ (h:kA e=some x):e=.Subscript x.1 x.2.1 x.2.2:=by
 cases e <;> first | exact (dN h).elim | (cases h; rfl)
noncomputable def gK (e:Expr):Option (Str×Str):=(kA e).bind λt=>(bt t.1).bind λx=>(bt t.2.1).map λj=>(x,j)
def qP (h:gK e=some (x,j)):∃p1 p2 p3,e=.Subscript (.Name x p1) (.Name j p2) p3:=by
 obtain⟨t,g,i⟩:=cn h;obtain⟨n,k,c⟩:=cn i;obtain⟨o,l,m⟩:=cM c;cases m;obtain⟨p1,f⟩:=fF k;obtain⟨p2,d⟩:=fF l;exact⟨p1,p2,t.2.2,by rw[vZ g,f,d]⟩
noncomputable def kc:Expr->Option (List Expr×Nat×Pos)
 | .Tuple a k p=>some (a,k,p)
 | _=>none
def zA (h:kc e=some x):e=.Tuple x.1 x.2.1 x.2.2:=by
 cases e <;> first | exact (dN h).elim | (cases h; rfl)
noncomputable def ke (e:Expr):Option (Str×Str):=(gp e).bind λt=>(bt t.1).map λx=>(x,t.2.1)
def Ag (h:ke e=some (x,f)):∃p1 p2,e=.Attribute (.Name x p1) f p2:=by
 obtain⟨t,d,g⟩:=cn h;obtain⟨j,i,b⟩:=cM g;cases b;obtain⟨p1,c⟩:=fF i;exact⟨p1,t.2.2,by rw[pW d,c]⟩
noncomputable def iP (e:Expr):Option (Str×au):=(fg e).bind λt=>(bt t.1).bind λx=>if t.2.2.1.isEmpty=true then some (x,t.2.1) else none
def uq (h:iP e=some (x,a)):∃p1 p2,e=.Call (.Name x p1) a [] p2:=by
 obtain⟨t,g,i⟩:=cn h;obtain⟨k,j,b⟩:=cn i;by_cases c:t.2.2.1.isEmpty=true
 rotate_left
 .rw[if_neg c] at b; exact (dN b).elim
 rw[if_pos c] at b;cases b;obtain⟨p1,f⟩:=fF j;exact⟨p1,t.2.2.2,by rw[nX g,f,HN.mp c]⟩
noncomputable def l9:Expr->Bool
 | .ListComp _ _ _ _=>true
 | _=>false
noncomputable def ku (e:Expr):Option (Str×Str×Pos×List Expr×Pos):=(fg e).bind λc=>(gp c.1).bind λt=>(bt t.1).bind λx=>if c.2.2.1.isEmpty=true then some (x,t.2.1,t.2.2,c.2.1,c.2.2.2) else none
def zU (h:ku e=some (x,f,mp,a,cp)):∃p1,e=.Call (.Attribute (.Name x p1) f mp) a [] cp:=by
 obtain⟨t,j,k⟩:=cn h;obtain⟨u,l,g⟩:=cn k;obtain⟨n,m,b⟩:=cn g;by_cases c:t.2.2.1.isEmpty=true
 rotate_left
 .rw[if_neg c] at b; exact (dN b).elim
 rw[if_pos c] at b;cases b;obtain⟨p1,i⟩:=fF m;exact⟨p1,by rw[nX j,pW l,i,HN.mp c]⟩
noncomputable def mu (b:Scope)(f:Str)(a:Expr):Option Expr:=(iP a).bind λc=>if c.2.length=1/\(bi b c.1&&noStar c.2&&f == ("sorted" : Str)&&c.1 == ("set" : Str))=true then c.2.head? else none
def B7 (h:mu m f a=some b):∃e g,a=.Call (.Name "set" e) [b] [] g/\bi m "set" = true/\noStar [b]=true/\f = "sorted":=by
 unfold mu at h;obtain⟨c,q,d⟩:=cn h;obtain⟨e,g,p⟩:=uq q;by_cases i:c.2.length=1/\(bi m c.1&&noStar c.2&&f == ("sorted" : Str)&&c.1 == ("set" : Str))=true
 rotate_left
 .rw[if_neg i] at d; exact (dN d).elim
 rw[if_pos i] at d;obtain⟨r,k⟩:=i;obtain⟨x,ex⟩:=Hy.mp r;simp only[tw,GN] at k;obtain⟨⟨⟨n,j⟩,s⟩,l⟩:=k;rw[ex] at d j;have o:x=b:=cm d;subst o;rw[l] at n;exact⟨e,g,by rw[p,l,ex],n,j,s⟩
section
variable (T:Tb)
noncomputable def pv? (x:Str)(N:ar)(f:Nat->Ex):Ex:=match pos? x N with
 | some i=>f i
 | none=>.bad
noncomputable def lv (m:Str):Option Op:=if m == ("index" : Str) then some .index else none
noncomputable def gB:Ex->Bool
 | .var _=>true
 | .cst _=>true
 | _=>false
mutual
noncomputable def cE (r:Scope)(N:ar):Nat->Expr->Ex
 | 0,_=>.bad
 | n+1,.Name x _=>if bb r x&&aQ x then pv? x N .var else if bi r x then (match T.cst.lookup x with | some d=>.cst d | none=>.bad) else .bad
 | n+1,.Constant c _ _=>match c with
  | .none=>.cst .non
  | .bool b=>.cst (.bl b)
  | .int i=>.cst (.int i)
  | .str s=>.cst (.str s)
  | _=>.bad
 | n+1,.BinOp a o b _=>match pN o with
  | some o=>.op o [cE r N n a,cE r N n b]
  | none=>.bad
 | n+1,.UnaryOp o a _=>match o with
  | .Not=>.op .not [cE r N n a]
  | .USub=>.op .neg [cE r N n a]
  | _=>.bad
 | n+1,.BoolOp o t p=>match t with
  | []=>.bad
  | [a]=>cE r N n a
  | a::b::t=>match o with
   | .And=>.and (cE r N n a) (cE r N n (.BoolOp o (b::t) p))
   | .Or=>.or (cE r N n a) (cE r N n (.BoolOp o (b::t) p))
 | n+1,.Compare a os z _=>match os,z with
  | [o],[b]=>match o with
   | .Is=>if isNone b then .op .isN [cE r N n a] else .bad
   | .IsNot=>if isNone b then .op .notN [cE r N n a] else .bad
   | o=>match gE o with
    | some o=>if da b then .op o [cE r N n a,cE r N n b] else .bad
    | none=>.bad
  | [o,p],[b,c]=>match jo o,jo p with
   | some o,some p=>.chain o p (cE r N n a) (cE r N n b) (cE r N n c)
   | _,_=>.bad
  | _,_=>.bad
 | n+1,.List t _=>if t.length<=1000 then .op .lst (t.map (cE r N n)) else .bad
 | n+1,.Tuple t _ _=>if t.length<=1000 then .op .tup (t.map (cE r N n)) else .bad
 | n+1,.Subscript a i _=>match i with
  | .Slice lo B st _=>match lo,B,st with
   | some l,none,none=>.op .slL [cE r N n a,cE r N n l]
   | none,some l,none=>.op .slH [cE r N n a,cE r N n l]
   | some l,some h,none=>.sl2 (cE r N n a) (cE r N n l) (cE r N n h)
   | none,none,some s=>if h8 s then .op .rev [cE r N n a] else .bad
   | _,_,_=>.bad
  | i=>.op .ix [cE r N n a,cE r N n i]
 | n+1,.Attribute o f _=>match pos? f T.att with
  | some k=>if T.fl.contains k&&fK o then .op (.fld k) [cE r N n o] else .bad
  | none=>.bad
 | n+1,.ListComp e A j _=>match A with
  | [⟨y,iter,u,as⟩]=>
   if dm r N (aX j) (bm N j) j&&as == 0&&decide (u.length<=1) then
    match cY j (aX j) y with
    | some g=>if en (cI r N n iter).1 g&&(dg g).all (λi=>(bm N j)[i]? == some none) then
      .comp (bm N j) g (cI r N n iter).1 (cI r N n iter).2 (u.map (cT j (aX j) n)) (cE j (aX j) n e)
     else .bad
    | none=>.bad
   else .bad
  | _=>.bad
 | n+1,.Call f args v w=>match v with
  | []=>match f with
   | .Name f _=>if bi r f then
     match T.fns.lookup f with
     | some k=>if noStar args then .call k (args.map (cE r N n)) else .bad
     | none=>match T.cls.lookup f with
      | some c=>if noStar args then .make c (args.map (cE r N n)) else .bad
      | none=>cB r N n f args
    else .bad
   | .Attribute o m ap=>match pos? m T.att with
     | some k=>if fK o&&noStar args&&decide (args.length<30)&&ap.endLine == w.line then .meth k (cE r N n o) (args.map (cE r N n)) else .bad
     | none=>match args with
      | [a]=>match lv m with
       | some q=>if gB (cE r N n a)&&fK o&&noStar [a]&&ap.endLine == w.line then .op q [cE r N n o,cE r N n a] else .bad
       | none=>.bad
      | _=>.bad
   | _=>.bad
  | _=>.bad
 | _,_=>.bad
noncomputable def cT (c:Scope)(N:ar):Nat->Expr->Ex
 | 0,_=>.bad
 | n+1,.BoolOp o d p=>match d with
  | []=>.bad
  | [a]=>cT c N n a
  | a::b::d=>match o with
   | .And=>.and (cT c N n a) (cT c N n (.BoolOp o (b::d) p))
   | .Or=>.or (cT c N n a) (cT c N n (.BoolOp o (b::d) p))
 | n+1,.UnaryOp .Not a _=>.op .not [cT c N n a]
 | n+1,.IfExp _ _ _ _=>.bad
 | n+1,e=>cE c N n e
noncomputable def cB (c:Scope)(N:ar):Nat->Str->au->Ex
 | 0,_,_=>.bad
 | n+1,f,args=>match args with
  | [a]=>match mu c f a with
   | some b=>.op .srtSet [cE c N n b]
   | none=>match mX.lookup f with
    | some o=>.op o [cE c N n a]
    | none=>.bad
  | [a,b]=>if f == ("isinstance" : Str) then (match dZ T c b with
    | some d=>.op (.isi d) [cE c N n a]
    | none=>.bad)
   else .bad
  | _=>.bad
noncomputable def cI (c:Scope)(N:ar):Nat->Expr->Wk×aF
 | 0,_=>(.seq,[.bad])
 | n+1,e=>match e with
  | .Call (.Name f p) args [] q=>
   if bi c f&&f == ("range" : Str)&&noStar args then match args with
    | [a]=>(.rng1,[cE c N n a])
    | [a,b]=>(.rng2,[cE c N n a,cE c N n b])
    | _=>(.seq,[.bad])
   else if bi c f&&f == ("enumerate" : Str)&&noStar args then match args with
    | [a]=>(.enum,[cE c N n a])
    | _=>(.seq,[.bad])
   else if bi c f&&f == ("zip" : Str)&&noStar args then match args with
    | [a,b]=>(.zip,[cE c N n a,cE c N n b])
    | _=>(.seq,[.bad])
   else (.seq,[cE c N n (.Call (.Name f p) args [] q)])
  | e=>(.seq,[cE c N n e])
end
theorem zk a N n x p:cE T a N (n+1) (.Name x p)=if bb a x&&aQ x then pv? x N .var else if bi a x then (match T.cst.lookup x with | some d=>.cst d | none=>.bad) else .bad:=rfl
theorem pX d N n a os e p:cE T d N (n+1) (.Compare a os e p)=match os,e with
  | [o],[b]=>match o with
   | .Is=>if isNone b then .op .isN [cE T d N n a] else .bad
   | .IsNot=>if isNone b then .op .notN [cE T d N n a] else .bad
   | o=>match gE o with
    | some o=>if da b then .op o [cE T d N n a,cE T d N n b] else .bad
    | none=>.bad
  | [o,p],[b,c]=>match jo o,jo p with
   | some o,some p=>.chain o p (cE T d N n a) (cE T d N n b) (cE T d N n c)
   | _,_=>.bad
  | _,_=>.bad:=rfl
theorem Cf d N n c a b p:cE T d N (n+1) (.IfExp c a b p)=.bad:=rfl
theorem AZ b N n a p:cE T b N (n+1) (.List a p)=if a.length<=1000 then .op .lst (a.map (cE T b N n)) else .bad:=rfl
theorem CM b N n a k p:cE T b N (n+1) (.Tuple a k p)=if a.length<=1000 then .op .tup (a.map (cE T b N n)) else .bad:=rfl
theorem lx b N n a i p:cE T b N (n+1) (.Subscript a i p)=match i with
  | .Slice lo c st _=>match lo,c,st with
   | some l,none,none=>.op .slL [cE T b N n a,cE T b N n l]
   | none,some l,none=>.op .slH [cE T b N n a,cE T b N n l]
   | some l,some h,none=>.sl2 (cE T b N n a) (cE T b N n l) (cE T b N n h)
   | none,none,some s=>if h8 s then .op .rev [cE T b N n a] else .bad
   | _,_,_=>.bad
  | i=>.op .ix [cE T b N n a,cE T b N n i]:=rfl
theorem zV a N n o f p:cE T a N (n+1) (.Attribute o f p)=match pos? f T.att with
  | some k=>if T.fl.contains k&&fK o then .op (.fld k) [cE T a N n o] else .bad
  | none=>.bad:=rfl
theorem tY c N n e d a p:cE T c N (n+1) (.ListComp e d a p)=match d with
  | [⟨f,iter,b,as⟩]=>
   if dm c N (aX a) (bm N a) a&&as == 0&&decide (b.length<=1) then
    match cY a (aX a) f with
    | some g=>if en (cI T c N n iter).1 g&&(dg g).all (λi=>(bm N a)[i]? == some none) then
      .comp (bm N a) g (cI T c N n iter).1 (cI T c N n iter).2 (b.map (cT T a (aX a) n)) (cE T a (aX a) n e)
     else .bad
    | none=>.bad
   else .bad
  | _=>.bad:=rfl
theorem xm b N n f args d e:cE T b N (n+1) (.Call f args d e)=match d with
  | []=>match f with
   | .Name f _=>if bi b f then
     match T.fns.lookup f with
     | some k=>if noStar args then .call k (args.map (cE T b N n)) else .bad
     | none=>match T.cls.lookup f with
      | some c=>if noStar args then .make c (args.map (cE T b N n)) else .bad
      | none=>cB T b N n f args
    else .bad
   | .Attribute o m ap=>match pos? m T.att with
     | some k=>if fK o&&noStar args&&decide (args.length<30)&&ap.endLine == e.line then .meth k (cE T b N n o) (args.map (cE T b N n)) else .bad
     | none=>match args with
      | [a]=>match lv m with
       | some q=>if gB (cE T b N n a)&&fK o&&noStar [a]&&ap.endLine == e.line then .op q [cE T b N n o,cE T b N n a] else .bad
       | none=>.bad
      | _=>.bad
   | _=>.bad
  | _=>.bad:=rfl
theorem uI c N n f args:cB T c N (n+1) f args=match args with
  | [a]=>match mu c f a with
   | some b=>.op .srtSet [cE T c N n b]
   | none=>match mX.lookup f with
    | some o=>.op o [cE T c N n a]
    | none=>.bad
  | [a,b]=>if f == ("isinstance" : Str) then (match dZ T c b with
    | some d=>.op (.isi d) [cE T c N n a]
    | none=>.bad)
   else .bad
  | _=>.bad:=rfl
theorem Gb c N n e:cI T c N (n+1) e=match e with
  | .Call (.Name f p) args [] q=>
   if bi c f&&f == ("range" : Str)&&noStar args then match args with
    | [a]=>(.rng1,[cE T c N n a])
    | [a,b]=>(.rng2,[cE T c N n a,cE T c N n b])
    | _=>(.seq,[.bad])
   else if bi c f&&f == ("enumerate" : Str)&&noStar args then match args with
    | [a]=>(.enum,[cE T c N n a])
    | _=>(.seq,[.bad])
   else if bi c f&&f == ("zip" : Str)&&noStar args then match args with
    | [a,b]=>(.zip,[cE T c N n a,cE T c N n b])
    | _=>(.seq,[.bad])
   else (.seq,[cE T c N n (.Call (.Name f p) args [] q)])
  | e=>(.seq,[cE T c N n e]):=rfl
noncomputable def v6 (x:Str)(a:Scope):Bool:=bi a x&&x == T.wb
noncomputable def pc? (x:Str)(f:Nat->S):S:=match T.cls.lookup x with
 | some i=>f i
 | none=>.bad
noncomputable def ps? (x:Str)(N:ar)(f:Nat->S):S:=match pos? x N with
 | some i=>f i
 | none=>.bad
noncomputable def iQ (hs:List ExceptHandler):Option (Str×Str×Str×Str):=if hs.length=1 then
 (hs.head?.map dG).bind λh=>h.1.bind λb=>(bt b).bind λc=>h.2.1.bind λe=>if h.2.2.1.length=1 then (h.2.2.1.head?.bind j7).bind λa=>if a.1.length=1 then (a.1.head?.bind bt).bind λx=>(bt a.2.1).bind λy=>some (c,e,x,y) else none else none
 else none
def yZ (h:iQ hs=some (c,e,x,y)):∃g k i v u,hs=[.ExceptHandler (some (.Name c g)) (some e) [.Assign [.Name x k] (.Name y i) v] u]:=by
 unfold iQ at h;by_cases l:hs.length=1
 rotate_left
 .rw[if_neg l] at h; exact (dN h).elim
 rw[if_pos l] at h;obtain⟨hd,rfl⟩:=Hy.mp l;obtain⟨q,C,H⟩:=cn h;obtain rfl:dG hd=q:=cm C;obtain⟨X,I,B⟩:=cn H;obtain⟨P,L,N⟩:=cn B;obtain⟨W,J,b⟩:=cn N;by_cases f:(dG hd).2.2.1.length=1
 rotate_left
 .rw[if_neg f] at b; exact (dN b).elim
 rw[if_pos f] at b;obtain⟨s,n⟩:=Hy.mp f;rw[n] at b;obtain⟨a,r,d⟩:=cn b;have p:=FE (show j7 s=some a from r);by_cases j:a.1.length=1
 rotate_left
 .rw[if_neg j] at d; exact (dN d).elim
 rw[if_pos j] at d;obtain⟨t,m⟩:=Hy.mp j;rw[m] at d;obtain⟨Q,A,E⟩:=cn d;obtain⟨U,w,F⟩:=cn E;cases F;obtain⟨g,z⟩:=fF L;obtain⟨k,M⟩:=fF (show bt t=some x from A);obtain⟨i,G⟩:=fF w;refine⟨g,k,i,a.2.2,(dG hd).2.2.2,?_⟩;have o:=y8 hd;rw[I,J,n,p,m,z,M,G] at o;exact congrArg (λh=>[h]) o
noncomputable def fO:Expr->Bool
 | .Call _ _ _ _=>true
 | .Name _ _=>true
 | _=>false
noncomputable def ky (a:Scope)(N:ar)(n:Nat)(b:au)(e:Expr):S:=match b with
 | []=>.bad
 | t::r=>if r.isEmpty=true then (match bt t with
  | some x=>if bx a x then ps? x N λi=>.set i (cE T a N n e) else .bad
  | none=>match gK t with
   | some (x,j)=>if bb a x&&aQ x&&bb a j&&aQ j then ps? x N λk=>ps? j N λi=>.put k [] (.var i) (cE T a N n e) else .bad
   | none=>match ke t with
    | some (x,f)=>if bb a x&&aQ x then ps? x N λk=>ps? f T.att λj=>if T.fl.contains j then .sfld k j (cE T a N n e) else .bad else .bad
    | none=>match kc t with
     | some _=>if fO e then (match cY a N t with
      | some (.many is)=>.setT is (cE T a N n e)
      | _=>.bad) else .bad
     | none=>.bad) else .bad
noncomputable def mi (c:Scope)(N:ar)(n:Nat)(x:Str)(mp b:Pos)(args:au):S:=match args with
 | [a]=>if noStar [a]&&mp.endLine == b.line then ps? x N λi=>.mut i [] .append [cE T c N n a] else .bad
 | _=>.bad
noncomputable def nh (c:Scope)(N:ar)(n:Nat)(x:Str)(mp b:Pos)(args:au):S:=match args with
 | [a]=>if noStar [a]&&mp.endLine == b.line then ps? x N λi=>.mut i [] .extend [cE T c N n a] else .bad
 | _=>.bad
noncomputable def mP (b:Scope)(N:ar)(n:Nat)(mp c:Pos)(args:au):S:=match args with
 | []=>.bad
 | a::as=>if noStar (a::as)&&decide (as.length<29)&&mp.endLine == c.line then .xinit ((a::as).map (cE T b N n)) else .bad
noncomputable def gW (e:Expr):Option (Str×ar):=match gK e with
 | some (x,i)=>some (x,[i])
 | none=>(kA e).bind λt=>(gK t.1).bind λu=>(bt t.2.1).map λj=>(u.1,[u.2,j])
inductive Pth:Expr->Str->ar->Prop
 | one {x i:Str} {p1 p2 p3:Pos}:Pth (.Subscript (.Name x p1) (.Name i p2) p3) x [i]
 | two {x i j:Str} {p1 p2 p3 p4 p5:Pos}:Pth (.Subscript (.Subscript (.Name x p1) (.Name i p2) p3) (.Name j p4) p5) x [i,j]
def Ej (h:gW e=some (x,is)):Pth e x is:=by
 unfold gW at h;cases q:gK e with
 | some u=>
  obtain⟨p,i⟩:=u;rw[q] at h;cases h;obtain⟨f,k,o,a⟩:=qP q;rw[a]; exact .one
 | none=>
  rw[q] at h;obtain⟨t,g,l⟩:=cn h;obtain⟨u,m,b⟩:=cn l;obtain⟨j,n,d⟩:=cM b;cases d;obtain⟨f,k,o,c⟩:=qP m;obtain⟨r,a⟩:=fF n;rw[vZ g,c,a]; exact .two
noncomputable def kD (a:au):Option Str:=if a.length=1 then a.head?.bind bt else none
def GA (h:kD b=some y):∃p,b=[.Name y p]:=by
 unfold kD at h;split at h
 .rename_i c;obtain⟨a,rfl⟩:=Hy.mp c;obtain⟨p,e⟩:=fF (show bt a=some y from h);exact⟨p,by rw[e]⟩
 .cases h
noncomputable def cO (a:Scope)(x:Str):Bool:=bb a x&&aQ x
noncomputable def pe (a:Scope)(e:Expr):Option (Str×List Str×Bool×Str):=(fg e).bind λc=>(gp c.1).bind λt=>(gW t.1).bind λu=>(kD c.2.1).bind λy=>
 if (cO a u.1&&u.2.all (cO a)&&cO a y&&c.2.2.1.isEmpty&&t.2.2.endLine == c.2.2.2.line&&(t.2.1 == ("append" : Str)||t.2.1 == ("remove" : Str)))=true then some (u.1,u.2,t.2.1 == ("remove" : Str),y) else none
def zn (h:pe d e=some (x,is,rm,y)):∃b f k j g,e=.Call (.Attribute b f k) [.Name y g] [] j/\Pth b x is/\cO d x=true/\(∀i∈is,cO d i=true)/\cO d y=true/\(k.endLine == j.line)=true/\((f = "append" /\ rm=false)\/(f = "remove" /\ rm=true)):=by
 unfold pe at h;obtain⟨c,p,s⟩:=cn h;obtain⟨t,v,n⟩:=cn s;obtain⟨u,C,G⟩:=cn n;obtain⟨z,B,a⟩:=cn G;split at a
 .rename_i l;cases a;simp only[tw,G6,List.all_eq_true] at l;obtain⟨⟨⟨⟨⟨E,m⟩,w⟩,o⟩,r⟩,A⟩:=l;obtain⟨g,F⟩:=GA B;refine⟨t.1,t.2.1,t.2.2,c.2.2.2,g,by rw[nX p,pW v,F,HN.mp o],Ej C,E,m,w,r,?_⟩;rcases A with q | q
  .have e:t.2.1 = "append":=by simpa using q
   rw[e]; exact .inl ⟨rfl,rfl⟩
  .have e:t.2.1 = "remove":=by simpa using q
   rw[e]; exact .inr ⟨rfl,rfl⟩
 .cases a
noncomputable def gz (N:ar):ar->Option aj
 | []=>some []
 | x::a=>(pos? x N).bind λi=>(gz N a).map λis=>i::is
noncomputable def uN (N:ar)(x:Str)(is:ar)(rm:Bool)(y:Str):S:=ps? x N λa=>ps? y N λc=>match gz N is with
 | some b=>.nest a b rm c
 | none=>.bad
noncomputable def iO (a:Scope)(e:Expr):Option (Nat×Str×au):=(fg e).bind λc=>(bt c.1).bind λf=>(T.fns.lookup f).bind λk=>(c.2.1.head?.bind bt).bind λx=>
 if (T.rf.contains k&&bi a f&&cO a x&&noStar c.2.1.tail&&c.2.2.1.isEmpty)=true then some (k,x,c.2.1.tail) else none
def Ao (h:iO T l e=some (k,x,as)):∃f p g y,e=.Call (.Name f p) (.Name x g::as) [] y/\T.fns.lookup f=some k/\bi l f=true/\cO l x=true/\noStar as=true:=by
 unfold iO at h;obtain⟨c,v,z⟩:=cn h;obtain⟨f,A,o⟩:=cn z;obtain⟨H,E,F⟩:=cn o;obtain⟨G,C,i⟩:=cn F;obtain⟨a,d,u⟩:=cn C;split at i
 .rename_i m;cases i;simp only[tw] at m;obtain⟨⟨⟨⟨_,n⟩,B⟩,s⟩,w⟩:=m;obtain⟨p,t⟩:=fF A;obtain⟨g,q⟩:=fF u;refine⟨f,p,g,c.2.2.2,?_,E,n,B,s⟩;have:c.2.1=a::c.2.1.tail:=by
   cases j:c.2.1 with
   | nil=>rw[j] at d; cases d
   | cons b r=>rw[j] at d; cases d; rfl
  rw[nX v,t,HN.mp w,<-q,<-this]
 .cases i
noncomputable def mU (c:Scope)(N:ar)(n:Nat)(x:Str)(mp d:Pos)(args:au):S:=match args with
 | [a,b]=>match bt b with
  | some y=>if noStar [a,b]&&mp.endLine == d.line&&bb c y&&aQ y then ps? x N λi=>ps? y N λj=>.mut i [] .insert [cE T c N n a,.var j] else .bad
  | none=>.bad
 | _=>.bad
noncomputable def jT (a:Scope)(N:ar)(n:Nat)(e:Expr):S:=match ku e with
 | some (x,m,mp,args,b)=>
  if bb a x&&aQ x&&m == ("append" : Str) then mi T a N n x mp b args
  else if bb a x&&aQ x&&m == ("extend" : Str) then nh T a N n x mp b args
  else if bb a x&&aQ x&&m == ("insert" : Str) then mU T a N n x mp b args
  else if v6 T x a&&m == ("__init__" : Str) then mP T a N n mp b args
  else .ex (cE T a N n e)
 | none=>if l9 e then .bad else match pe a e with
  | some (x,is,rm,y)=>uN N x is rm y
  | none=>match iO T a e with
   | some (k,x,as)=>ps? x N λi=>.byref k i (as.map (cE T a N n))
   | none=>.ex (cE T a N n e)
noncomputable def pj:Ex->Bool
 | .var _=>true
 | _=>false
noncomputable def jR (a:Scope)(N:ar)(n:Nat)(o:Option Expr):S:=match o with
 | none=>.ret (.cst .non)
 | some e=>match bt e with
  | some x=>if bb a x&&aQ x then ps? x N λi=>.ret (.var i) else .bad
  | none=>if pj (cE T a N n e) then .bad else .ret (cE T a N n e)
noncomputable def j6 (a:Scope)(N:ar)(n:Nat)(f d:Expr)(b c:aG)(e:ay):S:=match c with
 | _::_=>.bad
 | []=>match cY a N f with
   | some g=>if en (cI T a N n d).1 g then .fo g (cI T a N n d).1 (cI T a N n d).2 e else .bad
   | none=>.bad
noncomputable def ko (a:Scope)(N:ar)(n:Nat)(e c:Option Expr):S:=match c with
 | some _=>.bad
 | none=>match e with
  | none=>.bad
  | some e=>match iP e with
   | some (x,args)=>if bi a x&&noStar args then (match T.bare.lookup x with
     | some c=>if args.isEmpty then .raisV c else .bad
     | none=>pc? T x λc=>.rais c (args.map (cE T a N n))) else .bad
   | none=>.bad
noncomputable def kq (b:Scope)(N:ar)(hs:List ExceptHandler)(a fin:aG)(d:ay):S:=match iQ hs with
 | some (c,e,x,y)=>
  if a.isEmpty=true/\fin.isEmpty=true/\(bi b c&&c == T.wb&&y == e&&aQ e&&bx b x&&b.names.lookup e == some .local)=true then pc? T c λk=>ps? e N λi=>ps? x N λj=>.tryE d k i j else .bad
 | none=>.bad
noncomputable def cS (d:Scope)(N:ar):Nat->Stmt->S
 | 0,_=>.bad
 | n+1,.Assign i e _=>ky T d N n i e
 | n+1,.Expr e _=>jT T d N n e
 | n+1,.Return o _=>jR T d N n o
 | n+1,.If c a b _=>.iff (cT T d N n c) (a.map (cS d N n)) (b.map (cS d N n))
 | n+1,.For h g b f _=>j6 T d N n h g b f (b.map (cS d N n))
 | n+1,.Raise e c _=>ko T d N n e c
 | n+1,.Try b hs f fin _=>kq T d N hs f fin (b.map (cS d N n))
 | _,_=>.bad
theorem CD b N n a e p:cS T b N (n+1) (.Assign a e p)=ky T b N n a e:=rfl
theorem EA a N n e p:cS T a N (n+1) (.Expr e p)=jT T a N n e:=rfl
theorem Eb a N n o p:cS T a N (n+1) (.Return o p)=jR T a N n o:=rfl
theorem EG c N n e d b a p:cS T c N (n+1) (.For e d b a p)=j6 T c N n e d b a (b.map (cS T c N n)):=rfl
theorem EJ a N n e c p:cS T a N (n+1) (.Raise e c p)=ko T a N n e c:=rfl
theorem xI c N n b hs a fin p:cS T c N (n+1) (.Try b hs a fin p)=kq T c N hs a fin (b.map (cS T c N n)):=rfl
noncomputable def sv:Expr->Option D
 | .Constant .none _ _=>some .non
 | .Constant (.bool b) _ _=>some (.bl b)
 | .Constant (.int i) _ _=>some (.int i)
 | .Constant (.str s) _ _=>some (.str s)
 | _=>none
noncomputable def fk (a:Arguments)(sc:Scope):ar:=
 let ps:=a.args.map (·.arg)
 ps++((sc.names.filter λy=>(y.2 == .local||y.2 == .cell)&&!ps.contains y.1).map (·.1))
noncomputable def cF (io:aj):Stmt->Option Fn
 | .FunctionDef _ a body [] _ _ b _ _ _=>(a.defaults.mapM sv).map λc=>⟨a.args.length,io,(fk a b).length,c,body.map (cS T b (fk a b) 60)⟩
 | _=>none
end
end Ip
namespace L2
open PySem PySem.Spec PyProof.Rows
open Ip (D KD Ex Op Pg Fn Sl Fr Wk Tg Tb)
structure Wd where
 K:bh
 iA:Nat->aE
 xA:Nat->aE
 att:ar
def Sub (S H:Hp):Prop:=∀a o,S a=some o->H a=some o
def Sub.refl H:Sub H H:=λ_ _ h=>h
def Sub.trans {A B C:Hp}(h:Sub A B)(k:Sub B C):Sub A C:=λa o e=>k a o (h a o e)
theorem Sub.upd {H:Hp}{a:Addr}{o:HO}(h:H a=none):Sub H (upd H a o):=λb u e=>by
 rw[bE (λz=>by rw[z,h] at e; cases e)]; exact e
theorem Sub.none {A B:Hp}(h:Sub A B){a:Addr}(e:B a=none):A a=none:=by
 cases q:A a with
 | none=>rfl
 | some o=>rw[h a o q] at e; cases e
open Classical in
noncomputable def hid (N:Addr->Prop)(H:Hp):Hp:=λa=>if N a then none else H a
def aU {N:Addr->Prop}{H:Hp}{a:Addr}{o:HO}:hid N H a=some o↔¬N a/\H a=some o:=by
 unfold hid;by_cases h:N a
 .simp[h]
 .simp[h]
def bN {N:Addr->Prop}{H:Hp}:Sub (hid N H) H:=λ_ _ e=>(aU.mp e).2
def gM {N b:Addr->Prop}{H d:Hp}(h:Sub H d)(n:∀a,b a->N a\/H a=none):Sub (hid N H) (hid b d):=λa o e=>by
 obtain⟨f,c⟩:=aU.mp e;refine aU.mpr ⟨λz=>?_,h a o c⟩;rcases n a z with q | q
 .exact f q
 .rw[c] at q; cases q
theorem Rd.sub {S H:Hp}{a:Addr}{u:HO}(h:Sub S H):Rd S a u->Rd H a u
 | .inl e=>.inl (h _ _ e)
 | .inr ⟨o,e⟩=>.inr ⟨o,h _ _ e⟩
theorem SqL.sub {K:bh}{S H:Hp}{a:Addr}{xs:av}(h:Sub S H):SqL K S a xs->SqL K H a xs:=by
 intro hZ;cases hZ with
 | inl e=>exact .inl (Rd.sub h e)
 | inr e=>exact .inr e
theorem SqT.sub {K:bh}{S H:Hp}{a:Addr}{xs:av}(h:Sub S H):SqT K S a xs->SqT K H a xs:=by
 intro hZ;cases hZ with
 | inl e=>exact .inl (Rd.sub h e)
 | inr e=>exact .inr e
mutual
inductive Den (W:Wd) (S:Hp):V->D->Prop
 | non:Den W S .non .non
 | bl {b:Bool}:Den W S (.bl b) (.bl b)
 | int {i:Int}:Den W S (.int i) (.int i)
 | str {s:Str}:Den W S (.str s) (.str s)
 | lst {a:Addr} {vs:av} {ds:ax} (h:Rd S a (.lst vs)) (q:Dens W S vs ds):Den W S (.ref a) (.lst ds)
 | tup {a:Addr} {vs:av} {ds:ax} (h:SqT W.K S a vs) (q:Dens W S vs ds):Den W S (.ref a) (.tup ds)
 | ins {a C dx:Addr} {c:Nat} {fs:List (Str×V)} {ds:List aH} (h:S a=some (.ins C dx fs)) (hc:W.iA c=some C) (q:DenF W S fs ds):Den W S (.ref a) (.ins c ds)
 | exc {a C:Addr} {nw:Bool} {c:Nat} {fs:List (Str×V)} {ds:List aH} (h:S a=some (.exc C nw fs)) (hc:W.xA c=some C) (q:DenF W S fs ds):Den W S (.ref a) (.exc c ds)
inductive Dens (W:Wd) (S:Hp):av->ax->Prop
 | nil:Dens W S [] []
 | cons {v:V} {d:D} {vs:av} {ds:ax} (h:Den W S v d) (q:Dens W S vs ds):Dens W S (v::vs) (d::ds)
inductive DenF (W:Wd) (S:Hp):List (Str×V)->List aH->Prop
 | nil:DenF W S [] []
 | cons {n:Str} {f:Nat} {v:V} {d:D} {vs:List (Str×V)} {ds:List aH} (hf:W.att[f]? = some n) (h:Den W S v d) (q:DenF W S vs ds):DenF W S ((n,v)::vs) ((f,d)::ds)
end
mutual
theorem Den.mono {W:Wd}{S H:Hp}(h:Sub S H):∀{v d},Den W S v d->Den W H v d:=by
 intro _ _ hZ;cases hZ with
 | non=>exact .non
 | bl=>exact .bl
 | int=>exact .int
 | str=>exact .str
 | lst e q=>exact .lst (Rd.sub h e) (q.mono h)
 | tup e q=>exact .tup (SqT.sub h e) (q.mono h)
 | ins e a q=>exact .ins (h _ _ e) a (q.mono h)
 | exc e a q=>exact .exc (h _ _ e) a (q.mono h)
theorem Dens.mono {W:Wd}{S H:Hp}(h:Sub S H):∀{v d},Dens W S v d->Dens W H v d:=by
 intro _ _ hZ;cases hZ with
 | nil=>exact .nil
 | cons e q=>exact .cons (e.mono h) (q.mono h)
theorem DenF.mono {W:Wd}{S H:Hp}(h:Sub S H):∀{v d},DenF W S v d->DenF W H v d:=by
 intro _ _ hZ;cases hZ with
 | nil=>exact .nil
 | cons f e q=>exact .cons f (e.mono h) (q.mono h)
end
theorem Dens.length {W:Wd}{S:Hp}:∀{vs ds},Dens W S vs ds->vs.length=ds.length:=by
 intro _ _ hZ;cases hZ with
 | nil=>exact rfl
 | cons _ q=>rw[List.length_cons,List.length_cons,q.length]
theorem Dens.get {W:Wd}{S:Hp}:∀{a b} {i:Nat} {d:D},Dens W S a b->b[i]? = some d->∃v,a[i]? = some v/\Den W S v d
 | _,_,_,_,.nil,e=>by simp at e
 | _,_,0,_,.cons h _,e=>by simp at e; subst e; exact⟨_,rfl,h⟩
 | _,_,i+1,_,.cons _ q,e=>by simpa using q.get (i:=i) (by simpa using e)
theorem Dens.append {W:Wd}{S:Hp}:∀{vs c a b},Dens W S vs a->Dens W S c b->Dens W S (vs++c) (a++b):=by
 intro _ _ _ _ hZ;cases hZ with
 | nil=>exact λq=>q
 | cons h t=>exact λq=>.cons h (t.append q)
theorem Dens.take {W:Wd}{S:Hp}:∀{vs a} (n:Nat),Dens W S vs a->Dens W S (vs.take n) (a.take n)
 | _,_,0,_=>.nil
 | _,_,_+1,.nil=>.nil
 | _,_,n+1,.cons h t=>.cons h (t.take n)
theorem Dens.drop {W:Wd}{S:Hp}:∀{vs ds} (n:Nat),Dens W S vs ds->Dens W S (vs.drop n) (ds.drop n)
 | _,_,0,h=>h
 | _,_,_+1,.nil=>.nil
 | _,_,n+1,.cons _ t=>t.drop n
theorem Dens.set {W:Wd}{S:Hp}{v:V}{d:D}(r:Den W S v d):∀{vs ds} (i:Nat),Dens W S vs ds->Dens W S (vs.set i v) (ds.set i d)
 | _,_,_,.nil=>.nil
 | _,_,0,.cons _ t=>.cons r t
 | _,_,i+1,.cons q t=>.cons q (t.set r i)
theorem DenF.length {W:Wd}{S:Hp}:∀{vs ds},DenF W S vs ds->vs.length=ds.length:=by
 intro _ _ hZ;cases hZ with
 | nil=>exact rfl
 | cons _ _ q=>rw[List.length_cons,List.length_cons,q.length]
def rN {l:ar}(a:l.Nodup){i j:Nat}{x:Str}(h:l[i]? = some x)(k:l[j]? = some x):i=j:=n0 a h k
theorem DenF.lookup {W:Wd}{S:Hp}(j:W.att.Nodup){f:Nat}{n:Str}(c:W.att[f]? = some n):∀{a b},DenF W S a b->(∀d,b.lookup f=some d->∃v,a.lookup n=some v/\Den W S v d)/\(b.lookup f=none->a.lookup n=none):=by
 intro _ _ hZ;cases hZ with
 | nil=>exact⟨(λ_ e=>nomatch e),λ_=>rfl⟩
 | @cons m g _ _ _ _ i h q=>
  obtain⟨o,k⟩:=q.lookup j c;by_cases e:g=f
  .subst e;have:m=n:=by rw[c] at i; exact (cm i).symm
   subst this;simp only[List.lookup_cons,beq_self_eq_true];exact⟨λd z=>⟨_,rfl,by cases cm z; exact h⟩,λz=>nomatch z⟩
  .have l:n≠m:=λz=>e (rN j i (by rw[<-z]; exact c));have b1:(f == g)=false:=by simpa using λz=>e (Eq.symm z)
   have b2:(n == m)=false:=by simpa using l
   simp only[List.lookup_cons,b1,b2];exact⟨o,k⟩
theorem DenF.put {W:Wd}{S:Hp}(c:W.att.Nodup){f:Nat}{n:Str}{v:V}{d:D}(b:W.att[f]? = some n)(r:Den W S v d):∀{vs i},DenF W S vs i->DenF W S (putF n v vs) (Ip.putF f d i):=by
 intro _ _ hZ;cases hZ with
 | nil=>exact .cons b r .nil
 | @cons m g _ _ _ _ a h q=>
  unfold putF Ip.putF;by_cases e:g=f
  .subst e;have:m=n:=by rw[b] at a; exact (cm a).symm
   subst this;rw[if_pos rfl,if_pos rfl];exact .cons a r q
  .have j:m≠n:=λz=>e (rN c a (by rw[z]; exact b));rw[if_neg e,if_neg j];exact .cons a h (q.put c b r)
inductive OwnL (P:V->D->al->Prop):av->ax->al->Prop
 | nil:OwnL P [] [] []
 | cons {v:V} {d:D} {f:al} {vs:av} {ds:ax} {g:al} (h:P v d f) (q:OwnL P vs ds g):OwnL P (v::vs) (d::ds) (f++g)
inductive OwnF (att:ar) (P:V->D->al->Prop):List (Str×V)->List aH->al->Prop
 | nil:OwnF att P [] [] []
 | cons {n:Str} {i:Nat} {v:V} {d:D} {f:al} {vs:List (Str×V)} {ds:List aH} {g:al} (hf:att[i]? = some n) (h:P v d f) (q:OwnF att P vs ds g):OwnF att P ((n,v)::vs) ((i,d)::ds) (f++g)
def OwnL.imp {P Q:V->D->al->Prop}:∀{vs c b},OwnL P vs c b->(∀v d f,(∀a∈f,a∈b)->P v d f->Q v d f)->OwnL Q vs c b:=by
 intro _ _ _ hZ;induction hZ with
 | nil=>exact λ_=>.nil
 | cons h q O=>exact λk=>.cons (k _ _ _ (λ_ z=>ev _ z) h) (O λv d f z=>k v d f λa y=>cx _ (z a y))
def OwnF.imp {att:ar}{P Q:V->D->al->Prop}:∀{vs c b},OwnF att P vs c b->(∀v d f,(∀a∈f,a∈b)->P v d f->Q v d f)->OwnF att Q vs c b:=by
 intro _ _ _ hZ;induction hZ with
 | nil=>exact λ_=>.nil
 | cons e h q O=>exact λk=>.cons e (k _ _ _ (λ_ z=>ev _ z) h) (O λv d f z=>k v d f λa y=>cx _ (z a y))
def OwnL.dens {W:Wd}{T:Hp}{P:V->D->al->Prop}:∀{b c fp},OwnL P b c fp->(∀v d f,(∀a∈f,a∈fp)->P v d f->Den W T v d)->Dens W T b c:=by
 intro _ _ _ hZ;induction hZ with
 | nil=>exact λ_=>.nil
 | cons h q O=>exact λk=>.cons (k _ _ _ (λ_ z=>ev _ z) h) (O λv d f z=>k v d f λa y=>cx _ (z a y))
def OwnF.dens {W:Wd}{T:Hp}{P:V->D->al->Prop}:∀{b c fp},OwnF W.att P b c fp->(∀v d f,(∀a∈f,a∈fp)->P v d f->Den W T v d)->DenF W T b c:=by
 intro _ _ _ hZ;induction hZ with
 | nil=>exact λ_=>.nil
 | cons e h q O=>exact λk=>.cons e (k _ _ _ (λ_ z=>ev _ z) h) (O λv d f z=>k v d f λa y=>cx _ (z a y))
theorem OwnL.length {P:V->D->al->Prop}:∀{vs ds fp},OwnL P vs ds fp->vs.length=ds.length:=by
 intro _ _ _ hZ;induction hZ with
 | nil=>exact rfl
 | cons _ q O=>rw[List.length_cons,List.length_cons,O]
noncomputable def Own (W:Wd)(S H:Hp):Nat->V->D->al->Prop
 | 0,v,d,b=>b=[]/\Den W S v d
 | k+1,v,.lst f,b=>∃a g e,v=.ref a/\H a=some (.lst g)/\OwnL (Own W S H k) g f e/\b=a::e
 | k+1,v,.tup f,b=>∃a g,v=.ref a/\SqT W.K S a g/\OwnL (Own W S H k) g f b
 | k+1,v,.ins c f,b=>∃a C j h e,v=.ref a/\H a=some (.ins C j h)/\W.iA c=some C/\OwnF W.att (Own W S H k) h f e/\b=a::e
 | k+1,v,.exc c f,b=>∃a C i h e,v=.ref a/\H a=some (.exc C i h)/\(W.xA c=some C/\i=true)/\OwnF W.att (Own W S H k) h f e/\b=a::e
 | _+1,v,d,b=>b=[]/\Den W S v d
theorem Own.mono {W:Wd}{S t H u:Hp}(hs:Sub S t):∀{k v d fp},(∀a∈fp,∀o,H a=some o->u a=some o)->Own W S H k v d fp->Own W t u k v d fp:=by
 intro k;induction k with
 | zero=>exact λ_ h=>⟨h.1,h.2.mono hs⟩
 | succ k o=>
  intro v d w f h;cases d with
  | lst q=>obtain⟨a,n,m,j,i,l,e⟩:=h; exact⟨a,n,m,j,f a (by rw[e]; exact bP) _ i,l.imp λ_ _ _ z y=>o (λb g=>f b (by rw[e]; exact bK _ (z b g))) y,e⟩
  | tup q=>obtain⟨a,n,j,i,l⟩:=h; exact⟨a,n,j,SqT.sub hs i,l.imp λ_ _ _ z y=>o (λb g=>f b (z b g)) y⟩
  | ins c q=>obtain⟨a,C,r,s,m,j,i,p,l,e⟩:=h; exact⟨a,C,r,s,m,j,f a (by rw[e]; exact bP) _ i,p,l.imp λ_ _ _ z y=>o (λb g=>f b (by rw[e]; exact bK _ (z b g))) y,e⟩
  | exc c q=>obtain⟨a,C,r,s,m,j,i,p,l,e⟩:=h; exact⟨a,C,r,s,m,j,f a (by rw[e]; exact bP) _ i,p,l.imp λ_ _ _ z y=>o (λb g=>f b (by rw[e]; exact bK _ (z b g))) y,e⟩
  | _=>exact⟨h.1,h.2.mono hs⟩
def Own.den {W:Wd}{S H T:Hp}(hs:Sub S T):∀{k v d p},(∀a∈p,∀o,H a=some o->T a=some o)->Own W S H k v d p->Den W T v d:=by
 intro k;induction k with
 | zero=>exact λ_ h=>h.2.mono hs
 | succ k o=>
  intro v d w e h;cases d with
  | lst n=>obtain⟨a,r,q,rfl,i,l,f⟩:=h; exact .lst (.inl (e a (by rw[f]; exact bP) _ i)) (l.dens λ_ _ _ z y=>o (λb g=>e b (by rw[f]; exact bK _ (z b g))) y)
  | tup n=>obtain⟨a,r,rfl,i,l⟩:=h; exact .tup (SqT.sub hs i) (l.dens λ_ _ _ z y=>o (λb g=>e b (z b g)) y)
  | ins c n=>obtain⟨a,C,s,t,q,rfl,i,m,l,f⟩:=h; exact .ins (e a (by rw[f]; exact bP) _ i) m (l.dens λ_ _ _ z y=>o (λb g=>e b (by rw[f]; exact bK _ (z b g))) y)
  | exc c n=>obtain⟨a,C,s,t,q,rfl,i,m,l,f⟩:=h; exact .exc (e a (by rw[f]; exact bP) _ i) m.1 (l.dens λ_ _ _ z y=>o (λb g=>e b (by rw[f]; exact bK _ (z b g))) y)
  | _=>exact h.2.mono hs
def OwnL.mem {P:V->D->al->Prop}{R:Addr->Prop}(b:∀v d f,P v d f->∀a∈f,R a):∀{e g c},OwnL P e g c->∀a∈c,R a:=by
 intro _ _ _ hZ;induction hZ with
 | nil=>intro _ z; simp at z
 | cons h q O=>exact λa z=>(dL z).elim (b _ _ _ h a) (O a)
def OwnF.mem {b:ar}{P:V->D->al->Prop}{R:Addr->Prop}(c:∀v d f,P v d f->∀a∈f,R a):∀{g i e},OwnF b P g i e->∀a∈e,R a:=by
 intro _ _ _ hZ;induction hZ with
 | nil=>intro _ z; simp at z
 | cons _ h q O=>exact λa z=>(dL z).elim (c _ _ _ h a) (O a)
def Own.dom {W:Wd}{S H:Hp}:∀{k v d fp},Own W S H k v d fp->∀a∈fp,H a≠none:=by
 intro k;induction k with
 | zero=>intro _ _ _ h a z; rw[h.1] at z; simp at z
 | succ k o=>
  intro v d w h b z;cases d with
  | lst j=>
   obtain⟨a,m,l,i,f,e,g⟩:=h;rw[g] at z;rcases ck z with q | q
   .rw[q,f]; simp
   .exact e.mem (λ_ _ _ y=>o y) b q
  | tup j=>obtain⟨a,m,i,f,e⟩:=h; exact e.mem (λ_ _ _ y=>o y) b z
  | ins c j=>
   obtain⟨a,C,_,p,l,i,f,n,e,g⟩:=h;rw[g] at z;rcases ck z with q | q
   .rw[q,f]; simp
   .exact e.mem (λ_ _ _ y=>o y) b q
  | exc c j=>
   obtain⟨a,C,_,p,l,i,f,n,e,g⟩:=h;rw[g] at z;rcases ck z with q | q
   .rw[q,f]; simp
   .exact e.mem (λ_ _ _ y=>o y) b q
  | _=>rw[h.1] at z; simp at z
theorem OwnL.flat {W:Wd}{S:Hp}{P:V->D->al->Prop}(e:∀v d,d.flat=true->Den W S v d->P v d []):∀{c b},D.flats b=true->Dens W S c b->OwnL P c b []:=by
 intro _ _ a hZ;cases hZ with
 | nil=>exact .nil
 | cons h q=>
  simp only[Ip.o5,tw] at a;exact OwnL.cons (f:=[]) (g:=[]) (e _ _ a.1 h) (OwnL.flat e a.2 q)
def OwnL.flat_inv {W:Wd}{S:Hp}{P:V->D->al->Prop}(g:∀v d f,d.flat=true->P v d f->f=[]/\Den W S v d):∀{e b c},D.flats b=true->OwnL P e b c->c=[]/\Dens W S e b:=by
 intro _ _ _ a hZ;induction hZ with
 | nil=>exact⟨rfl,.nil⟩
 | cons h q O=>
  simp only[Ip.o5,tw] at a;obtain⟨j,k⟩:=g _ _ _ a.1 h;obtain⟨i,l⟩:=O a.2;exact⟨by rw[j,i]; rfl,.cons k l⟩
theorem Own.flat {W:Wd}{S H:Hp}:∀{k v d},d.flat=true->Den W S v d->Own W S H k v d []:=by
 intro k;induction k with
 | zero=>exact λ_ h=>⟨rfl,h⟩
 | succ k O=>
  intro v d a h;cases d with
  | tup b=>cases h with | tup e q=>exact⟨_,_,rfl,e,OwnL.flat (λ_ _=>O) a q⟩
  | lst _=>cases a
  | ins _ _=>cases a
  | exc _ _=>cases a
  | _=>exact⟨rfl,h⟩
theorem Own.flat_inv {W:Wd}{S H:Hp}:∀{k v d c},d.flat=true->Own W S H k v d c->c=[]/\Den W S v d:=by
 intro k;induction k with
 | zero=>exact λ_ h=>h
 | succ k O=>
  intro v d c b h;cases d with
  | tup m=>
   obtain⟨a,l,rfl,f,i⟩:=h;obtain⟨e,j⟩:=i.flat_inv (λ_ _ _=>O) b;exact⟨e,.tup f j⟩
  | lst _=>cases b
  | ins _ _=>cases b
  | exc _ _=>cases b
  | _=>exact h
def OwnL.re {P Q:V->D->al->Prop}{b:D->Bool}(g:∀v d f,b d=true->P v d f->Q v d f):∀{e c i},c.all b=true->OwnL P e c i->OwnL Q e c i:=by
 intro _ _ _ a hZ;induction hZ with
 | nil=>exact .nil
 | cons h q O=>
  rw[List.all_cons,tw] at a;exact .cons (g _ _ _ a.1 h) (O a.2)
def NOk (N:Addr->Prop)(H:Hp):Prop:=∀a,N a->H a≠none
def RelS (W:Wd)(S:Hp)(a:Sl)(σ:St):Prop:=∀(i:Nat) (d:D),a[i]? = some (some d)->∃v,σ[i]? = some (some v)/\Den W S v d
theorem RelS.mono {W:Wd}{S b:Hp}{a:Sl}{σ:St}(h:Sub S b)(r:RelS W S a σ):RelS W b a σ:=λi d e=>by
 obtain⟨v,c,f⟩:=r i d e;exact⟨v,c,f.mono h⟩
def Res (W:Wd)(H:Hp)(N:Addr->Prop)(c:Hp)(x:KD)(v:V):Prop:=
 Sub H c/\∃b:al,b.Nodup/\(∀a∈b,H a=none)/\Own W (hid (λa=>N a\/a∈b) c) c x.1 v x.2 b
inductive OwnV (W:Wd) (S H:Hp):av->aw->al->Prop
 | nil:OwnV W S H [] [] []
 | cons {v:V} {x:KD} {f:al} {vs:av} {xs:aw} {g:al} (h:Own W S H x.1 v x.2 f) (q:OwnV W S H vs xs g):OwnV W S H (v::vs) (x::xs) (f++g)
theorem OwnV.mono {W:Wd}{S b H d:Hp}(hs:Sub S b):∀{vs xs fp},(∀a∈fp,∀o,H a=some o->d a=some o)->OwnV W S H vs xs fp->OwnV W b d vs xs fp:=by
 intro _ _ _ c hZ;cases hZ with
 | nil=>exact .nil
 | cons h q=>exact .cons (h.mono hs λa z=>c a (ev _ z)) (q.mono hs λa z=>c a (cx _ z))
def OwnV.dens {W:Wd}{S H T:Hp}(hs:Sub S T):∀{b xs fp},(∀a∈fp,∀o,H a=some o->T a=some o)->OwnV W S H b xs fp->Dens W T b (xs.map (·.2)):=by
 intro _ _ _ c hZ;induction hZ with
 | nil=>exact .nil
 | cons h q O=>exact .cons (h.den hs λa z=>c a (ev _ z)) (O λa z=>c a (cx _ z))
theorem OwnV.dom {W:Wd}{S H:Hp}:∀{c b fp},OwnV W S H c b fp->∀a∈fp,H a≠none:=by
 intro _ _ _ hZ;cases hZ with
 | nil=>intro a z; simp at z
 | cons h q=>exact λa z=>(dL z).elim (h.dom a) (q.dom a)
theorem OwnV.length {W:Wd}{S H:Hp}:∀{vs xs fp},OwnV W S H vs xs fp->vs.length=xs.length:=by
 intro _ _ _ hZ;induction hZ with
 | nil=>exact rfl
 | cons _ q O=>rw[List.length_cons,List.length_cons,O]
def ResL (W:Wd)(H:Hp)(N:Addr->Prop)(c:Hp)(d:aw)(e:av):Prop:=
 Sub H c/\∃b:al,b.Nodup/\(∀a∈b,H a=none)/\OwnV W (hid (λa=>N a\/a∈b) c) c e d b
def ExcR (W:Wd)(H:Hp)(N:Addr->Prop)(a:Hp)(c:Nat)(d:List aH)(e:Addr):Prop:=
 Sub H a/\H e=none/\∃C b,a e=some (.exc C false b)/\W.xA c=some C/\DenF W (hid N a) b d
theorem Res.den {W:Wd}{H b:Hp}{N:Addr->Prop}{x:KD}{v:V}(h:NOk N H)(r:Res W H N b x v):Den W (hid N b) v x.2:=by
 obtain⟨hs,i,_,c,o⟩:=r;refine o.den (λa u e=>?_) λa d u e=>aU.mpr ⟨λz=>h a z (c a d),e⟩;obtain⟨f,g⟩:=aU.mp e;exact aU.mpr ⟨λz=>f (.inl z),g⟩
theorem ResL.dens {W:Wd}{H c:Hp}{N:Addr->Prop}{xs:aw}{b:av}(i:NOk N H)(r:ResL W H N c xs b):Dens W (hid N c) b (xs.map (·.2)):=by
 obtain⟨hs,j,_,d,o⟩:=r;refine o.dens (λa u e=>?_) λa f u e=>aU.mpr ⟨λz=>i a z (d a f),e⟩;obtain⟨g,h⟩:=aU.mp e;exact aU.mpr ⟨λz=>g (.inl z),h⟩
def Res.of_den {W:Wd}{H b:Hp}{N:Addr->Prop}{v:V}{d:D}(hs:Sub H b)(h:Den W (hid N b) v d):Res W H N b (0,d) v:=
 ⟨hs,[],.nil,λa z=>by simp at z,rfl,h.mono λa o e=>aU.mpr ⟨λz=>(aU.mp e).1 (by simpa using z),(aU.mp e).2⟩⟩
def Res.of_flat {W:Wd}{H b:Hp}{N:Addr->Prop}{v:V}{k:Nat}{d:D}(hs:Sub H b)(c:d.flat=true)(h:Den W (hid N b) v d):Res W H N b (k,d) v:=
 ⟨hs,[],.nil,λa z=>by simp at z,Own.flat c (h.mono λa o e=>aU.mpr ⟨λz=>(aU.mp e).1 (by simpa using z),(aU.mp e).2⟩)⟩
def NOk.mono {N:Addr->Prop}{H H':Hp}(h:NOk N H)(hs:Sub H H'):NOk N H':=λa z q=>h a z (hs.none q)
section
variable (W:Wd)(G:Pg)(b:Nat->aw->Ip.Run)
def be (g:Ex)(E:St->XK):TE:=λσ H Q=>∃(N:Addr->Prop) (a:Sl),NOk N H/\RelS W (hid N H) a σ/\match Ip.eval G b a g with
 | .ok x=>∀v d,Res W H N d x v->Q v d
 | .exc c f=>∀e d,ExcR W H N d c f e->E σ (.ref e) none d
 | .bad=>False
def bI (f:aF)(E:St->XK):TA:=λσ H Q=>∃(N:Addr->Prop) (a:Sl),NOk N H/\RelS W (hid N H) a σ/\match Ip.evals G b a f with
 | .ok h=>∀g d,ResL W H N d h g->Q g d
 | .exc c i=>∀e d,ExcR W H N d c i e->E σ (.ref e) none d
 | .bad=>False
end
def PE.mono {X:Cx}{e:Expr}{t t':TE}(h:PE X e t)(k:∀σ H Q,t' σ H Q->t σ H Q):PE X e t':=λa s σ H Q I q=>h a s σ H Q I (k σ H Q q)
def PA.mono {X:Cx}{e:au}{t t':TA}(h:PA X e t)(k:∀σ H Q,t' σ H Q->t σ H Q):PA X e t':=λpos a s σ H Q I q=>h pos a s σ H Q I (k σ H Q q)
def PT.mono {X:Cx}{e:Expr}{t t':TT}(h:PT X e t)(k:∀σ H Q,t' σ H Q->t σ H Q):PT X e t':=λa s σ H Q I q=>h a s σ H Q I (k σ H Q q)
def PS.mono {X:Cx}{e:Stmt}{t t':TS}(h:PS X e t)(k:∀D σ H,t' D σ H->t D σ H):PS X e t':=λa s σ H D I q=>h a s σ H D I (k D σ H q)
def PSs.mono {X:Cx}{e:aG}{t t':TS}(h:PSs X e t)(k:∀D σ H,t' D σ H->t D σ H):PSs X e t':=λa s σ H D I q=>h a s σ H D I (k D σ H q)
def bL {X:Cx}{e:Expr}{W:Wd}{G:Pg}{a:Nat->aw->Ip.Run}{E:St->XK}:PE X e (be W G a .bad E):=λ_ _ _ _ _ _ z=>by
 obtain⟨_,_,_,_,h⟩:=z;exact h.elim
section
variable {W:Wd}{G:Pg}{d:Nat->aw->Ip.Run}{E:St->XK}{σ:St}{H:Hp}
theorem ExcR.trans {f H':Hp}{N b:Addr->Prop}{c:Nat}{g:List aH}{e:Addr}(hs:Sub H f)(m:∀a,N a->b a)(r:ExcR W f b H' c g e):ExcR W H N H' c g e:=by
 obtain⟨i,h,C,j,k,n,l⟩:=r;exact⟨hs.trans i,hs.none h,C,j,k,n,l.mono λa o z=>aU.mpr ⟨λq=>(aU.mp z).1 (m a q),(aU.mp z).2⟩⟩
def gJ {h:Ex}{Q:VK}{N:Addr->Prop}{a:Sl}(l:NOk N H)(m:RelS W (hid N H) a σ)
  (ok:∀x,Ip.eval G d a h=.ok x->∀v g f,Sub H g->f.Nodup->(∀b∈f,H b=none)->Own W (hid (λb=>N b\/b∈f) g) g x.1 v x.2 f ->
   NOk (λb=>N b\/b∈f) g->RelS W (hid (λb=>N b\/b∈f) g) a σ->Q v g)
  (ex:∀c i,Ip.eval G d a h=.exc c i->∀e k,ExcR W H N k c i e->E σ (.ref e) none k)(p:Ip.eval G d a h≠.bad):be W G d h E σ H Q:=by
 refine⟨N,a,l,m,?_⟩;cases q:Ip.eval G d a h with
 | bad=>exact absurd q p
 | exc c i=>exact ex c i q
 | ok x=>
  rintro v g ⟨hs,f,n,j,o⟩;refine ok x q v g f hs n j o (λb z=>?_) (m.mono (gM hs λb z=>z.imp id λy=>j b y));exact z.elim (λy=>(l.mono hs) b y) (o.dom b)
end
open Ip (R km cK bG cU cj bQ bz)
def rD (W:Wd)(G:Pg)(o:Op)(c:av)(H:Hp)(Q:VK):Prop:=∃(N:Addr->Prop) (b:aw) (x:KD),NOk N H/\Dens W (hid N H) c (b.map (·.2))/\bz G o b=some x/\∀v a,Res W H N a x v->Q v a
theorem Res.trans (hs:Sub H f)(r:Res W f N H' x v):Res W H N H' x v:=by
 obtain⟨c,d,e,b,o⟩:=r;exact⟨hs.trans c,d,e,λa z=>hs.none (b a z),o⟩
def Own.later {W:Wd}{H f g:Hp}{N M:Addr->Prop}{k:Nat}{v:V}{d:D}{c:al}(l:NOk N H)(hs:Sub f g)(m:∀b∈c,H b=none)(h:∀b,N b->M b)(o:Own W (hid (λb=>M b\/b∈c) f) f k v d c):Den W (hid N g) v d:=by
 refine o.den (λa u e=>?_) λa j u e=>aU.mpr ⟨λz=>l a z (m a j),hs a u e⟩;obtain⟨n,i⟩:=aU.mp e;exact aU.mpr ⟨λz=>n (.inl (h a z)),hs a u i⟩
section
variable {W:Wd}{G:Pg}{b:Nat->aw->Ip.Run}{E:St->XK}{σ:St}{H:Hp}{Q:VK}{o:Op}
def i4 (m:∀x H Q,rD W G o [x] H Q->r x H Q)(h:be W G b (.op o [i]) E σ H Q):sF r (be W G b i E) σ H Q:=by
 obtain⟨N,a,d,k,h⟩:=h;unfold sF;refine gJ d k (λx ex v s p hs t f n l g=>?_) (λc u e=>?_) λe=>?_
 .simp only[cK,Ip.de,bG,ex,R.bind] at h;cases q:bz G o [x] with
  | none=>simp only[q,R.of] at h
  | some z=>
   simp only[q,R.of] at h;exact m _ _ _ ⟨N,[x],z,d.mono hs,.cons (n.later d (Sub.refl _) f λ_ y=>y) .nil,q,λw j r=>h w j (r.trans hs)⟩
 .simp only[cK,bG,e,R.bind] at h;exact h
 .simp only[cK,bG,e,R.bind] at h
def iY (I:∀x y H Q,rD W G o [x,y] H Q->r x y H Q)(h:be W G b (.op o [A,t]) E σ H Q):jg r (be W G b A E) (be W G b t E) σ H Q:=by
 obtain⟨N,a,g,F,h⟩:=h;unfold jg;refine gJ g F (λx ex v M L hs P s J m k=>?_) (λc B d=>?_) λd=>?_
 .refine gJ m k (λy n w U T f p j i u C=>?_) (λc B d e l r=>?_) λd=>?_
  .simp only[cK,Ip.de,bG,ex,n,R.bind] at h;cases q:bz G o [x,y] with
   | none=>simp only[q,R.of] at h
   | some z=>
    simp only[q,R.of] at h;exact I _ _ _ _ ⟨N,[x,y],z,g.mono (hs.trans f),.cons (J.later g f s λ_ y=>y) (.cons (i.later (g.mono hs) (Sub.refl _) j λ_ y=>.inl y) .nil),q,λw l r=>h w l (r.trans (hs.trans f))⟩
  .simp only[cK,bG,ex,d,R.bind] at h;exact h e l (r.trans hs λ_ y=>.inl y)
  .simp only[cK,bG,ex,d,R.bind] at h
 .simp only[cK,bG,d,R.bind] at h;exact h
 .simp only[cK,bG,d,R.bind] at h
end
def Dens.one (h:Dens W S vs [d]):∃v,vs=[v]/\Den W S v d:=by
 cases h with
 | cons h r=>cases r; exact⟨_,rfl,h⟩
def Dens.two (h:Dens W S b [d,e]):∃v w,b=[v,w]/\Den W S v d/\Den W S w e:=by
 cases h with
 | cons h r=>
  obtain⟨w,e,a⟩:=r.one;subst e;exact⟨_,_,rfl,h,a⟩
def fj {W:Wd}{S:Hp}{x:V}{a:aw}(h:Dens W S [x] (a.map (·.2))):∃p,a=[p]/\Den W S x p.2:=by
 cases a with
 | nil=>cases h
 | cons p r=>
  cases h with
  | cons c b=>
   cases r with
   | nil=>exact⟨p,rfl,c⟩
   | cons _ _=>cases b
def dX {W:Wd}{S:Hp}{x y:V}{a:aw}(h:Dens W S [x,y] (a.map (·.2))):∃p q,a=[p,q]/\Den W S x p.2/\Den W S y q.2:=by
 cases a with
 | nil=>cases h
 | cons p r=>
  cases h with
  | cons c b=>
   obtain⟨q,rfl,d⟩:=fj b;exact⟨p,q,rfl,c,d⟩
def Den.int_inv (h:Den W S v (.int i)):v=.int i:=by cases h; rfl
def Den.bl_inv (h:Den W S v (.bl i)):v=.bl i:=by cases h; rfl
theorem Res.int:Res W H N H (k,.int i) (.int i):=Res.of_flat (Sub.refl _) rfl .int
theorem Res.bl:Res W H N H (k,.bl i) (.bl i):=Res.of_flat (Sub.refl _) rfl .bl
section
variable {X:Cx}{W:Wd}{G:Pg}
def OpR.imp (h:OpR X f r)(k:∀x y H Q,r' x y H Q->r x y H Q):OpR X f r':=λa s σ H x y v u Q I c b q=>h a s σ H x y v u Q I c b (k x y H Q q)
def jL (e:∀b,bz G o b=bQ (cj f) b)(l:∀i j x,f i j=some x->C i j/\∀(N:Addr->Prop) (H:Hp),Res W H N H x (g i j)) :
  ∀x y H Q,rD W G o [x,y] H Q->rI C g x y H Q:=by
 rintro x y H Q ⟨N,b,z,r,hd,a,m⟩;obtain⟨p,q,rfl,k,c⟩:=dX hd;rw[e] at a;obtain⟨n,p⟩:=p;obtain⟨s,q⟩:=q;dsimp only[bQ] at a;cases p <;> cases q <;> dsimp only[cj] at a <;> try (cases a; done)
 cases k;cases c;obtain⟨h,d⟩:=l _ _ _ a;exact⟨_,_,rfl,rfl,h,m _ _ (d N H)⟩
def AY:OpR X (binaryOp .Sub) (λx y=>rD W G .sub [x,y]):=Bw.imp λx y H Q h=>by
 obtain⟨i,j,a,b,_,q⟩:=jL (C:=λ_ _=>True) (g:=λi j=>.int (i - j)) (λ_=>rfl) (λi j x e=>by cases e; exact⟨trivial,λ_ _=>Res.int⟩) x y H Q h;exact⟨i,j,a,b,q⟩
def EH:OpR X (binaryOp .FloorDiv) (rI (λ_ j=>0<j/\j<1000000000000000000000000000000000000000000000000000000000000) λi j=>.int (i / j)):=oF λi j _ _ _ _ _ a q=>by
 have c:(0:Int)<j:=a.1;have b:j<1000000000000000000000000000000000000000000000000000000000000:=a.2;exact floordiv_int (by omega) (by rw[Int.fdiv_eq_ediv_of_nonneg i (by omega)]; exact q) (.inl (PyProof.noPylong_of_log2 (eD ((Nat.log2_lt (by omega)).mpr (by omega:j.natAbs<2 ^ 200)) (by decide))))
def Ed:OpR X (binaryOp .FloorDiv) (λx y=>rD W G .fdiv [x,y]):=EH.imp (jL (λ_=>rfl) λi j x e=>by
 by_cases h:0<j/\j<1000000000000000000000000000000000000000000000000000000000000
 .rw[if_pos h] at e; cases e; exact⟨h,λ_ _=>Res.int⟩
 .rw[if_neg h] at e; cases e)
def BG:OpR X (binaryOp .Mod) (λx y=>rD W G .mod [x,y]):=E9.imp (jL (λ_=>rfl) λi j x e=>by
 by_cases h:0<j
 .rw[if_pos h] at e; cases e; exact⟨h,λ_ _=>Res.int⟩
 .rw[if_neg h] at e; cases e)
def yC (h:cU i=true):i.natAbs<2 ^ 64:=by
 rw[Ip.eH] at h;omega
def xX:OpR X (binaryOp .Pow) (λx y=>rD W G .pow [x,y]):=Bv.imp (jL (λ_=>rfl) λi j x e=>by
 by_cases h:0<=j/\j<=1000000/\cU i=true
 .rw[if_pos h] at e; cases e; exact⟨⟨h.1,h.2.1,yC h.2.2⟩,λ_ _=>Res.int⟩
 .rw[if_neg h] at e; cases e)
def qR:OpR X (compareOp .LtE) (λx y=>rD W G .le [x,y]):=yD.imp λx y H Q h=>by
 obtain⟨i,j,a,b,_,q⟩:=jL (C:=λ_ _=>True) (g:=λi j=>.bl (decide (i<=j))) (λ_=>rfl) (λi j x e=>by cases e; exact⟨trivial,λ_ _=>Res.bl⟩) x y H Q h;exact⟨i,j,a,b,q⟩
def rM:OpR X (compareOp .Gt) (λx y=>rD W G .gt [x,y]):=Ep.imp λx y H Q h=>by
 obtain⟨i,j,a,b,_,q⟩:=jL (C:=λ_ _=>True) (g:=λi j=>.bl (decide (j<i))) (λ_=>rfl) (λi j x e=>by cases e; exact⟨trivial,λ_ _=>Res.bl⟩) x y H Q h;exact⟨i,j,a,b,q⟩
def rk:OpR X (compareOp .GtE) (λx y=>rD W G .ge [x,y]):=Aj.imp λx y H Q h=>by
 obtain⟨i,j,a,b,_,q⟩:=jL (C:=λ_ _=>True) (g:=λi j=>.bl (decide (j<=i))) (λ_=>rfl) (λi j x e=>by cases e; exact⟨trivial,λ_ _=>Res.bl⟩) x y H Q h;exact⟨i,j,a,b,q⟩
def pL:OpR X (compareOp .Lt) (λx y=>rD W G .lt [x,y]):=ym.imp λx y H Q h=>by
 obtain⟨i,j,a,b,_,q⟩:=jL (C:=λ_ _=>True) (g:=λi j=>.bl (decide (i<j))) (λ_=>rfl) (λi j x e=>by cases e; exact⟨trivial,λ_ _=>Res.bl⟩) x y H Q h;exact⟨i,j,a,b,q⟩
theorem OwnL.zero:∀{vs a},Dens W S vs a->OwnL (Own W S T 0) vs a []:=by
 intro _ _ hZ;cases hZ with
 | nil=>exact .nil
 | cons h q=>exact OwnL.cons (f:=[]) (g:=[]) ⟨rfl,h⟩ (OwnL.zero q)
def BR (b:H p=none):Sub (hid N H) (hid (λa=>N a\/a∈[p]) (upd H p o)):=
 gM (Sub.upd b) λa z=>z.imp id λy=>by rw[GI.mp y]; exact b
def Res.newL (b:H p=none)(h:Dens W (hid N H) c d):Res W H N (upd H p (.lst c)) (1,.lst d) (.ref p):=
 ⟨Sub.upd b,[p],by simp,λa z=>by rw[GI.mp z]; exact b,p,c,[],rfl,bT,OwnL.zero (h.mono (BR b)),rfl⟩
def Res.newT (e:NOk N H)(b:H p=none)(h:Dens W (hid N H) c d):Res W H N (upd H p (.tup c)) (0,.tup d) (.ref p):=
 Res.of_den (Sub.upd b) (.tup (SqT.of (aU.mpr ⟨λz=>e p z b,bT⟩)) (h.mono (gM (Sub.upd b) λa z=>.inl z)))
def Inv.rdL (I:Inv X b σ H s)(h:Rd H l (.lst xs)):xs.length<=sizeLine/\∃(a:ao) (n:Nat),Vals xs a/\xs.length=a.length/\s.heap.get? l=some { cls:=.type "list",data:=.seq a.toArray n }:=by
 obtain⟨z,a,n,r,e⟩:=h.ok I.hok;exact⟨z,a,n,r,r.length,e⟩
def iE (h:n<=Ip.SL):n<=sizeLine:=bC h (by decide)
def Dw:OpR X (binaryOp .Mult) (λx y=>rD W G .mul [x,y]):=by
 refine xx.imp λx y H Q w=>?_;obtain⟨N,g,z,f,hd,a,d⟩:=w;obtain⟨⟨e,p⟩,⟨k,q⟩,rfl,c,b⟩:=dX hd;dsimp only[Ip.Dz,bQ] at a;cases p <;> cases q <;> dsimp only[Ip.jX] at a <;> try (cases a; done)
 .rename_i i j;cases c;cases b;by_cases h:(cU i||cU j)=true
  .rw[if_pos h] at a;cases a;refine⟨i,j,rfl,rfl,?_,d _ _ Res.int⟩;simp only[G6,Ip.eH] at h;unfold CMul;omega
  .rw[if_neg h] at a; cases a
def A3 (hK:W.K=X.K):OpR X (binaryOp .Add) (λx y=>rD W G .add [x,y]):=by
 refine (DK.or (xK.or zz)).imp λx y H Q w=>?_;obtain⟨N,xs,z,hN,hd,hz,hq⟩:=w;obtain⟨⟨k1,p⟩,⟨k2,q⟩,rfl,d1,d2⟩:=dX hd;dsimp only[Ip.yr,bQ] at hz;cases p <;> cases q <;> dsimp only[Ip.gL] at hz <;> try (cases hz; done)
 .cases d1;cases d2;cases hz;exact .inl ⟨_,_,rfl,rfl,hq _ _ Res.int⟩
 .rename_i xs ys;split at hz
  .rename_i hl;cases hz;cases d1 with | @tup a vs _ e1 q1=>?_
   cases d2 with | @tup b ws _ e2 q2=>?_
   have s1:SqT X.K H a vs:=by rw[<-hK]; exact SqT.sub bN e1
   have s2:SqT X.K H b ws:=by rw[<-hK]; exact SqT.sub bN e2
   by_cases c1:vs=[]
   .subst c1;cases q1;exact .inr (.inl ⟨a,b,ws,rfl,rfl,s1,s2,hq _ _ (Res.of_den (Sub.refl _) (.tup e2 q2))⟩)
   .refine .inr (.inr ⟨a,b,vs,ws,rfl,rfl,s1,s2,c1,?_,λc2=>?_,λ_ p hp=>hq _ _ (Res.newT hN hp (q1.append q2))⟩)
    .rw[q1.length,q2.length];exact iE hl
    .subst c2;cases q2;rw[Hz] at hq;exact hq _ _ (Res.of_den (Sub.refl _) (.tup e1 q1))
  .cases hz
end
mutual
noncomputable def fE:D->PyData
 | .non=>.none
 | .bl b=>.bool b
 | .int i=>.int i
 | .str s=>.str s
 | .lst a=>.list (pyDs a)
 | .tup a=>.tuple (pyDs a)
 | .ins _ _=>.none
 | .exc _ _=>.none
noncomputable def pyDs:ax->List PyData
 | []=>[]
 | d::a=>fE d::pyDs a
end
mutual
theorem pE:∀x y:D,∀n m,x.pur n=true->y.pur m=true->PyData.eqv (fE x) (fE y)=x.eq y:=by
 intro hZ;cases hZ with
 | lst f=>
  intro y n m d a;cases n with
  | zero=>cases d
  | succ n=>
   cases y with
   | lst e=>
    cases m with
    | zero=>cases a
    | succ m=>exact zHR f e n m d a
   | ins _ _=>cases m <;> cases a
   | exc _ _=>cases m <;> cases a
   | _=>rfl
 | tup f=>
  intro y n m d a;cases n with
  | zero=>cases d
  | succ n=>
   cases y with
   | tup e=>
    cases m with
    | zero=>cases a
    | succ m=>exact zHR f e n m d a
   | ins _ _=>cases m <;> cases a
   | exc _ _=>cases m <;> cases a
   | _=>rfl
 | ins _ _=>intro _ n _ d _; cases n <;> cases d
 | exc _ _=>intro _ n _ d _; cases n <;> cases d
 | non=>
  intro y _ m _ a;cases y with
  | ins _ _=>cases m <;> cases a
  | exc _ _=>cases m <;> cases a
  | _=>rfl
 | bl b=>
  intro y _ m _ a;cases y with
  | bl c=>cases b <;> cases c <;> rfl
  | int i=>rfl
  | ins _ _=>cases m <;> cases a
  | exc _ _=>cases m <;> cases a
  | _=>rfl
 | int i=>
  intro y _ m _ a;cases y with
  | bl c=>rfl
  | int i=>rfl
  | ins _ _=>cases m <;> cases a
  | exc _ _=>cases m <;> cases a
  | _=>rfl
 | str i=>
  intro y _ m _ a;cases y with
  | str j=>show (i == j)=decide (i=j); by_cases h:i=j <;> simp[h]
  | ins _ _=>cases m <;> cases a
  | exc _ _=>cases m <;> cases a
  | _=>rfl
theorem zHR:∀b a:ax,∀n m,b.all (D.pur n)=true->a.all (D.pur m)=true->PyData.eqvAll (pyDs b) (pyDs a)=D.eqs b a
 | [],[],_,_,_,_=>rfl
 | [],_::_,_,_,_,_=>rfl
 | _::_,[],_,_,_,_=>rfl
 | x::b,y::a,n,m,c,d=>by
  rw[List.all_cons,tw] at c d;show (PyData.eqv (fE x) (fE y)&&PyData.eqvAll (pyDs b) (pyDs a))=_; rw[pE x y n m c.1 d.1,zHR b a n m c.2 d.2]; rfl
end
mutual
theorem tG:∀x:D,∀n,x.pur n=true->(fE x).canLay0=true/\(fE x).depth<=n:=by
 intro hZ;cases hZ with
 | lst b=>
  intro n a;cases n with
  | zero=>cases a
  | succ n=>
   obtain⟨c,d⟩:=zHA b n a;exact⟨c,by show _+_<=_; omega⟩
 | tup b=>
  intro n a;cases n with
  | zero=>cases a
  | succ n=>
   obtain⟨c,d⟩:=zHA b n a;exact⟨c,by show _+_<=_; omega⟩
 | ins _ _=>intro n a; cases n <;> cases a
 | exc _ _=>intro n a; cases n <;> cases a
 | non=>exact λ_ _=>⟨rfl,G3 _⟩
 | bl _=>exact λ_ _=>⟨rfl,G3 _⟩
 | int _=>exact λ_ _=>⟨rfl,G3 _⟩
 | str s=>
  intro n a;rw[Ip.eS] at a;exact⟨a,G3 _⟩
theorem zHA:∀a:ax,∀n,a.all (D.pur n)=true->PyData.canLayAll0 (pyDs a)=true/\PyData.depthAll (pyDs a)<=n
 | [],_,_=>⟨rfl,G3 _⟩
 | x::a,n,b=>by
  rw[List.all_cons,tw] at b;obtain⟨f,c⟩:=tG x n b.1;obtain⟨d,e⟩:=zHA a n b.2;refine⟨?_,Nat.max_le.mpr ⟨c,e⟩⟩;show (_&&_)=true;rw[f,d]; rfl
end
def nF (h:x.pur 60=true):SeqAt.shaped (fE x)=true:=by
 obtain⟨b,c⟩:=tG x 60 h;unfold SeqAt.shaped;rw[b,Bool.true_and];exact GZ (by omega)
section
variable {X:Cx}{W:Wd}{G:Pg}{a:ah}{σ:St}{H:Hp}{s:Shared}
mutual
theorem Den.reads (c:W.K=X.K)(I:Inv X a σ H s):∀{v:V} {d:D} {u:Value} (n:Nat),Den W H v d->d.pur n=true->RelV v u->∃as,Reads s.heap u (fE d) as:=by
 intro _ _ _ n hZ;cases hZ with
 | non=>intro _ r; cases r; exact⟨_,by rw[fE]; exact .none⟩
 | bl=>intro _ r; cases r; exact⟨_,by rw[fE]; exact .bool _⟩
 | int=>intro _ r; obtain⟨t,rfl⟩:=r; exact⟨_,by rw[fE]; exact .int _ t⟩
 | str=>intro _ r; obtain⟨t,rfl⟩:=r; exact⟨_,by rw[fE]; exact .str _ t⟩
 | lst e q=>
  intro b r;cases r;cases n with
  | zero=>cases b
  | succ n=>
   obtain⟨_,h,k,i,_,g⟩:=I.rdL e;obtain⟨as,f⟩:=q.reads c I n b i;exact⟨_,by rw[fE]; exact reads_list_at g rfl rfl (by simpa using f)⟩
 | tup e q=>
  intro b r;cases r;cases n with
  | zero=>cases b
  | succ n=>
   obtain⟨h,i,⟨o,g,j,k,hd⟩,_⟩:=I.tuple (c ▸ e);obtain⟨as,f⟩:=q.reads c I n b i;exact⟨_,by rw[fE]; exact reads_tuple_at g j hd (by simpa using f)⟩
 | ins _ _ _=>intro b _; cases n <;> cases b
 | exc _ _ _=>intro b _; cases n <;> cases b
theorem Dens.reads (d:W.K=X.K)(I:Inv X a σ H s):∀{e:av} {b:ax} {f:ao} (n:Nat),Dens W H e b->b.all (D.pur n)=true->Vals e f->∃as,ReadsAll s.heap f (pyDs b) as:=by
 intro _ _ _ n hZ c hY;cases hZ with
 | nil=>cases hY with | nil=>exact⟨_,.nil⟩
 | cons h q=>
  cases hY with | cons r t=>?_
  rw[List.all_cons,tw] at c;obtain⟨as,i⟩:=h.reads d I n c.1 r;obtain⟨j,g⟩:=q.reads d I n c.2 t;exact⟨_,.cons i g⟩
end
def pB (d:W.K=X.K)(h:X.A.units+64<cLine):OpR X (compareOp .Eq) (λx y=>rD W G .eq [x,y]):=by
 rintro a s σ H x y v u Q I g j ⟨N,n,z,m,hd,c,e⟩;obtain⟨⟨o,p⟩,⟨r,q⟩,rfl,l,i⟩:=dX hd;dsimp only[Ip.AR,bQ,km] at c;split at c
 .rename_i b;rw[tw] at b;cases c;obtain⟨_,f⟩:=(l.mono bN).reads d I 60 b.1 g;obtain⟨_,k⟩:=(i.mono bN).reads d I 60 b.2 j;refine eq_dataH f k (nF b.1) (nF b.2) h ⟨.bl _,H,I,rfl,?_⟩;rw[pE p q 60 60 b.1 b.2];exact e _ _ Res.bl
 .cases c
def sD (d:W.K=X.K)(h:X.A.units+64<cLine):OpR X (compareOp .NotEq) (λx y=>rD W G .ne [x,y]):=by
 rintro a s σ H x y v u Q I g j ⟨N,n,z,m,hd,c,e⟩;obtain⟨⟨o,p⟩,⟨r,q⟩,rfl,l,i⟩:=dX hd;dsimp only[Ip.DW,bQ,km] at c;split at c
 .rename_i b;rw[tw] at b;cases c;obtain⟨_,f⟩:=(l.mono bN).reads d I 60 b.1 g;obtain⟨_,k⟩:=(i.mono bN).reads d I 60 b.2 j;refine ne_dataH f k (nF b.1) (nF b.2) h ⟨.bl _,H,I,rfl,?_⟩;rw[pE p q 60 60 b.1 b.2];exact e _ _ Res.bl
 .cases c
end
end L2
namespace L2
open PySem PySem.Spec PyProof.Rows
open Ip (D KD Ex Op Pg Fn Sl Fr Wk Tg Tb SL lF mX dP bm aX cB cE lx cI cT dE cW jo gE dm aW compF bJ me gC ii lp kT lO jY cK lY gc evals bG de excA fB frz frz1 cN j0 cU eH fQ dk bi bx h8 d7 isNone aZ bb aY br bX lv jI natL noStar dN da fK gB bg cz bQ gI dI bz pos? pos?_get bq dg cY eV dZ dB en)
section
variable {X:Cx}{W:Wd}{G:Pg}
def Cz:∀x H Q,rD W G .neg [x] H Q->rU (λi=>.int (-i)) x H Q:=by
 rintro x H Q ⟨N,d,z,f,hd,a,c⟩;obtain⟨⟨e,p⟩,rfl,b⟩:=fj hd;dsimp only[Ip.FT,cz] at a;cases p <;> dsimp only[Ip.jN] at a <;> try (cases a; done)
 cases b;cases a;exact⟨_,rfl,c _ _ Res.int⟩
def xP:∀x H Q,rD W G .not [x] H Q->∃c,x=.bl c/\Q (.bl (!c)) H:=by
 rintro x H Q ⟨N,e,z,g,hd,a,d⟩;obtain⟨⟨f,p⟩,rfl,b⟩:=fj hd;dsimp only[Ip.Bl,cz] at a;cases p <;> dsimp only[Ip.kJ] at a <;> try (cases a; done)
 cases b;cases a;exact⟨_,rfl,d _ _ Res.bl⟩
def Den.non_iff {S:Hp}{v:V}{d:D}(h:Den W S v d):decide (v=.non)=(match d with | .non=>true | _=>false):=by
 cases h <;> simp
def wV:∀x H Q,rD W G .isN [x] H Q->Q (.bl (decide (x=.non))) H:=by
 rintro x H Q ⟨N,d,z,f,hd,a,c⟩;obtain⟨⟨e,p⟩,rfl,b⟩:=fj hd;rw[b.non_iff];dsimp only[Ip.xH,cz] at a;cases p <;> dsimp only[d7,fB] at a <;> cases a <;> exact c _ _ Res.bl
def uj:∀x H Q,rD W G .notN [x] H Q->Q (.bl (!decide (x=.non))) H:=by
 rintro x H Q ⟨N,d,z,f,hd,a,c⟩;obtain⟨⟨e,p⟩,rfl,b⟩:=fj hd;rw[b.non_iff];dsimp only[Ip.DL,cz] at a;cases p <;> dsimp only[d7,fB] at a <;> cases a <;> exact c _ _ Res.bl
theorem Den.flatV {S:Hp}{v:V}{d:D}(h:Den W S v d)(hs:d.scal=true):flatV v=true:=by
 cases h <;> first | rfl | cases hs
theorem Den.eqV {S:Hp}{v w:V}{d e:D}(h:Den W S v d)(k:Den W S w e)(hs:d.scal=true)(a:e.scal=true):eqV v w=d.eq e:=by
 cases h <;> first | (cases hs; done) | (cases k <;> first | (cases a; done) | rfl)
theorem Dens.flatV {S:Hp}:∀{b:av} {a:ax},Dens W S b a->a.all D.scal=true->b.all L2.flatV=true:=by
 intro _ _ hZ;cases hZ with
 | nil=>exact λ_=>rfl
 | cons h q=>
  intro hs;rw[List.all_cons,tw] at hs;rw[List.all_cons,h.flatV hs.1,q.flatV hs.2]; rfl
theorem Dens.inV {S:Hp}{x:V}{d:D}(c:Den W S x d)(b:d.scal=true):∀{f:av} {a:ax},Dens W S f a->a.all D.scal=true->inV x f=d.memb a:=by
 intro _ _ hZ;cases hZ with
 | nil=>exact λ_=>rfl
 | cons h q=>
  intro hs;rw[List.all_cons,tw] at hs;have e:=q.inV c b hs.2;unfold L2.inV D.memb at e ⊢;rw[List.any_cons,List.any_cons,h.eqV c hs.1 b,e]
theorem Den.seq {S:Hp}{v:V}{d:D}{xs:ax}(h:Den W S v d)(e:d.seq=some xs):∃a vs,v=.ref a/\((SqL W.K S a vs/\Rd S a (.lst vs))\/SqT W.K S a vs)/\Dens W S vs xs:=by
 cases h <;> dsimp only[D.seq] at e <;> try (cases e; done)
 .rename_i b c;cases e;exact⟨_,_,rfl,.inl ⟨.inl b,b⟩,c⟩
 .rename_i b c;cases e;exact⟨_,_,rfl,.inr b,c⟩
def wH {neg:Bool}{o:Op}(j:∀d,bz G o d=bQ (j0 neg) d)(k:W.K=X.K):∀x y H Q,rD W G o [x,y] H Q->rc X.K neg x y H Q:=by
 rintro x y H Q ⟨N,d,z,t,hd,b,l⟩;obtain⟨⟨s,p⟩,⟨r,q⟩,rfl,g,i⟩:=dX hd;rw[j] at b;dsimp only[bQ,j0] at b;cases e:q.seq with
 | none=>rw[e] at b; cases b
 | some n=>
  rw[e] at b;simp only at b;split at b
  .rename_i c;rw[tw] at c;cases b;obtain⟨a,m,rfl,hs,f⟩:=i.seq e;refine⟨a,m,rfl,?_,g.flatV c.1,f.flatV c.2,?_⟩
   .rw[<-k];exact hs.imp (λh=>SqL.sub bN h.1) (SqT.sub bN)
   .rw[f.inV g c.1 c.2];exact l _ _ Res.bl
  .cases b
def qp (a:W.K=X.K):OpR X (compareOp .In) (λx y=>rD W G .isin [x,y]):=CY.imp (wH (λ_=>rfl) a)
def yL (a:W.K=X.K):OpR X (compareOp .NotIn) (λx y=>rD W G .nin [x,y]):=yJ.imp (wH (λ_=>rfl) a)
def sf (t:W.K=X.K):oK X (λx y=>rD W G .ix [x,y]):=by
 rintro value slice c s σ H x y v u Q I r k ⟨N,U,z,T,hd,b,P⟩ hs;obtain⟨⟨Z,p⟩,⟨Y,q⟩,rfl,F,J⟩:=dX hd;dsimp only[Ip.BH,bQ] at b;cases q <;> dsimp only[Ip.aR] at b <;> try (cases b; done)
 cases J;rename_i i;cases e:p.seq with
 | none=>rw[e] at b; cases b
 | some n=>
  rw[e] at b;simp only at b;obtain⟨a,f,rfl,h,o⟩:=F.seq e;cases g:(Ip.fh n.length i).bind λj=>n[j]? with
  | none=>rw[g] at b; cases b
  | some d=>
   rw[g] at b;cases b;obtain⟨j,C,B⟩:=cn g;obtain⟨w,E,A⟩:=o.get B;have l:ki f i=some w:=by
    unfold ki;have:ka f.length i=some j:=by rw[o.length]; exact C
    rw[this]; exact E
   have m:Q w H:=P _ _ (Res.of_den (Sub.refl _) A);rcases h with M | L
   .exact pk value slice c s σ H _ _ v u Q I r k ⟨a,f,i,w,rfl,rfl,by rw[<-t]; exact SqL.sub bN M.1,l,m⟩ hs
   .exact Fw value slice c s σ H _ _ v u Q I r k ⟨a,f,i,w,rfl,rfl,by rw[<-t]; exact SqT.sub bN L,l,m⟩ hs
def sN n d o:HT.sIx n d o=Ip.dO n d o:=by
 cases o with
 | none=>rfl
 | some i=>
  show (if i<0 then (i+(n:Int)).toNat else min i.toNat n)=if 0<=i then min i.toNat n else (i+n).toNat
  by_cases h:i<0
  .rw[if_pos h,if_neg (by omega)]
  .rw[if_neg h,if_pos (by omega)]
def Dens.cut {S:Hp}{b:av}{a:ax}(h:Dens W S b a) lo c:Dens W S (d6 b lo c) (Ip.cutD a lo c):=by
 unfold d6 Ip.cutD;rw[sN,sN,h.length];exact (h.drop _).take _
def kr (W:Wd):V->Option Int->Option Int->Hp->VK->Prop:=λx lo b H Q=>∃N d z,NOk N H/\Den W (hid N H) x d/\bJ lo b d=some z/\∀v a,Res W H N a z v->Q v a
def rb (hK:W.K=X.K):m8 X (kr W):=by
 rintro pins s σ H x v vl vu lo hi sl Q I rx hs pl pu ⟨N,d,z,hN,hd,hz,hq⟩;cases hd <;> dsimp only[bJ] at hz <;> try (cases hz; done)
 rotate_left
 .rename_i a vs ds h1 h2;cases hz;refine A5 pins s σ H _ v vl vu lo hi sl Q I rx hs pl pu ⟨a,vs,rfl,by rw[<-hK]; exact SqT.sub bN h1,λhw=>hq _ _ (Res.of_den (Sub.refl _) ?_),λ_ p hp=>hq _ _ (Res.newT hN hp (h2.cut lo hi))⟩;have c:=h2.cut lo hi;have e:d6 vs lo hi=vs:=by
   unfold d6;rw[hw.1,hw.2];simp
  rw[e] at c;exact .tup h1 c
 rename_i a vs ds h1 h2;cases hz;exact yG pins s σ H _ v vl vu lo hi sl Q I rx hs pl pu ⟨a,vs,rfl,by rw[<-hK]; exact .inl (Rd.sub bN h1),λp hp=>hq _ _ (Res.newL hp (h2.cut lo hi))⟩
def p7 (K:bh)(d:TE):TE:=λσ H Q=>d σ H λx b=>∃a c,x=.ref a/\SqL K b a c/\∀p,b p=none->Q (.ref p) (upd b p (.lst c.reverse))
def y2 {e st:Expr}{l:TE}{m pos:Pos}(P:PE X e l)(i:PE X st (tC (.int (-1)))):PE X (.Subscript e (.Slice none none (some st) m) pos) (p7 X.K l):=by
 intro c s σ H Q I h;refine Subscript_ (bc (P c s σ H _ I h) λv N Z=>?_);obtain⟨x,k,p,C,M⟩:=Z;obtain⟨a,J,rfl,F,q⟩:=M;cases C;refine wpAny_Slice ?_;rw[evalPart_none];refine ba ?_;refine ba ?_;rw[evalPart_some];refine bc (i c N σ k (λy g=>y=.int (-1)/\g=k) p ⟨rfl,rfl⟩) λu d Y=>?_;obtain⟨y,g,E,z,U,T⟩:=Y;subst U T;obtain⟨t,rfl⟩:=(show ∃t,u=Value.int (-1) t from z)
 have f:Inv X c σ g { d with heap:=d.heap.push { cls:=.type "slice",data:=.fields #[.none,.none,.int (-1) t] } }:=E.kept (t':=d.toks) λb L q=>cb _ q;show wpAny (model X.prog X.w) X.A (subscriptTail e (.Slice none none (some st) m) (.ref a) (.ref d.heap.objs.size)) (EP X c σ Q) X.xe { d with heap:=d.heap.push { cls:=.type "slice",data:=.fields #[.none,.none,.int (-1) t] } };obtain⟨B,r,n,j⟩:=f.list F;refine tail_any (ops:=[.ref a,.ref d.heap.objs.size]) n.isList.typeIs slot_list_getitem.lookup ?_ (by with_unfolding_all rfl);refine wpAny_getItem_list_slice n.isList (Heap.IsSliceOf.new ..) .none .none (.int (-1) t) (by simp) ?_ (by rw[GE,<-r.length]; exact j);rw[PySem.W.krv_pick];refine⟨.ref _,_,f.laid (t':=d.toks) (o:=.lst J.reverse) (λb L q=>cb _ q) (bA _) ?_,rfl,q _ (f.hok.fresh (bA _))⟩;exact⟨by rw[List.length_reverse]; exact j,_,0,r.reverse,dH _ rfl⟩
def Dens.rev {S:Hp}{vs:av}{a:ax}(h:Dens W S vs a):Dens W S vs.reverse a.reverse:=by
 induction vs generalizing a with
 | nil=>cases h; exact .nil
 | cons v vs b=>
  cases h with
  | cons h q=>
   rw[IX,IX];exact (b q).append (.cons h .nil)
def CallR.imp {f:Value}{r r':av->Hp->VK->Prop}(h:CallR X f r)(k:∀xs H Q,r' xs H Q->r xs H Q):CallR X f r':=λb s σ H xs d Q I r q=>h b s σ H xs d Q I r (k xs H Q q)
def Dens.vs1 {S:Hp}{b:av}{a:aw}{o:Op}{f:D->az}{z:KD}(h:Dens W S b (a.map (·.2)))(e:cz f a=some z):∃v p,b=[v]/\a=[p]/\Den W S v p.2/\f p.2=some z:=by
 cases a with
 | nil=>exact (dN e).elim
 | cons p r=>
  cases r with
  | nil=>
   obtain⟨v,rfl,c⟩:=Dens.one h;exact⟨v,p,rfl,rfl,c,e⟩
  | cons _ _=>exact (dN e).elim
def uJ {f:ax->az}{d:D}{z:KD}(e:dI f d=some z):∃a,d.seq=some a/\f a=some z:=by
 unfold dI at e;cases q:d.seq with
 | none=>rw[q] at e; cases e
 | some a=>rw[q] at e; exact⟨a,rfl,e⟩
def m7 {f:ax->az}{d:D}{z:KD}(e:gI f d=some z):∃a,d=.lst a/\f a=some z:=by
 cases d <;> dsimp only[gI] at e <;> first | exact⟨_,rfl,e⟩ | cases e
def GD (hK:W.K=X.K):CallR X (.builtin "len") (λxs=>rD W G .len xs):=yO.imp λq H Q y=>by
 obtain⟨N,xs,z,n,hd,b,k⟩:=y;dsimp only[Ip.yk] at b;obtain⟨v,p,rfl,rfl,f,e⟩:=hd.vs1 (o:=.len) b;obtain⟨m,g,i⟩:=uJ e;obtain⟨a,d,rfl,hs,l⟩:=f.seq g;cases i;refine⟨a,d,rfl,?_,?_⟩
 .rw[<-hK]; exact hs.imp (λh=>SqL.sub bN h.1) (SqT.sub bN)
 .rw[l.length]; exact k _ _ Res.int
def zM (hK:W.K=X.K):CallR X (.type "list") (λxs=>rD W G .list xs):=yi.imp λs H Q y=>by
 obtain⟨N,xs,z,r,hd,b,d⟩:=y;dsimp only[Ip.Gn] at b;obtain⟨v,p,rfl,rfl,i,g⟩:=hd.vs1 (o:=.list) b;obtain⟨q,j,k⟩:=uJ g;obtain⟨a,e,rfl,hs,f⟩:=i.seq j;cases k;refine⟨a,e,rfl,?_,λl n=>d _ _ (Res.newL n f)⟩;rw[<-hK]; exact hs.imp (λh=>SqL.sub bN h.1) (SqT.sub bN)
def Gf (hK:W.K=X.K):CallR X (.type "tuple") (λxs=>rD W G .tuple xs):=AJ.imp λs H Q y=>by
 obtain⟨N,xs,z,r,hd,g,h⟩:=y;dsimp only[Ip.BV] at g;obtain⟨v,p,rfl,rfl,n,f⟩:=hd.vs1 (o:=.tuple) g;obtain⟨k,d⟩:=p;cases n with
 | @lst a c m b e=>
  cases f;exact⟨a,c,rfl,.inl ⟨by rw[<-hK]; exact .inl (Rd.sub bN b),λl q=>h _ _ (Res.newT r q e)⟩⟩
 | @tup a c m b e=>
  cases f;exact⟨a,c,rfl,.inr ⟨by rw[<-hK]; exact SqT.sub bN b,h _ _ (Res.of_den (Sub.refl _) (.tup b e))⟩⟩
 | _=>cases f
def DB:∀{d:ax} {b:Bool},Ip.allB d=some b->∃a:List Bool,d=a.map .bl/\b=a.all id:=by
 intro d;induction d with
 | nil=>intro b h; cases h; exact⟨[],rfl,rfl⟩
 | cons x d O=>
  intro b h;cases x <;> try (cases h; done)
  obtain⟨f,e,rfl⟩:=cM h;obtain⟨a,rfl,rfl⟩:=O e;exact⟨_::a,rfl,rfl⟩
def FG:∀{d:ax} {b:Bool},Ip.anyB d=some b->∃a:List Bool,d=a.map .bl/\b=a.any id:=by
 intro d;induction d with
 | nil=>intro b h; cases h; exact⟨[],rfl,rfl⟩
 | cons x d O=>
  intro b h;cases x <;> try (cases h; done)
  obtain⟨f,e,rfl⟩:=cM h;obtain⟨a,rfl,rfl⟩:=O e;exact⟨_::a,rfl,rfl⟩
def Dens.bools {S:Hp}:∀{c:av} {a:List Bool},Dens W S c (a.map .bl)->c=a.map .bl:=by
 intro c a;induction a generalizing c with
 | nil=>intro h; cases h; rfl
 | cons b a O=>intro h; cases h with | cons h q=>rw[h.bl_inv,O q]; rfl
def Vals.bool_at {a:List Bool}:∀{c:ao} {i:Nat} {v:Value},Vals (a.map .bl) c->c[i]? = some v->∃b,a[i]? = some b/\v=.bool b:=by
 intro c i v r e;have j:a.length=c.length:=by simpa using r.length
 have h:i<c.length:=(di e).1;have g:(a.map V.bl)[i]? = some (.bl a[i]):=by simp[GK,GJ (by omega:i<a.length)]
 obtain⟨u,d,f⟩:=r.get g;rw[e] at d;cases d;exact⟨_,GJ (by omega),f⟩
def CP (x:X.calm=true):CallR X (.builtin "all") (λr=>rD W G .all r):=by
 rintro j s σ H vs us Q I C ⟨N,r,z,hN,hd,q,Y⟩;dsimp only[Ip.x1] at q;obtain⟨v,p,rfl,rfl,k,F⟩:=hd.vs1 (o:=.all) q;obtain⟨J,U,d⟩:=m7 F;obtain⟨u,rfl,L⟩:=C.one;rw[U] at k;cases k with | @lst l Z _ M T=>?_
 cases L;cases h:Ip.allB J with
 | none=>rw[h] at d; cases d
 | some b=>
  rw[h] at d;cases d;obtain⟨f,rfl,rfl⟩:=DB h;have:=T.bools;subst this;obtain⟨_,a,n,B,c,t⟩:=I.rdL (Rd.sub bN M);have w:s.heap.IsList l a.toArray:=⟨_,t,rfl,n,rfl⟩
  have g:l<s.heap.objs.size:=bS t;refine call_all_walk (IV w ?_);refine⟨s.heap.objs.size,[s.heap.objs.size,l],[s.heap.objs.size],a.toArray.size,_,_,λi=>(f[i]?).getD true,rfl,Walks.list (A:=X.A.in1) (I.ok.hd x) _ l (dA g) a.toArray,
   ⟨⟨_,dH _ rfl,rfl,rfl⟩,w.push _⟩,λi v s' Q' E' y m=>?_,λh' E P=>?_⟩
  .obtain⟨b,e,rfl⟩:=B.bool_at (i:=i) (v:=v) (by simpa using y);simp only[e,Option.getD_some] at m;exact Hi m
  .have e:((List.range a.toArray.size).all λi=>(f[i]?).getD true)=f.all id:=by
    rw[GE,<-c,GH]; exact LSm.range_all f
   rw[e];exact⟨.bl _,H,I.kept (t':=E) (LSm.kept_iter P),rfl,Y _ _ Res.bl⟩
def Cp (x:X.calm=true):CallR X (.builtin "any") (λr=>rD W G .any r):=by
 rintro j s σ H vs us Q I C ⟨N,r,z,hN,hd,q,Y⟩;dsimp only[Ip.yF] at q;obtain⟨v,p,rfl,rfl,k,F⟩:=hd.vs1 (o:=.any) q;obtain⟨J,U,d⟩:=m7 F;obtain⟨u,rfl,L⟩:=C.one;rw[U] at k;cases k with | @lst l Z _ M T=>?_
 cases L;cases h:Ip.anyB J with
 | none=>rw[h] at d; cases d
 | some b=>
  rw[h] at d;cases d;obtain⟨f,rfl,rfl⟩:=FG h;have:=T.bools;subst this;obtain⟨_,a,n,B,c,t⟩:=I.rdL (Rd.sub bN M);have w:s.heap.IsList l a.toArray:=⟨_,t,rfl,n,rfl⟩
  have g:l<s.heap.objs.size:=bS t;refine call_any_walk (IV w ?_);refine⟨s.heap.objs.size,[s.heap.objs.size,l],[s.heap.objs.size],a.toArray.size,_,_,λi=>(f[i]?).getD false,rfl,Walks.list (A:=X.A.in1) (I.ok.hd x) _ l (dA g) a.toArray,
   ⟨⟨_,dH _ rfl,rfl,rfl⟩,w.push _⟩,λi v s' Q' E' y m=>?_,λh' E P=>?_⟩
  .obtain⟨b,e,rfl⟩:=B.bool_at (i:=i) (v:=v) (by simpa using y);simp only[e,Option.getD_some] at m;exact Hi m
  .have e:((List.range a.toArray.size).any λi=>(f[i]?).getD false)=f.any id:=by
    rw[GE,<-c,GH]; exact LSm.range_any f
   rw[e];exact⟨.bl _,H,I.kept (t':=E) (LSm.kept_iter P),rfl,Y _ _ Res.bl⟩
theorem xh {S:Hp}:∀{a:aj} {b:av},Dens W S b (natL a)->b=eh a
 | [],_,h=>by cases h; rfl
 | n::a,_,h=>by
  cases h with
  | cons h q=>
   cases h;rw[xh q];rfl
theorem uw {S:Hp}:∀{a:aj},Dens W S (eh a) (natL a)
 | []=>.nil
 | n::a=>.cons .int uw
theorem sR:∀{e:ax} {a:aj},Ip.dY e=some a->e=natL a/\∀n∈a,n<6
 | [],a,h=>by cases h; exact⟨rfl,λn b=>by simp at b⟩
 | d::e,a,h=>by
  cases d with
  | int i=>
   change (if 0<=i/\i<6 then _ else _)=_ at h;by_cases c:0<=i/\i<6
   .rw[if_pos c] at h;obtain⟨f,l,k⟩:=cM h;obtain⟨j,g⟩:=sR l;subst k;refine⟨?_,λn b=>?_⟩
    .rw[j];show _=D.int (Int.ofNat i.toNat)::natL f;rw[Int.ofNat_eq_natCast,Int.toNat_of_nonneg c.1]
    .rcases ck b with z | z
     .rw[z]; omega
     .exact g n z
   .rw[if_neg c] at h; cases h
  | _=>exact nomatch h
def FZ:((St.subs 6).all λl=>decide (l=(List.range 6).filter λk=>l.contains k))=true:=by decide +kernel
def Ba {l:aj}{k x:Nat}:x∈St.stp l k↔x∈l\/x=k:=by
 unfold St.stp St.ins;by_cases c:k∈l
 .rw[if_pos c];exact⟨.inl,λh=>h.elim id λz=>z ▸ c⟩
 .rw[if_neg c];simp only[Hu,G1,GY];have b1:∀a b:Nat,Nat.blt a b=true↔a<b:=λa b=>⟨Iy,Nat.ble_eq_true_of_le⟩
  simp only[b1];constructor
  .rintro (h | h | h)
   .exact .inl h.1
   .exact .inr h
   .exact .inl h.1
  .rintro (h | h)
   .rcases Nat.lt_trichotomy x k with z | z | z
    .exact .inl ⟨h,z⟩
    .exact .inr (.inl z)
    .exact .inr (.inr ⟨h,z⟩)
   .exact .inr (.inl h)
def BI {l:aj}{k:Nat}(a:l∈St.subs 6)(b:k<6):St.stp l k∈St.subs 6:=by
 unfold St.stp;by_cases c:k∈l
 .rw[if_pos c]; exact a
 .rw[if_neg c];exact (St.ins_of a b c).2.2.2.2.1
theorem vm:∀(a l:aj),l∈St.subs 6->(∀n∈a,n<6)->a.foldl St.stp l∈St.subs 6/\∀x,x∈a.foldl St.stp l↔x∈l\/x∈a
 | [],l,b,_=>⟨b,λx=>by simp⟩
 | n::a,l,b,h=>by
  obtain⟨d,c⟩:=vm a (St.stp l n) (BI b (h n bP)) λm e=>h m (bK _ e);refine⟨d,λx=>?_⟩;rw[List.foldl_cons,c x,Ba,GY,or_assoc]
def Ez {ns:aj}(h:∀n∈ns,n<6):ns.foldl St.stp []=bq ns:=by
 obtain⟨c,b⟩:=vm ns [] (by decide +kernel) h;have:=HY (dU FZ _ c);rw[this];unfold bq;refine List.filter_congr λk _=>?_;rw[Jq,Ht,Ht,b k];simp
def zE (t:W.K=X.K):∀x H Q,rD W G .srtSet [x] H Q->∃a b,x=.ref a/\SqL X.K H a (eh b)/\(∀n∈b,n<6)/\∀p,H p=none->Q (.ref p) (upd H p (.lst (eh (b.foldl St.stp [])))):=by
 rintro x H Q ⟨N,w,z,y,hd,d,u⟩;dsimp only[Ip.Dx] at d;obtain⟨v,p,e,rfl,h,m⟩:=hd.vs1 (o:=.srtSet) d;cases e;obtain⟨i,s,c⟩:=m7 m;rw[s] at h;cases h with | @lst a A _ k g=>?_
 cases q:Ip.dY i with
 | none=>rw[q] at c; cases c
 | some b=>
  rw[q] at c;cases c;obtain⟨j,f⟩:=sR q;rw[j] at g;have l:=xh g;subst l;refine⟨a,b,rfl,by rw[<-t]; exact .inl (Rd.sub bN k),f,λp r=>u _ _ ?_⟩;rw[Ez f];exact Res.newL r uw
end
def OwnF.re {a:ar}{P Q:V->D->al->Prop}{b:D->Bool}(j:∀v d f,b d=true->P v d f->Q v d f):∀{i g k},(g.all λp=>b p.2)=true->OwnF a P i g k->OwnF a Q i g k:=by
 intro _ _ _ c hZ;induction hZ with
 | nil=>exact .nil
 | cons e h q O=>
  rw[List.all_cons,tw] at c;exact .cons e (j _ _ _ c.1 h) (O c.2)
theorem oQ:∀{a:List α},a.all p=true->a.all q=true->(a.all λx=>p x&&q x)=true
 | [],_,_=>rfl
 | x::a,h,k=>by
  rw[List.all_cons,tw] at h k;rw[List.all_cons,h.1,k.1,oQ h.2 k.2]; rfl
section
variable {W:Wd}{S H:Hp}
theorem Own.fb:∀{k j v d t},D.fb k d=true->D.fb j d=true->Own W S H k v d t->Own W S H j v d t:=by
 intro k;induction k with
 | zero=>
  intro j _ d _ h _ o;obtain⟨i,g⟩:=o.flat_inv h;rw[i];exact Own.flat h g
 | succ k O=>
  intro j _ d _ l n o;cases j with
  | zero=>exact o.flat_inv n
  | succ j=>
   cases d with
   | lst q=>obtain⟨a,p,s,i,g,m,r⟩:=o; exact⟨a,p,s,i,g,m.re (b:=λd=>D.fb k d&&D.fb j d) (λv d f e o=>by rw[tw] at e; exact O e.1 e.2 o) (oQ l n),r⟩
   | tup q=>obtain⟨a,p,i,g,m⟩:=o; exact⟨a,p,i,g,m.re (b:=λd=>D.fb k d&&D.fb j d) (λv d f e o=>by rw[tw] at e; exact O e.1 e.2 o) (oQ l n)⟩
   | ins c q=>obtain⟨a,C,w,x,s,i,g,u,m,r⟩:=o; exact⟨a,C,w,x,s,i,g,u,m.re (b:=λd=>D.fb k d&&D.fb j d) (λv d f e o=>by rw[tw] at e; exact O e.1 e.2 o) (oQ l n),r⟩
   | exc c q=>cases l
   | _=>exact o
theorem Own.at (h:bg j (k,d)=true)(o:Own W S H k v d fp):Own W S H j v d fp:=by
 unfold bg at h;rw[G6,G6,tw] at h;rcases h with h | h | ⟨a,b⟩
 .obtain⟨e,c⟩:=o.flat_inv h;rw[e];exact Own.flat h c
 .have:k=j:=by simpa using h
  rw[<-this]; exact o
 .exact o.fb b a
theorem OwnV.at:∀{vs xs fp},xs.all (bg j)=true->OwnV W S H vs xs fp->OwnL (Own W S H j) vs (xs.map (·.2)) fp:=by
 intro _ _ _ a hZ;cases hZ with
 | nil=>exact .nil
 | cons h q=>
  rw[List.all_cons,tw] at a;exact .cons (h.at a.1) (q.at a.2)
def BS:xs.all (bg (aY xs))=true\/aY xs=0:=by
 unfold aY;cases e:xs.find? λx=>!x.2.flat with
 | none=>
  refine .inl (List.all_eq_true.mpr λx a=>Ip.wS ?_);have:=List.find?_eq_none.mp e x a;simpa using this
 | some y=>
  show xs.all (bg (if xs.all (bg y.1)=true then y.1 else 0))=true\/(if xs.all (bg y.1)=true then y.1 else 0)=0;by_cases h:xs.all (bg y.1)=true
  .rw[if_pos h]; exact .inl h
  .rw[if_neg h]; exact .inr rfl
def OwnV.join {N:Addr->Prop}{vs:av}{xs:aw}{fp:al}(nd:fp.Nodup)(hn:∀a∈fp,¬N a)(o:OwnV W (hid (λa=>N a\/a∈fp) H) H vs xs fp) :
  ∃fq:al,fq.Nodup/\(∀a∈fq,a∈fp)/\OwnL (Own W (hid (λa=>N a\/a∈fq) H) H (aY xs)) vs (xs.map (·.2)) fq:=by
 rcases BS (xs:=xs) with h | h
 .exact⟨fp,nd,λ_ z=>z,o.at h⟩
 .rw[h];refine⟨[],.nil,λ_ z=>by simp at z,OwnL.zero ?_⟩;refine o.dens (λa u e=>?_) λa g u e=>aU.mpr ⟨λz=>z.elim (hn a g) (by simp),e⟩;obtain⟨f,i⟩:=aU.mp e;exact aU.mpr ⟨λz=>z.elim (λy=>f (.inl y)) (by simp),i⟩
end
section
variable {X:Cx}{W:Wd}{G:Pg}{g:Nat->aw->Ip.Run}{E:St->XK}
def oO e es env:(∃x p,e=.Starred x p)\/starEach (e::es) env=(false,PySem.eval e env)::starEach es env:=by
 cases e <;> first | exact .inl ⟨_,_,rfl⟩ | exact .inr rfl
def Bm (h:bI W G g (s::i) E σ H Q):ci (be W G g s E) (bI W G g i E) σ H Q:=by
 obtain⟨N,a,C,I,h⟩:=h;unfold ci;refine gJ C I (λx ex v T A hs P w p k l=>?_) (λc L n=>?_) λn=>?_
 .refine⟨_,a,k,l,?_⟩;cases q:evals G g a i with
  | bad=>simp only[bG,ex,q,Ip.R.bind] at h
  | exc c L=>
   simp only[bG,ex,q,Ip.R.bind] at h;exact λe u r=>h e u (r.trans hs λ_ y=>.inl y)
  | ok U=>
   simp only[bG,ex,q,Ip.R.bind] at h;rintro Y Z ⟨f,M,m,d,J⟩;refine h _ _ ⟨hs.trans f,A++M,?_,λb z=>(dL z).elim (w b) λy=>hs.none (d b y),?_⟩
   .refine GU.mpr ⟨P,m,λb j c t z=>?_⟩;rw[z] at j;exact p.dom c j (d c t)
   .refine .cons (p.mono (gM f λb z=>?_) λb j o e=>f b o e) (J.mono (λb o e=>?_) λb _ o e=>e)
    .rcases z with z | z
     .exact .inl (.inl z)
     .exact (dL z).elim (λy=>.inl (.inr y)) λy=>.inr (d b y)
    .obtain⟨B,F⟩:=aU.mp e;refine aU.mpr ⟨λz=>B ?_,F⟩;rcases z with z | z
     .exact .inl (.inl z)
     .exact (dL z).elim (λy=>.inl (.inr y)) .inr
 .simp only[bG,n,Ip.R.bind] at h;exact h
 .simp only[bG,n,Ip.R.bind] at h
def my (h:bI W G g [] E σ H Q):er σ H Q:=by
 obtain⟨N,a,b,c,h⟩:=h;simp only[de] at h;exact h _ _ ⟨Sub.refl _,[],.nil,λa z=>by simp at z,.nil⟩
theorem vH:∀{b:au} {f:Expr->Ex},(∀e∈b,PE X e (be W G g (f e) E))->(∀e∈b,∀x p,e=.Starred x p->f e=.bad)->PA X b (bI W G g (b.map f) E)
 | [],_,_,_=>ip.mono λσ H Q h=>my h
 | e::b,f,h,k=>by
  rcases oO e b X.env with ⟨x,p,i⟩ | hs
  .rintro pos d s σ H Q I ⟨N,a,_,_,q⟩;rw[GM,k e HP x p i,bG,gC] at q;exact q.elim
  .refine (gq (h e bP) (vH (λy c=>h y (bK _ c)) λy c=>k y (bK _ c)) hs).mono λσ H Q q=>?_;rw[GM] at q;exact Bm q
def sr (hl:irs.length<=1000)(h:PA X es (bI W G g irs E)):PE X (.List es pos) (be W G g (.op .lst irs) E):=by
 refine (Fc h).mono λσ H Q x=>?_;obtain⟨N,a,m,J,q⟩:=x;refine⟨N,a,m,J,?_⟩;rw[cK] at q;cases e:evals G g a irs with
 | bad=>rw[e] at q; exact q
 | exc c P=>rw[e] at q; exact q
 | ok s=>
  simp only[e,Ip.R.bind,Ip.R.of,Ip.Gm] at q;rintro w L ⟨hs,M,I,l,o⟩;have t:s.length=irs.length:=evals_length e;refine⟨?_,λp j=>?_⟩
  .rw[o.length,t];exact bC hl (by decide)
  obtain⟨n,k,sub,F⟩:=o.join I λb r z=>m b z (l b r);refine q _ _ ⟨hs.trans (Sub.upd j),p::n,G2.mpr ⟨λz=>o.dom p (sub p z) j,k⟩,λb z=>?_,p,w,n,rfl,bT,?_,rfl⟩
  .rcases ck z with y | y
   .rw[y]; exact hs.none j
   .exact l b (sub b y)
  .refine F.imp λv d f A C=>C.mono (gM (Sub.upd j) λb z=>?_) λb _ u e=>Sub.upd j b u e;rcases z with z | z
   .exact .inl (.inl z)
   .rcases ck z with y | y
    .rw[y]; exact .inr j
    .exact .inl (.inr y)
where
 evals_length {a:Sl}:∀{irs:aF} {xs:aw},evals G g a irs=.ok xs->xs.length=irs.length
  | [],xs,h=>by rw[de] at h; cases h; rfl
  | ir::irs,xs,h=>by
   rw[bG] at h;cases e1:Ip.eval G g a ir with
   | bad=>rw[e1] at h; cases h
   | exc c fs=>rw[e1] at h; cases h
   | ok x=>
    cases e2:evals G g a irs with
    | bad=>rw[e1,e2] at h; cases h
    | exc c fs=>rw[e1,e2] at h; cases h
    | ok ys=>
     rw[e1,e2] at h;cases h;rw[List.length_cons,List.length_cons,evals_length e2]
def DO (hl:irs.length<=1000)(h:PA X es (bI W G g irs E)):PE X (.Tuple es k pos) (be W G g (.op .tup irs) E):=by
 refine (uL h).mono λσ H Q x=>?_;obtain⟨N,a,l,J,q⟩:=x;refine⟨N,a,l,J,?_⟩;rw[cK] at q;cases e:evals G g a irs with
 | bad=>rw[e] at q; exact q
 | exc c P=>rw[e] at q; exact q
 | ok s=>
  simp only[e,Ip.R.bind,Ip.R.of,Ip.zO] at q;rintro w L ⟨hs,M,I,n,o⟩;have t:s.length=irs.length:=sr.evals_length e;refine⟨?_,λp j=>?_⟩
  .rw[o.length,t];exact bC hl (by decide)
  obtain⟨F,m,sub,C⟩:=o.join I λb r z=>l b z (n b r);refine q _ _ ⟨hs.trans (Sub.upd j),F,m,λb z=>n b (sub b z),p,w,rfl,SqT.of (aU.mpr ⟨λz=>?_,bT⟩),?_⟩
  .rcases z with z | z
   .exact (l.mono hs) p z j
   .exact o.dom p (sub p z) j
  .refine C.imp λv d f y B=>B.mono (gM (Sub.upd j) λb z=>.inl z) λb _ u e=>Sub.upd j b u e
end
section
variable {X:Cx}{W:Wd}{G:Pg}{g:Nat->aw->Ip.Run}{E:St->XK}{σ:St}{H:Hp}
def CH (h:PE X e (cu i)):PE X e (be W G g (.var i) E):=h.mono λσ H Q z=>by
 obtain⟨N,a,j,f,q⟩:=z;rw[gc] at q;cases e:a[i]? with
 | none=>rw[e] at q; exact q.elim
 | some o=>
  cases o with
  | none=>rw[e] at q; exact q.elim
  | some d=>
   rw[e] at q;obtain⟨v,c,b⟩:=f i d e;exact⟨v,c,q v H (Res.of_den (Sub.refl _) b)⟩
def ny (hd:d.flat=true)(b:∀S,Den W S v d)(h:PE X e (tC v)):PE X e (be W G g (.cst d) E):=h.mono λσ H Q z=>by
 obtain⟨N,a,c,f,q⟩:=z;rw[kT] at q;exact q v H (Res.of_flat (Sub.refl _) hd (b _))
def ce (W:Wd)(G:Pg)(g:Nat->aw->Ip.Run)(f:Ex)(E:St->XK):TT:=λσ H Q=>∃(N:Addr->Prop) (a:Sl),NOk N H/\RelS W (hid N H) a σ/\match (Ip.eval G g a f).bl with
 | .ok b=>∀d,Sub H d->Q b d
 | .exc c h=>∀e d,ExcR W H N d c h e->E σ (.ref e) none d
 | .bad=>False
def RelS.grow (b:RelS W (hid N H) a σ)(hs:Sub H c):RelS W (hid N c) a σ:=b.mono (gM hs λ_ z=>.inl z)
def mD (h:ce W G g b E σ H Q):be W G g b E σ H (λx j=>∃c,x=.bl c/\Q c j):=by
 obtain⟨N,a,f,i,h⟩:=h;refine⟨N,a,f,i,?_⟩;cases e:Ip.eval G g a b with
 | bad=>rw[e] at h; exact h
 | exc c m=>rw[e] at h; exact h
 | ok x=>
  obtain⟨k,d⟩:=x;rw[e] at h;intro v l r;cases d <;> try (exact h.elim)
  have:=(r.den f).bl_inv;subst this;exact⟨_,rfl,h l r.1⟩
def t5 (h:PE X e (be W G g a E))(b:∀whole,isTrue e X.env whole=(do let v <-whole; standAt e.pos; holding [v] (truthy v))):PT X e (ce W G g a E):=
 (Ab h b).mono λσ H Q q=>mD q
def iU {α β:Type}{r:Ip.R α}{f:α->Ip.R β}{b:β}(h:r.bind f=.ok b):∃a,r=.ok a/\f a=.ok b:=by
 cases r with
 | ok a=>exact⟨a,rfl,h⟩
 | exc c d=>cases h
 | bad=>cases h
def ExcR.of_sub (hs:Sub H a)(r:ExcR W a N b c d e):ExcR W H N b c d e:=r.trans hs λ_ z=>z
def C4 (h:ce W G g (.and x y) E σ H Q):j8 (ce W G g x E) (ce W G g y E) σ H Q:=by
 obtain⟨N,a,l,m,h⟩:=h;rw[me] at h;unfold j8;refine⟨N,a,l,m,?_⟩;cases e:Ip.eval G g a x with
 | bad=>rw[e] at h; exact h
 | exc c n=>rw[e] at h; exact h
 | ok v=>
  obtain⟨k,d⟩:=v;rw[e] at h;cases d <;> try (exact h.elim)
  rename_i b;intro p hs;cases b with
  | false=>exact h p hs
  | true=>
   rw[if_pos rfl];refine⟨N,a,l.mono hs,m.grow hs,?_⟩;simp only[Ip.R.bind,lF,if_true] at h;cases i:(Ip.eval G g a y).bl with
   | bad=>rw[i] at h; exact h
   | exc c n=>rw[i] at h; exact λo j r=>h o j (r.of_sub hs)
   | ok b=>rw[i] at h; exact λj f=>h j (hs.trans f)
def yy (h:ce W G g (.or x y) E σ H Q):rQ (ce W G g x E) (ce W G g y E) σ H Q:=by
 obtain⟨N,a,l,m,h⟩:=h;rw[lY] at h;unfold rQ;refine⟨N,a,l,m,?_⟩;cases e:Ip.eval G g a x with
 | bad=>rw[e] at h; exact h
 | exc c n=>rw[e] at h; exact h
 | ok v=>
  obtain⟨k,d⟩:=v;rw[e] at h;cases d <;> try (exact h.elim)
  rename_i b;intro p hs;cases b with
  | true=>exact h p hs
  | false=>
   rw[if_neg (by decide)];refine⟨N,a,l.mono hs,m.grow hs,?_⟩;simp only[Ip.R.bind,lF,Bool.false_eq_true,if_false] at h;cases i:(Ip.eval G g a y).bl with
   | bad=>rw[i] at h; exact h
   | exc c n=>rw[i] at h; exact λo j r=>h o j (r.of_sub hs)
   | ok b=>rw[i] at h; exact λj f=>h j (hs.trans f)
def AU (h:ce W G g (.op .not [x]) E σ H Q):kK (ce W G g x E) σ H Q:=by
 obtain⟨N,a,b,f,h⟩:=h;rw[cK,bG,de] at h;unfold kK;refine⟨N,a,b,f,?_⟩;cases e:Ip.eval G g a x with
 | bad=>rw[e] at h; exact h
 | exc c i=>rw[e] at h; exact h
 | ok v=>
  obtain⟨k,d⟩:=v;rw[e] at h;cases d <;> first | exact h | exact h.elim
def ya (h:be W G g (.and x y) E σ H Q):gR (be W G g x E) (be W G g y E) σ H Q:=by
 obtain⟨N,a,f,l,h⟩:=h;rw[me] at h;unfold gR;refine⟨N,a,f,l,?_⟩;cases e:Ip.eval G g a x with
 | bad=>rw[e] at h; exact h
 | exc c n=>rw[e] at h; exact h
 | ok v=>
  obtain⟨k,d⟩:=v;rw[e] at h;cases d <;> try (exact h.elim)
  rename_i b;intro v p r;have:=(r.den f).bl_inv;subst this;have hs:=r.1;refine⟨b,rfl,?_⟩;cases b with
  | false=>exact h _ _ (Res.of_flat hs rfl .bl)
  | true=>
   rw[if_pos rfl];refine⟨N,a,f.mono hs,l.grow hs,?_⟩;dsimp only[Ip.R.bind,lF,if_true] at h;cases i:Ip.eval G g a y with
   | bad=>rw[i] at h; exact h
   | exc c n=>rw[i] at h; exact λo j r=>h o j (r.of_sub hs)
   | ok b=>rw[i] at h; exact λv j m=>h v j (m.trans hs)
def ra (h:be W G g (.or x y) E σ H Q):kl (be W G g x E) (be W G g y E) σ H Q:=by
 obtain⟨N,a,f,l,h⟩:=h;rw[lY] at h;unfold kl;refine⟨N,a,f,l,?_⟩;cases e:Ip.eval G g a x with
 | bad=>rw[e] at h; exact h
 | exc c n=>rw[e] at h; exact h
 | ok v=>
  obtain⟨k,d⟩:=v;rw[e] at h;cases d <;> try (exact h.elim)
  rename_i b;intro v p r;have:=(r.den f).bl_inv;subst this;have hs:=r.1;refine⟨b,rfl,?_⟩;cases b with
  | true=>exact h _ _ (Res.of_flat hs rfl .bl)
  | false=>
   rw[if_neg (by decide)];refine⟨N,a,f.mono hs,l.grow hs,?_⟩;dsimp only[Ip.R.bind,lF,Bool.false_eq_true,if_false] at h;cases i:Ip.eval G g a y with
   | bad=>rw[i] at h; exact h
   | exc c n=>rw[i] at h; exact λo j r=>h o j (r.of_sub hs)
   | ok b=>rw[i] at h; exact λv j m=>h v j (m.trans hs)
def t9 (h:be W G g (.chain o p x y z) E σ H Q) :
  eZ (λx y=>rD W G o [x,y]) (λx y=>rD W G p [x,y]) (be W G g x E) (be W G g y E) (be W G g z E) σ H Q:=by
 obtain⟨N,a,j,Y,h⟩:=h;rw[Ip.qz] at h;unfold eZ;refine gJ j Y (λU ex v H1 fp hs nd hf ow s C=>?_) (λc P f=>?_) λf=>?_
 .refine gJ s C (λn ey w H2 fq i a1 B F a2 Z=>?_) (λc P f e m r=>?_) λf=>?_
  .simp only[ex,ey,Ip.R.bind] at h;have l:=j.mono (hs.trans i);have dx:=ow.later j i hf λ_ y=>y;have M:=F.later (j.mono hs) (Sub.refl _) B λ_ y=>.inl y;cases q:bz G o [U,n] with
   | none=>simp only[q,Ip.R.of] at h
   | some b=>
    simp only[q,Ip.R.of] at h;refine⟨N,[U,n],b,l,.cons dx (.cons M .nil),q,λv2 H3 I=>?_⟩;obtain⟨kb,b⟩:=b;cases b <;> try (exact h.elim)
    rename_i b;have:=(I.den l).bl_inv;subst this;have d:=(hs.trans i).trans I.1;refine⟨b,rfl,?_⟩;cases b with
    | false=>exact h _ _ (Res.of_flat d rfl .bl)
    | true=>
     rw[if_pos rfl];simp only[lF,if_true] at h;refine gJ (j.mono d) (Y.grow d) (λT ez u H4 fz k a4 A L a3 a0=>?_) (λc P f e m r=>?_) λf=>?_
     .simp only[ez] at h;cases J:bz G p [n,T] with
      | none=>simp only[J] at h
      | some t=>
       simp only[J] at h;exact⟨N,[n,T],t,j.mono (d.trans k),.cons (M.mono (gM (I.1.trans k) λ_ z=>.inl z)) (.cons (L.later (j.mono d) (Sub.refl _) A λ_ y=>y) .nil),J,λv m r=>h v m (r.trans (d.trans k))⟩
     .simp only[f] at h;exact h e m (r.of_sub d)
     .simp only[f] at h
  .simp only[ex,f,Ip.R.bind] at h;exact h e m (r.trans hs λ_ y=>.inl y)
  .simp only[ex,f,Ip.R.bind] at h
 .simp only[f,Ip.R.bind] at h;exact h
 .simp only[f,Ip.R.bind] at h
end
def ItD (W:Wd)(N:Addr->Prop)(H1:Hp)(J:It)(b:ax):Prop:=∀(M:Addr->Prop) (H:Hp),Sub (hid N H1) (hid M H)->NOk M H->∀i:Nat,
 (∀d,b[i]? = some d->J.go i H/\∀x a,J.yld i H x a->Sub H a/\Den W (hid M a) x d)/\(b.length<=i->J.stop i H)
section
variable {X:Cx}{W:Wd}{G:Pg}{g:Nat->aw->Ip.Run}{E:St->XK}
def kC (h:Sub H a):Sub (hid N H) (hid N a):=gM h λ_ z=>.inl z
def gn (W:Wd)(G:Pg)(g:Nat->aw->Ip.Run)(h:Wk)(d:aF)(E:St->XK):TI:=λσ H R=>∃(N:Addr->Prop) (a:Sl),NOk N H/\RelS W (hid N H) a σ/\match evals G g a d with
 | .ok f=>(match dB h f with
  | some j=>∀J b,Sub H b->ItD W N b J j->R J b
  | none=>False)
 | .exc c i=>∀e b,ExcR W H N b c i e->E σ (.ref e) none b
 | .bad=>False
def PI.mono (h:PI X tg iter t)(k:∀σ H R,t' σ H R->t σ H R):PI X tg iter t':=λa s σ H R I q=>h a s σ H R I (k σ H R q)
def ItD.list (hK:W.K=X.K)(h:Rd (hid N H1) a (.lst vs))(q:Dens W (hid N H1) vs ds):ItD W N H1 (qO X.K a) ds:=λM H hs n i=>by
 have b:SqL X.K H a vs:=.inl (Rd.sub (hs.trans bN) h);refine⟨λd e=>?_,λm=>⟨vs,b,by rw[q.length]; exact m⟩⟩;obtain⟨v,f,j⟩:=q.get e;refine⟨⟨vs,v,b,f⟩,λx o hZz=>?_⟩;obtain⟨k,l⟩:=hZz;subst k;have:=l vs b;rw[f] at this;cases this;exact⟨Sub.refl _,j.mono hs⟩
def ItD.tup (m:W.K=X.K)(h:SqT W.K (hid N c) a vs)(q:Dens W (hid N c) vs ds):ItD W N c (pO X.K a) ds:=λM H hs o i=>by
 have b:SqT X.K H a vs:=m ▸ SqT.sub (hs.trans bN) h;refine⟨λd e=>?_,λn=>⟨vs,b,by rw[q.length]; exact n⟩⟩;obtain⟨v,f,j⟩:=q.get e;refine⟨⟨vs,v,b,f⟩,λx p hZz=>?_⟩;obtain⟨k,l⟩:=hZz;subst k;have:=l vs b;rw[f] at this;cases this;exact⟨Sub.refl _,j.mono hs⟩
def B9 (u:W.K=X.K)(h:PE X e (be W G g w E)):PI X z e (gn W G g .seq [w] E):=by
 rintro f s σ H R I ⟨N,a,l,t,q⟩;rw[bG,de] at q;cases j:Ip.eval G g a w with
 | bad=>rw[j] at q; exact q.elim
 | exc c B=>
  rw[j] at q;refine wh h f s σ H R I ⟨N,a,l,t,?_⟩;rw[j];exact q
 | ok x=>
  obtain⟨k,d⟩:=x;rw[j] at q;simp only[show dB .seq [(k,d)]=d.seq from rfl] at q;cases i:d.seq with
  | none=>rw[i] at q; exact q.elim
  | some A=>
   rw[i] at q;cases d <;> simp only[D.seq] at i <;> try (cases i; done)
   .cases i;refine wh h f s σ H R I ⟨N,a,l,t,?_⟩;rw[j];intro v y r;have o:=r.den l;cases o with | @lst b n _ m p=>?_
    exact⟨b,rfl,⟨n,.inl (Rd.sub bN m)⟩,q _ _ r.1 (ItD.list u m p)⟩
   .cases i;refine yX h f s σ H R I ⟨N,a,l,t,?_⟩;rw[j];intro v y r;have o:=r.den l;cases o with | @tup b n _ m p=>?_
    exact⟨b,rfl,⟨n,u ▸ SqT.sub bN m⟩,q _ _ r.1 (ItD.tup u m p)⟩
theorem ItD.range {N:Addr->Prop}{H1:Hp}{lo:Int}{n:Nat}:ItD W N H1 (mE lo n) ((List.range n).map λ(i:Nat)=>.int (lo+i)):=λM H hs l i=>by
 refine⟨λd e=>?_,λk=>?_⟩;rotate_left
 .show n<=i;simpa using k
 rw[GK] at e;obtain⟨j,a,f⟩:=cM e;have b:i<n:=by have:=(di a).1; simpa using this
 rw[IK b] at a;cases a;subst f;refine⟨b,λx m hZz=>?_⟩;obtain⟨h,c⟩:=hZz;subst h c;exact⟨Sub.refl _,.int⟩
def wk_rng1 (h:dB .rng1 xs=some e):∃k j,xs=[(k,.int j)]/\(-(2 ^ 62)<=j/\j<2 ^ 62)/\e=(List.range j.toNat).map λ(n:Nat)=>.int n:=by
 obtain⟨⟨k,d⟩,rfl,c⟩:=Ip.tj (f:=Ip.i6) h;obtain⟨j,i,a⟩:=cn (show (fQ d).bind _=some e from c);clear h c;obtain rfl:=Ip.sK i;by_cases b:cU j=true
 .rw[if_pos b] at a;cases a;exact⟨k,j,rfl,eH.mp b,rfl⟩
 .rw[if_neg b] at a; exact (dN a).elim
def wk_rng2 (h:dB .rng2 q=some o):∃k l i j,q=[(k,.int i),(l,.int j)]/\(-(2 ^ 62)<=i/\i<2 ^ 62 /\ -(2 ^ 62)<=j/\j<2 ^ 62)/\o=(List.range (j - i).toNat).map λ(n:Nat)=>.int (i+n):=by
 obtain⟨⟨k,d⟩,⟨l,e⟩,rfl,c⟩:=Ip.wB (f:=Ip.jD) h;obtain⟨i,r,m⟩:=cn (show (fQ d).bind _=some o from c);obtain⟨j,p,b⟩:=cn m;clear h c m;obtain rfl:=Ip.sK r;obtain rfl:=Ip.sK p;by_cases a:cU i=true/\cU j=true
 .rw[if_pos a] at b;cases b;exact⟨k,l,i,j,rfl,⟨(eH.mp a.1).1,(eH.mp a.1).2,(eH.mp a.2).1,(eH.mp a.2).2⟩,rfl⟩
 .rw[if_neg a] at b; exact (dN b).elim
def xk {d:D}{xs:ax}(h:d.lstO=some xs):d=.lst xs:=by
 cases d <;> dsimp only[D.lstO] at h <;> cases h
 rfl
def Dl {d:D}{xs:ax}(h:d.seq=some xs):d=.lst xs\/d=.tup xs:=by
 cases d <;> dsimp only[D.seq] at h <;> cases h
 .exact .inl rfl
 .exact .inr rfl
def wk_enum (h:dB .enum e=some b):∃k d a,e=[(k,d)]/\(d=.lst a\/d=.tup a)/\b=a.mapIdx λn d=>.tup [.int n,d]:=by
 obtain⟨⟨k,d⟩,rfl,j⟩:=Ip.tj (f:=Ip.ja) h;obtain⟨a,i,c⟩:=cM (show d.seq.map _=some b from j);exact⟨k,d,a,rfl,Dl i,c.symm⟩
def wk_zip (h:dB .zip j=some c):∃k l d e b a,j=[(k,d),(l,e)]/\d=.lst b/\e=.lst a/\c=(b.zip a).map λp=>.tup [p.1,p.2]:=by
 obtain⟨⟨k,d⟩,⟨l,e⟩,rfl,o⟩:=Ip.wB (f:=Ip.mV) h;obtain⟨b,n,i⟩:=cn (show d.lstO.bind _=some c from o);obtain⟨a,q,m⟩:=cM i;exact⟨k,l,d,e,b,a,rfl,xk n,xk q,m.symm⟩
def oZ (h:gn W G g n e E σ H R)
  (k:∀(N:Addr->Prop) d i,dB n d=some i->NOk N H->(∀J b,Sub H b->ItD W N b J i->R J b)->∀f b,Sub H b->Dens W (hid N b) f (d.map (·.2))->Q f b):bI W G g e E σ H Q:=by
 obtain⟨N,a,l,o,q⟩:=h;refine⟨N,a,l,o,?_⟩;cases m:evals G g a e with
 | bad=>rw[m] at q; exact q
 | exc c p=>rw[m] at q; exact q
 | ok d=>
  rw[m] at q;simp only at q;cases j:dB n d with
  | none=>rw[j] at q; exact q.elim
  | some i=>
   rw[j] at q;exact λf b r=>k N d i j l q f b r.1 (r.dens l)
def zX {tg e:Expr}{ir:Ex}{p pos:Pos}(hg:Gl X "range")(hm:X.mg "range" = none)(h:PA X [e] (bI W G g [ir] E))(hs:starEach [e] X.env=[(false,PySem.eval e X.env)]):PI X tg (.Call (.Name "range" p) [e] [] pos) (gn W G g .rng1 [ir] E):=by
 refine (yB hg hm h hs).mono λσ H R q=>oZ q λN r u c t q s m hs f=>?_;obtain⟨k,j,rfl,a,rfl⟩:=wk_rng1 c;obtain⟨v,rfl,l⟩:=Dens.one f;rw[l.int_inv];refine⟨j,rfl,a.1,a.2,q _ _ hs ?_⟩;have:=ItD.range (W:=W) (N:=N) (H1:=m) (lo:=0) (n:=j.toNat);simpa using this
def zd (hg:Gl X "range")(hm:X.mg "range" = none)(h:PA X [e,e'] (bI W G g [ir,ir'] E))(hs:starEach [e,e'] X.env=[(false,PySem.eval e X.env),(false,PySem.eval e' X.env)])(hs2:starEach [e'] X.env=[(false,PySem.eval e' X.env)]):PI X tg (.Call (.Name "range" p) [e,e'] [] pos) (gn W G g .rng2 [ir,ir'] E):=by
 refine (yN hg hm h hs hs2).mono λσ H R q=>oZ q λN A z d x q B y hs o=>?_;obtain⟨k,l,i,j,rfl,r,rfl⟩:=wk_rng2 d;obtain⟨v,w,rfl,t,m⟩:=Dens.two o;rw[t.int_inv,m.int_inv];exact⟨i,j,rfl,r,q _ _ hs ItD.range⟩
def ItD.enum (hK:W.K=X.K)(h:Rd (hid N H1) a (.lst vs))(q:Dens W (hid N H1) vs ds):ItD W N H1 (sJ X.K a) (ds.mapIdx λn d=>.tup [.int n,d]):=λM H hs o i=>by
 have f:SqL X.K H a vs:=.inl (Rd.sub (hs.trans bN) h);refine⟨λd e=>?_,λw=>⟨vs,f,by rw[q.length]; simpa using w⟩⟩;rw[Hk] at e;obtain⟨C,r,rfl⟩:=cM e;obtain⟨v,k,l⟩:=q.get r;refine⟨⟨vs,v,f,k⟩,λx A s=>?_⟩;obtain⟨y,p,t,c,m,u⟩:=s;have:=u vs f;rw[k] at this;cases this;subst t m;exact⟨Sub.upd c,.tup (SqT.of (aU.mpr ⟨λz=>o p z c,bT⟩)) (.cons .int (.cons (l.mono (hs.trans (kC (Sub.upd c)))) .nil))⟩
def ItD.enumT (hK:W.K=X.K)(h:SqT W.K (hid N H1) a vs)(q:Dens W (hid N H1) vs ds):ItD W N H1 (kd X.K a) (ds.mapIdx λn d=>.tup [.int n,d]):=λM H hs o i=>by
 have f:SqT X.K H a vs:=by rw[<-hK]; exact SqT.sub (hs.trans bN) h
 refine⟨λd e=>?_,λA=>⟨vs,f,by rw[q.length]; simpa using A⟩⟩;rw[Hk] at e;obtain⟨C,r,rfl⟩:=cM e;obtain⟨v,k,l⟩:=q.get r;refine⟨⟨vs,v,f,k⟩,λx B u=>?_⟩;obtain⟨y,p,t,c,m,w⟩:=u;have:=w vs f;rw[k] at this;cases this;subst t m;exact⟨Sub.upd c,.tup (SqT.of (aU.mpr ⟨λz=>o p z c,bT⟩)) (.cons .int (.cons (l.mono (hs.trans (kC (Sub.upd c)))) .nil))⟩
theorem ItD.zip (hK:W.K=X.K)(h:Rd (hid N H1) a (.lst vs))(q:Dens W (hid N H1) vs ds)(h':Rd (hid N H1) b (.lst ws))(q':Dens W (hid N H1) ws es) :
  ItD W N H1 (qU X.K a b) ((ds.zip es).map λp=>.tup [p.1,p.2]):=λM H hs A i=>by
 have m:SqL X.K H a vs:=.inl (Rd.sub (hs.trans bN) h);have c:SqL X.K H b ws:=.inl (Rd.sub (hs.trans bN) h');refine⟨λd e=>?_,λQ=>?_⟩
 .rw[GK] at e;obtain⟨⟨Y,Z⟩,J,rfl⟩:=cM e;obtain⟨F,t⟩:=List.getElem?_zip_eq_some.mp J;obtain⟨v,f1,f2⟩:=q.get F;obtain⟨w,g1,g2⟩:=q'.get t;refine⟨⟨vs,ws,v,w,m,c,f1,g1⟩,λx T u=>?_⟩;obtain⟨y,z,p,L,f,I,P,s⟩:=u;have n:=P vs m;have o:=s ws c;rw[f1] at n;rw[g1] at o;cases n;cases o;subst L I;exact⟨Sub.upd f,.tup (SqT.of (aU.mpr ⟨λz=>A p z f,bT⟩)) (.cons (f2.mono (hs.trans (kC (Sub.upd f)))) (.cons (g2.mono (hs.trans (kC (Sub.upd f)))) .nil))⟩
 .refine⟨vs,ws,m,c,?_⟩;rw[q.length,q'.length];simp only[GH,List.length_zip] at Q;omega
def DC (hK:W.K=X.K)(hg:Gl X "enumerate")(hm:X.mg "enumerate" = none)(hv:bootBuiltins "enumerate" = some (.type "enumerate"))(h:PA X [e] (bI W G g [ir] E))(hs:starEach [e] X.env=[(false,PySem.eval e X.env)]) :
  PI X (.Tuple es k1 tp) (.Call (.Name "enumerate" p) [e] [] pos) (gn W G g .enum [ir] E):=by
 refine (yP hg hm hv h hs).mono λσ H R q=>oZ q λN A z o y q B l hs u=>?_;obtain⟨k,d,m,rfl,hd,rfl⟩:=wk_enum o;obtain⟨v,rfl,n⟩:=Dens.one u;rcases hd with rfl | rfl
 .have b:Den W (hid N l) v (.lst m):=n;cases b with | @lst a i _ c f=>?_
  exact .inl ⟨a,i,rfl,.inl (Rd.sub bN c),q _ _ hs (ItD.enum hK c f)⟩
 .have b:Den W (hid N l) v (.tup m):=n;cases b with | @tup a i _ c f=>?_
  exact .inr ⟨a,i,rfl,by rw[<-hK]; exact SqT.sub bN c,q _ _ hs (ItD.enumT hK c f)⟩
def AI (hK:W.K=X.K)(hg:Gl X "zip")(hm:X.mg "zip" = none)(hv:bootBuiltins "zip" = some (.type "zip"))(h:PA X [e,e'] (bI W G g [ir,ir'] E))
  (hs:starEach [e,e'] X.env=[(false,PySem.eval e X.env),(false,PySem.eval e' X.env)])(hs2:starEach [e'] X.env=[(false,PySem.eval e' X.env)]) :
  PI X (.Tuple es k1 tp) (.Call (.Name "zip" p) [e,e'] [] pos) (gn W G g .zip [ir,ir'] E):=by
 refine (C2 hg hm hv h hs hs2).mono λσ H R q=>oZ q λN T Q t P q U r hs J=>?_;obtain⟨k,l,d,e,B,y,rfl,rfl,rfl,rfl⟩:=wk_zip t;obtain⟨v,w,rfl,I,A⟩:=Dens.two J;have o:Den W (hid N r) v (.lst B):=I;have m:Den W (hid N r) w (.lst y):=A;cases o with | @lst a i _ s x=>?_
 cases m with | @lst b n _ g1 g2=>?_
 exact⟨a,b,i,n,rfl,.inl (Rd.sub bN s),.inl (Rd.sub bN g1),q _ _ hs (ItD.zip hK s x g1 g2)⟩
def kE:aj->lE
 | []=>nz
 | i::is=>jl (dW i) (kE is)
def gT (K:bh):Tg->TG
 | .one i=>dW i
 | .many is=>mv K is.length (kE is)
theorem RelS.set (h:RelS W S a σ)(c:i < σ.length)(hd:Den W S v d):RelS W S (a.set i (some d)) (σ.set i (some v)):=λj e b=>by
 by_cases z:i=j
 .subst z;by_cases y:i<a.length
  .rw[GL y] at b;cases b;exact⟨v,GL c,hd⟩
  .rw[GR (by rw[GX]; omega)] at b; cases b
 .rw[GG z] at b;rw[GG z];exact h j e b
def RelS.skip (h:RelS W S a σ)(c:∀d,a[i]?≠some (some d)):RelS W S a (σ.set i (some v)):=λj e b=>by
 by_cases z:i=j
 .subst z; exact absurd b (c e)
 .rw[GG z]; exact h j e b
def C5:∀{is:aj} {l:av} {f:ax} {a:Sl} {σ:St} {Q:St->Hp->Prop},Dens W S l f->f.length=is.length->(∀i∈is,i < σ.length)->(∀i∈is,∀d,m[i]?≠some (some d))->RelS W S a σ->RelS W S m σ ->
  (∀σ',RelS W S (Ip.cP id is f a) σ'->RelS W S m σ'->σ'.length=σ.length->Q σ' H)->kE is l σ H Q:=by
 intro is;induction is with
 | nil=>
  intro l f a σ Q e b o n h c k;cases e with
  | nil=>exact⟨rfl,k σ h c rfl⟩
  | cons _ _=>simp at b
 | cons i is O=>
  intro l f a σ Q e b o n h c k;cases e with
  | nil=>simp at b
  | cons hd q=>
   refine⟨_,_,rfl,?_⟩;show kE is _ (σ.set i (some _)) H Q;refine O q (by simpa using b) (λj e=>by rw[GX]; exact o j (bK _ e)) (λj e=>n j (bK _ e)) (h.set (o i bP) hd) (c.skip (n i bP)) λσ' r p s=>k σ' r p (by rw[s,GX])
def xD (o:W.K=X.K)(hd:Den W (hid N H) v d)(m:∀i∈dg e,i < σ.length)(l:∀i∈dg e,∀d,h[i]?≠some (some d))(c:RelS W (hid N H) h σ)
  (b:dP id h e d=some p)(k:∀σ',RelS W (hid N H) p σ'->RelS W (hid N H) h σ'->σ'.length=σ.length->Q σ' H):gT X.K e v σ H Q:=by
 cases e with
 | one i=>
  dsimp only[dP] at b;cases b;exact k _ (c.set (m i (by simp[dg])) hd) (c.skip (l i (by simp[dg]))) (by rw[GX])
 | many is=>
  cases hd <;> dsimp only[dP] at b <;> try (cases b; done)
  rename_i a n r q j;by_cases f:r.length=is.length
  .rw[if_pos f] at b;cases b;refine⟨a,n,rfl,o ▸ SqT.sub bN q,j.length.trans f,?_⟩;exact C5 j f m l c c k
  .rw[if_neg f] at b; cases b
theorem uC:∀{a:ax} {j:aw},aW f a=.ok j->∀i d,a[i]? = some d->∃o c,f d=.ok o/\aW f (a.take i)=.ok c/\aW f (a.take (i+1))=.ok (c++o.toList)
 | [],_,_,i,d,e=>by simp at e
 | x::q,j,h,i,d,e=>by
  rw[aW] at h;obtain⟨o,b,h⟩:=iU h;obtain⟨r,p,h⟩:=iU h;cases i with
  | zero=>
   simp at e;subst e;refine⟨o,[],b,rfl,?_⟩;simp only[List.take_succ_cons,List.take_zero,aW,b,Ip.R.bind];cases o <;> rfl
  | succ i=>
   obtain⟨l,c,m,k,n⟩:=uC p i d (by simpa using e);refine⟨l,_,m,by simp only[List.take_succ_cons,aW,b,Ip.R.bind,k]; rfl,?_⟩;simp only[List.take_succ_cons,aW,b,Ip.R.bind,n];cases o <;> rfl
def GC (b:List aC)(h:RelS W S a σ):RelS W S (b.map (cW a)) (b.map (iy σ)):=λi d e=>by
 rw[GK] at e;obtain⟨o,l,c⟩:=cM e;cases o with
 | none=>cases c
 | some j=>
  have m:a[j]? = some (some d):=by
   have:(a[j]?).join=some d:=c;cases q:a[j]? with
   | none=>rw[q] at this; cases this
   | some r=>rw[q] at this; rw[show r=some d from this]
  obtain⟨v,k,f⟩:=h j d m;refine⟨v,?_,f⟩;rw[GK,l];show some ((σ[j]?).join)=some (some v);rw[k];rfl
def OwnV.snoc (h:Own W S H x.1 v x.2 f):∀{b a c},OwnV W S H b a c->OwnV W S H (b++[v]) (a++[x]) (c++f):=by
 intro _ _ _ hZ;induction hZ with
 | nil=>simpa using OwnV.cons h .nil
 | cons d q O=>
  rw[List.cons_append,List.cons_append,JJ];exact .cons d (O)
theorem u6:∀{b:ax} {a:aw},aW f b=.ok a->a.length<=b.length
 | [],_,h=>by cases h; exact bA _
 | x::d,a,h=>by
  rw[aW] at h;obtain⟨o,e,h⟩:=iU h;obtain⟨i,c,h⟩:=iU h;cases h;have:=u6 c;cases o <;> simp <;> omega
def rV (W:Wd)(G:Pg)(g:Nat->aw->Ip.Run):aF->TT
 | []=>gS
 | [t]=>ce W G g t λ_ _ _ _=>False
 | _=>λ_ _ _=>False
def dq (N:Addr->Prop)(l:Addr)(a:al):Addr->Prop:=λb=>(N b\/b=l)\/b∈a
def we (hK:W.K=X.K)(hidx:∀i∈dg tg,caps[i]? = some none)(h:be W G g (.comp caps tg wk it ts x) E σ H Q) :
  f8 (gn W G g wk it E) caps (gT X.K tg) (rV W G g ts) (be W G g x λ_ _ _ _=>False) σ H Q:=by
 obtain⟨N,a,hN,hS,h⟩:=h;rw[lp] at h;unfold f8;refine⟨N,a,hN,hS,?_⟩;cases e1:evals G g a it with
 | bad=>rw[e1] at h; exact h
 | exc c fs=>rw[e1] at h; exact h
 | ok vs=>
  rw[e1] at h;dsimp only[Ip.R.bind] at h;cases e2:dB wk vs with
  | none=>rw[e2] at h; exact h.elim
  | some ds=>
   rw[e2] at h;simp only at h;by_cases hl:ds.length<=SL
   rotate_left
   .rw[if_neg hl] at h; exact h.elim
   rw[if_pos hl] at h;cases e3:aW (compF G g (caps.map (cW a)) tg ts x) ds with
   | bad=>rw[e3] at h; exact h.elim
   | exc c fs=>rw[e3] at h; exact h.elim
   | ok zs=>
    rw[e3] at h;dsimp only[Ip.R.nox] at h;simp only[e2];intro J H1 hs1 hJ l hl1;have hN1:=hN.mono hs1;have a0n:∀i∈dg tg,∀d,(caps.map (cW a))[i]?≠some (some d):=λi hi d z=>by
     rw[GK,hidx i hi] at z; cases z
    have ilt:∀i∈dg tg,i<caps.length:=λi hi=>(di (hidx i hi)).1;refine⟨λi m ys σ Hc=>m=ds.length - i/\i<=ds.length/\∃(z1:aw) (fp:al),aW (compF G g (caps.map (cW a)) tg ts x) (ds.take i)=.ok z1/\fp.Nodup/\l∉fp/\(∀b∈fp,H1 b=none) /\
     OwnV W (hid (dq N l fp) Hc) Hc ys z1 fp/\Hc l=some (.lst ys)/\Sub H1 Hc/\RelS W (hid (dq N l fp) Hc) (caps.map (cW a)) σ/\σ.length=caps.length,
     ⟨ds.length,by simp,G3 _,[],[],rfl,.nil,by simp,λb z=>by simp at z,.nil,bT,Sub.upd hl1,?_,by simp⟩,?_⟩
    .refine (GC caps (hS.grow hs1)).mono (gM (Sub.upd hl1) λb z=>?_);rcases z with (z | z) | z
     .exact .inl z
     .rw[z]; exact .inr hl1
     .simp at z
    rintro i m ys σ1 Hc ⟨rfl,hi,z1,fp,ez,nd,lf,hf,ow,hcl,hs2,hS2,hlen⟩;have hNc:NOk (dq N l fp) Hc:=λb z=>by
     rcases z with (z | z) | z
     .exact (hN1.mono hs2) b z
     .rw[z,hcl]; simp
     .exact ow.dom b z
    have hsub:Sub (hid N H1) (hid (dq N l fp) Hc):=gM hs2 λb z=>by
     rcases z with (z | z) | z
     .exact .inl z
     .rw[z]; exact .inr hl1
     .exact .inr (hf b z)
    obtain⟨J1,J2⟩:=hJ (dq N l fp) Hc hsub hNc i;by_cases hlt:i<ds.length
    .obtain⟨o,z1',f1,f2,f3⟩:=uC e3 i ds[i] (by simp[hlt]);rw[ez] at f2;cases f2;obtain⟨Jg,Jy⟩:=J1 ds[i] (by simp[hlt]);refine .inr ⟨Jg,λys σ' H'=>∃(z1:aw) (fp:al),aW (compF G g (caps.map (cW a)) tg ts x) (ds.take (i+1))=.ok z1/\fp.Nodup/\l∉fp/\(∀b∈fp,H1 b=none) /\
      OwnV W (hid (dq N l fp) H') H' ys z1 fp/\H' l=some (.lst ys)/\Sub H1 H'/\RelS W (hid (dq N l fp) H') (caps.map (cW a)) σ'/\σ'.length=caps.length,
      λys' σ' H' p'=>⟨ds.length - (i+1),by omega,rfl,hlt,p'⟩,λv H' hy=>?_⟩
     obtain⟨s3,dx⟩:=Jy v H' hy;unfold compF at f1;cases eb:dP id (caps.map (cW a)) tg ds[i] with
     | none=>rw[eb] at f1; cases f1
     | some a1=>
      rw[eb] at f1;simp only at f1;have hN3:=hNc.mono s3;refine xD hK dx (λj hj=>by rw[hlen]; exact ilt j hj) a0n (hS2.grow s3) eb λσ2 r1 r0 hl2=>?_;have hlen2:σ2.length=caps.length:=hl2.trans hlen;have takeIt:∀y H4,Sub H' H4->Ip.eval G g a1 x=.ok y->o=some y->be W G g x (λ_ _ _ _=>False) σ2 H4 λv H5=>∃ys',H5 l=some (.lst ys')/\ys'.length<sizeLine /\
        ∃(z1:aw) (fp:al),aW (compF G g (caps.map (cW a)) tg ts x) (ds.take (i+1))=.ok z1/\fp.Nodup/\l∉fp/\(∀b∈fp,H1 b=none) /\
        OwnV W (hid (dq N l fp) (upd H5 l (.lst (ys'++[v])))) (upd H5 l (.lst (ys'++[v]))) (ys'++[v]) z1 fp/\(upd H5 l (.lst (ys'++[v]))) l=some (.lst (ys'++[v]))/\Sub H1 (upd H5 l (.lst (ys'++[v]))) /\
        RelS W (hid (dq N l fp) (upd H5 l (.lst (ys'++[v])))) (caps.map (cW a)) σ2/\σ2.length=caps.length:=by
       intro y H4 s4 ey ho;refine⟨dq N l fp,a1,hN3.mono s4,r1.grow s4,?_⟩;rw[ey];rintro v H5 ⟨s5,fq,nd5,hf5,ow5⟩;have sc5:Sub Hc H5:=(s3.trans s4).trans s5;have l4:H4 l≠none:=by rw[(s3.trans s4) l _ hcl]; simp
       have lq:l∉fq:=λz=>l4 (hf5 l z);have up:∀b,b≠l->(upd H5 l (.lst (ys++[v]))) b=H5 b:=λb z=>bE z;have big:Sub (hid (dq N l fp) Hc) (hid (dq N l (fp++fq)) (upd H5 l (.lst (ys++[v])))):=λb u e=>by
        obtain⟨g1,g2⟩:=aU.mp e;have bl:b≠l:=λz=>g1 (.inl (.inr z));refine aU.mpr ⟨λz=>?_,by rw[up b bl]; exact sc5 b u g2⟩;rcases z with z | z
        .exact g1 (.inl z)
        .rcases dL z with z | z
         .exact g1 (.inr z)
         .have:=hf5 b z;rw[(s3.trans s4) b u g2] at this;cases this
       refine⟨ys,sc5 l _ hcl,?_,z1++[y],fp++fq,by rw[f3,ho]; rfl,?_,?_,?_,?_,bT,?_,?_,hlen2⟩
       .rw[ow.length];have:=u6 ez;rw[HD] at this;have h2:SL<sizeLine:=by decide
        omega
       .refine GU.mpr ⟨nd,nd5,λb hb c hc z=>?_⟩;subst z;have h1:=ow.dom b hb;cases hq:Hc b with
        | none=>exact h1 hq
        | some u=>
         have:=hf5 b hc;rw[(s3.trans s4) b u hq] at this;cases this
       .intro z;rcases dL z with z | z
        .exact lf z
        .exact lq z
       .intro b z;rcases dL z with z | z
        .exact hf b z
        .exact (hs2.trans (s3.trans s4)).none (hf5 b z)
       .refine OwnV.snoc (ow5.mono (λb u e=>?_) λb hb u e=>?_) (ow.mono big λb hb u e=>?_)
        .obtain⟨g1,g2⟩:=aU.mp e;have bl:b≠l:=λz=>g1 (.inl (.inl (.inr z)));refine aU.mpr ⟨λz=>?_,by rw[up b bl]; exact g2⟩;rcases z with z | z
         .exact g1 (.inl (.inl z))
         .rcases dL z with z | z
          .exact g1 (.inl (.inr z))
          .exact g1 (.inr z)
        .rw[up b λz=>lq (z ▸ hb)]; exact e
        .rw[up b λz=>lf (z ▸ hb)]; exact sc5 b u e
       .intro b u e;rw[up b λz=>by rw[z,hl1] at e; cases e];exact (hs2.trans sc5) b u e
       .refine RelS.mono (λb u e=>?_) r0;obtain⟨g1,g2⟩:=aU.mp e;have bl:b≠l:=λz=>g1 (.inl (.inr z));refine aU.mpr ⟨λz=>?_,by rw[up b bl]; exact (s4.trans s5) b u g2⟩;rcases z with z | z
        .exact g1 (.inl z)
        .rcases dL z with z | z
         .exact g1 (.inr z)
         .have:=hf5 b z;rw[s4 b u g2] at this;cases this
      rcases ts with _ | ⟨t,_ | _⟩
      .
       dsimp only[de,Ip.R.bind] at f1;cases ey:Ip.eval G g a1 x with
       | bad=>rw[ey] at f1; cases f1
       | exc c fs=>rw[ey] at f1; cases f1
       | ok y=>
        rw[ey] at f1;cases f1;have t:=takeIt y H' (Sub.refl _) ey rfl;dsimp only[rV,gS,if_true];exact t
      .
       dsimp only[de,bG,Ip.R.bind] at f1;refine⟨dq N l fp,a1,hN3,r1,?_⟩;cases et:Ip.eval G g a1 t with
       | bad=>rw[et] at f1; cases f1
       | exc c fs=>rw[et] at f1; cases f1
       | ok tv=>
        obtain⟨kt,tv⟩:=tv;rw[et] at f1;simp only at f1;cases tv <;> dsimp only[Ip.ig] at f1 <;> try (cases f1; done)
        rename_i b;intro H4 s4;cases b with
        | true=>
         rw[if_pos rfl];simp only[if_true] at f1;cases ey:Ip.eval G g a1 x with
         | bad=>rw[ey] at f1; cases f1
         | exc c fs=>rw[ey] at f1; cases f1
         | ok y=>
          rw[ey] at f1;cases f1;exact takeIt y H4 s4 ey rfl
        | false=>
         rw[if_neg (by decide)];simp only[Bool.false_eq_true,if_false] at f1;cases f1;have sc4:Sub Hc H4:=s3.trans s4;exact⟨z1,fp,by rw[f3]; simp,nd,lf,hf,ow.mono (kC sc4) λb _ u e=>sc4 b u e,sc4 l _ hcl,hs2.trans sc4,r0.grow s4,hlen2⟩
      .
       exfalso;obtain⟨us,h1,h2⟩:=iU f1;dsimp only[bG] at h1;obtain⟨u1,_,h1⟩:=iU h1;obtain⟨u2,h3,h1⟩:=iU h1;obtain⟨u4,_,h3⟩:=iU h3;obtain⟨u5,_,h3⟩:=iU h3;cases h1;cases h3;simp only at h2;cases h2
    .have e:i=ds.length:=by omega
     subst e;rw[Jc (Nat.le_refl _),e3] at ez;cases ez;obtain⟨fq,nd2,sub,o2⟩:=OwnV.join (N:=λb=>N b\/b=l) nd (λb hb z=>z.elim (λy=>hN1 b y (hf b hb)) λy=>lf (y ▸ hb)) ow;refine .inl ⟨J2 (bA _),h _ _ ⟨hs1.trans hs2,l::fq,G2.mpr ⟨λz=>lf (sub l z),nd2⟩,λb z=>?_,l,ys,fq,rfl,hcl,?_,rfl⟩⟩
     .rcases ck z with y | y
      .rw[y]; exact hs1.none hl1
      .exact hs1.none (hf b (sub b y))
     .refine o2.imp λv d f hf2 ow=>ow.mono (λb u e=>?_) λb _ u e=>e;obtain⟨g1,g2⟩:=aU.mp e;refine aU.mpr ⟨λz=>g1 ?_,g2⟩;rcases z with z | z
      .exact .inl (.inl z)
      .rcases ck z with y | y
       .exact .inl (.inr y)
       .exact .inr y
end
def Cs (W:Wd)(G:Pg)(n f:Nat):Sp:=λg H Q E=>∃(N:Addr->Prop) (b:aw),NOk N H/\Dens W (hid N H) g (b.map (·.2))/\match Ip.run G n f b with
 | .ret k d []=>∀v a,Res W H N a (k,d) v->Q v a
 | .exc c h []=>∀e a,ExcR W H N a c h e->E (.ref e) none a
 | _=>False
def FW (W:Wd)(G:Pg)(n f:Nat):Sp:=λm H Q E=>∃(N:Addr->Prop) (i:KD) (j:aw) (v0:V) (l:av) (a:al),m=v0::l/\NOk N H/\a.Nodup/\(∀b∈a,¬N b) /\
 Own W (hid (λb=>N b\/b∈a) H) H i.1 v0 i.2 a/\Dens W (hid (λb=>N b\/b∈a) H) l (j.map (·.2))/\match Ip.run G n f (i::j) with
 | .ret k d [y]=>∀v g (h:al),Sub (hid (λb=>b∈a) H) g->h.Nodup->(∀b∈h,hid (λb=>b∈a) H b=none)->Own W (hid (λb=>N b\/b∈h) g) g y.1 v0 y.2 h->(d=.non->v=.non)->Q v g
 | .exc c o _=>∀e g,ExcR W (hid (λb=>b∈a) H) N g c o e->E (.ref e) none g
 | _=>False
def fD (W:Wd)(G:Pg)(n f:Nat)(F:Fn):Sp:=λa H Q E=>(F.io=[]/\Cs W G n f a H Q E)\/(F.io=[0]/\FW W G n f a H Q E)
def t8 (a:G.fn f=some F)(h:Ip.run G n f xs≠.bad):xs.length=F.np:=by
 cases n with
 | zero=>exact absurd rfl h
 | succ n=>
  refine Classical.byContradiction λe=>h ?_;show (match G.fn f with | some F=>if xs.length=F.np then _ else _ | none=>_)=_;rw[a]; exact if_neg e
def rX (b:G.fn f=some F)(h:fD W G n f F c H Q E):c.length=F.np:=by
 rcases h with ⟨_,N,a,_,d,q⟩ | ⟨_,N,e,a,v0,i,g,rfl,_,_,_,_,d,q⟩
 .have:=t8 (xs:=a) b (λz=>by rw[z] at q; exact q);rw[d.length,GH]; exact this
 .have:=t8 (xs:=e::a) b (λz=>by rw[z] at q; exact q);rw[List.length_cons,d.length,GH]; simpa using this
section
variable {X:Cx}{W:Wd}{G:Pg}{n:Nat}{E:St->XK}{σ:St}{H:Hp}{Q:VK}
def kX {b:aF}{d:Nat->aw->Ip.Run}{Q:av->Hp->Prop}{N:Addr->Prop}{a:Sl}(j:NOk N H)(l:RelS W (hid N H) a σ)
  (ok:∀i,evals G d a b=.ok i->∀g f,Sub H f->Dens W (hid N f) g (i.map (·.2))->Q g f)
  (ex:∀c h,evals G d a b=.exc c h->∀e k,ExcR W H N k c h e->E σ (.ref e) none k)(m:evals G d a b≠.bad):bI W G d b E σ H Q:=by
 refine⟨N,a,j,l,?_⟩;cases q:evals G d a b with
 | bad=>exact absurd q m
 | exc c h=>exact ex c h q
 | ok i=>exact λg f r=>ok i q g f r.1 (r.dens j)
noncomputable def cD (F:Fn)(m:Nat):ax:=F.dfl.drop (F.dfl.length - (F.np - m))
theorem Fl F a:Ip.fill F a=a++(cD F a.length).map λd=>(99,d):=rfl
def rL F a:(Ip.fill F a).map (·.2)=a.map (·.2)++cD F a.length:=by
 rw[Fl,HU,Jd];congr 1
 exact List.map_id _
def jq (h:evals G d a b=.ok c):c.length=b.length:=sr.evals_length h
def wC (h:dE G f k=some F):G.fn f=some F/\F.io=[]/\k<=F.np/\F.np - k<=F.dfl.length:=by
 unfold dE at h;cases q:G.fn f with
 | none=>rw[q] at h; cases h
 | some a=>
  rw[q] at h;simp only at h;by_cases c:a.io=[]/\k<=a.np/\a.np - k<=a.dfl.length
  .rw[if_pos c] at h; cases h; exact⟨rfl,c⟩
  .rw[if_neg c] at h; cases h
def vF (h:bX G m k d=some (f,F)):∃c b a,d=.ins c b/\G.cl c=some a/\a.meths.lookup m=some f/\G.fn f=some F/\F.io=[]/\b.lookup m=none/\k+1<=F.np/\F.np - (k+1)<=F.dfl.length:=by
 cases d <;> dsimp only[bX] at h <;> try (cases h; done)
 rename_i c b;cases j:G.cl c with
 | none=>rw[j] at h; cases h
 | some a=>
  rw[j] at h;simp only at h;cases l:a.meths.lookup m with
  | none=>rw[l] at h; cases h
  | some o=>
   rw[l] at h;simp only at h;cases g:G.fn o with
   | none=>rw[g] at h; cases h
   | some e=>
    rw[g] at h;simp only at h;by_cases i:e.io=[]/\b.lookup m=none/\k+1<=e.np/\e.np - (k+1)<=e.dfl.length
    .rw[if_pos i] at h;cases h;exact⟨c,b,a,rfl,j,l,g,i⟩
    .rw[if_neg i] at h; cases h
def tx (o:dE G f es.length=some F)(hd:∀S,Dens W S i (cD F es.length))(h:be W G (Ip.run G n) (.call f es) E σ H Q):eL (fD W G n f F) i E (bI W G (Ip.run G n) es E) σ H Q:=by
 obtain⟨N,a,l,p,h⟩:=h;obtain⟨_,g,_⟩:=wC o;rw[ii,o] at h;dsimp only[Ip.R.bind] at h;unfold eL;refine kX l p (λm ex u w hs t=>?_) (λc s b=>?_) λb=>?_
 .rw[ex] at h;simp only at h;refine .inl ⟨g,N,Ip.fill F m,l.mono hs,?_,?_⟩
  .rw[rL,jq ex];exact t.append (hd _)
  .cases q:Ip.run G n f (Ip.fill F m) with
   | bad=>rw[q] at h; exact h
   | ret k d outs=>
    rw[q] at h;cases outs with
    | nil=>exact λv j r=>h v j (r.trans hs)
    | cons _ _=>exact h
   | exc c s outs=>
    rw[q] at h;cases outs with
    | nil=>exact λe j r=>h e j (r.of_sub hs)
    | cons _ _=>exact h
 .rw[b] at h; exact h
 .rw[b] at h; exact h
theorem Et (nd:W.att.Nodup)(w:W.att[m]? = some nm)(L:W.iA c=some C)(hd:∀S,Dens W S z (cD F (y.length+1)))
 (p:NOk N H)(I:RelS W (hid N H) a σ)(J:Ip.eval G (Ip.run G n) a io=.ok (k,.ins c j))(U:bX G m y.length (.ins c j)=some (f,F))
    (h:match Ip.eval G (Ip.run G n) a (.meth m io y) with
      | .ok x=>∀v g,Res W H N g x v->Q v g
      | .exc c l=>∀e g,ExcR W H N g c l e->E σ (.ref e) none g
      | .bad=>False):ff C nm (fD W G n f F) z E (be W G (Ip.run G n) io E) (bI W G (Ip.run G n) y E) σ H Q:=by
  obtain⟨_,_,_,e0,_,_,_,u,s,_⟩:=vF U;cases e0;rw[jY,J] at h;simp only[Ip.R.bind,U,Ip.R.of] at h;unfold ff;refine⟨N,a,p,I,?_⟩;rw[J];intro v H1 r;have Z:=r.den p;have hs:=r.1;cases Z with | @ins b C' Y _ l ds P o T=>?_
  rw[L] at o;cases o;have t:=aU.mp P;refine⟨b,Y,l,rfl,t.2,(T.lookup nd w).2 s,?_⟩;refine kX (p.mono hs) (I.grow hs) (λM ex vs H2 i A=>?_) (λc l q e g r=>?_) λq=>?_
  . rw[ex] at h;simp only at h;refine .inl ⟨u,N,Ip.fill F ((k,.ins c j)::M),p.mono (hs.trans i),?_,?_⟩
    . rw[rL,List.length_cons,jq ex];exact (Dens.cons ((Den.ins P L T).mono (kC i)) A).append (hd _)
    . cases B:Ip.run G n f (Ip.fill F ((k,.ins c j)::M)) with
      | bad=>rw[B] at h; exact h
      | ret k d outs=>
        rw[B] at h;cases outs with
        | nil=>exact λv g r=>h v g (r.trans (hs.trans i))
        | cons _ _=>exact h
      | exc c l outs=>
        rw[B] at h;cases outs with
        | nil=>exact λe g r=>h e g (r.of_sub (hs.trans i))
        | cons _ _=>exact h
  . rw[q] at h;exact h e g (r.of_sub hs)
  . rw[q] at h; exact h
end
structure InsC (K:bh)(C:Addr):Prop where
 cls:Cls K C
 ha:PySem.W.findIn K (.ref C) "__class__" = some (some (.builtin "object.__class__"))
 hn:PySem.W.specialIn K (.builtin "object.__class__") "__get__" = some (some (.builtin "getset_descriptor.__get__"))
 htk:PySem.W.takesIn K (.builtin "object.__class__")=some true
 hm:PySem.W.mroIn K C (.type "object")=some true
structure ExcC (K:bh)(C:Addr):Prop where
 xc:∃fI tl,XC K C fI tl
 xi:XI K C
structure CF (W:Wd)(fl:aj):Prop where
 nd:W.att.Nodup
 ins:∀c C,W.iA c=some C->InsC W.K C/\∀f n,f∈fl->W.att[f]? = some n->NoAttr W.K C n
 exc:∀c C,W.xA c=some C->ExcC W.K C/\∀f n,f∈fl->W.att[f]? = some n->NoAttr W.K C n
section
variable {X:Cx}{W:Wd}{G:Pg}{cl:Nat->aw->Ip.Run}{E:St->XK}{fl:aj}
def PE.or (h:PE X e t)(c:PE X e b):PE X e (λσ H Q=>t σ H Q\/b σ H Q):=λa s σ H Q I q=>q.elim (h a s σ H Q I) (c a s σ H Q I)
def BQ (j:W.K=X.K)(l:CF W fl)(I:k∈fl)(i:W.att[k]? = some n)(J:PE X o (be W G cl io E))(f:attributeBase o n X.env (PySem.eval o X.env)=PySem.eval o X.env):PE X (.Attribute o n pos) (be W G cl (.op (.fld k) [io]) E):=by
 refine ((Gq J f).or (FV J f)).mono λσ H Q z0=>?_;obtain⟨N,a,h,u,q⟩:=z0;rw[cK,bG,de] at q;cases g:Ip.eval G cl a io with
 | bad=>rw[g] at q; exact q.elim
 | exc c m=>
  rw[g] at q;refine .inl ⟨N,a,h,u,?_⟩;rw[g]; exact q
 | ok x=>
  obtain⟨Z,d⟩:=x;rw[g] at q;dsimp only[Ip.R.bind,Ip.zY,cz] at q;cases d <;> dsimp only[Ip.iz] at q <;> try (exact q.elim)
  .rename_i c m;cases e:m.lookup k with
   | none=>rw[e] at q; exact q.elim
   | some d=>
    rw[e] at q;refine .inl ⟨N,a,h,u,?_⟩;rw[g];intro v P r;have y:=r.den h;cases y with | @ins b C M _ t U f F s=>?_
    obtain⟨w,z,p⟩:=(s.lookup l.nd i).1 d e;obtain⟨B,A⟩:=l.ins c C F;exact⟨b,C,M,t,w,rfl,(aU.mp f).2,j ▸ B.cls,j ▸ A k n I i,z,q _ _ (Res.of_den r.1 p)⟩
  .rename_i c m;cases e:m.lookup k with
   | none=>rw[e] at q; exact q.elim
   | some d=>
    rw[e] at q;refine .inr ⟨N,a,h,u,?_⟩;rw[g];intro v P r;have y:=r.den h;cases y with | @exc b C Y _ t U f F s=>?_
    obtain⟨w,z,p⟩:=(s.lookup l.nd i).1 d e;obtain⟨B,A⟩:=l.exc c C F;obtain⟨fI,L,T⟩:=B.xc;exact⟨b,C,fI,L,Y,t,w,rfl,(aU.mp f).2,j ▸ T,j ▸ A k n I i,z,q _ _ (Res.of_den r.1 p)⟩
noncomputable def gY (W:Wd):D->aA
 | .non=>some (.type "NoneType")
 | .bl _=>some (.type "bool")
 | .int _=>some (.type "int")
 | .str _=>some (.type "str")
 | .lst _=>some (.type "list")
 | .tup _=>some (.type "tuple")
 | .ins c _=>(W.iA c).map .ref
 | .exc c _=>(W.xA c).map .ref
def Eh {m:ah}{σ:St}{H:Hp}{s:Shared}{A:Around}{E:Value->Shared->Prop}{Q:Value->Shared->Prop}{c:Value}{b:Bool}{x:V}{u t:Value}{d:D}(j:W.K=X.K)(n:CF W fl)(I:Inv X m σ H s)(i:RelV x u)(hd:Den W H x d)(g:gY W d=some t)
  (e:PySem.W.kitOne X.K t c=some b)(h:∀q,Q (.bool b) { s with toks:=q }):wpAny (model X.prog X.w) A (call (.builtin "isinstance") [u,c]) Q E s:=by
 cases hd with
 | non=>cases g; exact jH I i .non e h
 | bl=>cases g; exact jH I i (.bl _) e h
 | int=>cases g; exact jH I i (.int _) e h
 | str=>cases g; exact jH I i (.str _) e h
 | lst f p=>
  cases g;rcases f with f | ⟨o,f⟩
  .exact jH I i (.lst f) e h
  .exact jH I i (.frz f) e h
 | @tup a v B f p=>
  cases g;cases (show u=Value.ref a from i);obtain⟨r,_,⟨o,g1,g2,_⟩,_⟩:=I.tuple (j ▸ f);exact Hg Jw I.kIn ⟨o,g1,g2⟩ e (λz=>nomatch z) h
 | ins f l _=>
  simp only[gY,l] at g;cases g;obtain⟨k,_⟩:=n.ins _ _ l;exact jH I i (.ins f (j ▸ k.cls) (j ▸ k.ha) (j ▸ k.hn) (j ▸ k.htk) (j ▸ k.hm)) e h
 | exc f l _=>
  simp only[gY,l] at g;cases g;obtain⟨k,_⟩:=n.exc _ _ l;obtain⟨fI,y,T⟩:=k.xc;exact Di I i (.exc f (j ▸ T) (j ▸ k.xi)) e h
def cg (W:Wd)(G:Pg)(t:Ip.Ty)(b:Value):Prop:=∀d a,gY W d=some a->PySem.W.kitOne W.K a b=some (aZ G d t)
def Den.ty (h:Den W S v d):∃t,gY W d=some t:=by
 cases h with
 | ins _ a _=>exact⟨_,by simp only[gY,a]; rfl⟩
 | exc _ a _=>exact⟨_,by simp only[gY,a]; rfl⟩
 | _=>exact⟨_,rfl⟩
def EL {a b:Expr}{ia:Ex}{t:Ip.Ty}{c:V}{cv:Value}{p pos:Pos}(hK:W.K=X.K)(cf:CF W fl)(hc:valOf c=some cv)(hi:cg W G t cv)(hg:Gl X "isinstance")(hm:X.mg "isinstance" = none)(hv:bootBuiltins "isinstance" = some (.builtin "isinstance"))
  (ha:PE X a (be W G cl ia E))(hb:PE X b (tC c))(hs1:starEach [a,b] X.env=(false,PySem.eval a X.env)::starEach [b] X.env)(hs2:starEach [b] X.env=(false,PySem.eval b X.env)::starEach [] X.env) :
  PE X (.Call (.Name "isinstance" p) [a,b] [] pos) (be W G cl (.op (.isi [t]) [ia]) E):=by
 have rule:CallR X (.builtin "isinstance") (λz H Q=>∃N x d,NOk N H/\z=[x,c]/\Den W (hid N H) x d/\Q (.bl ([t].any (aZ G d))) H):=by
  rintro y s σ H z us Q I r ⟨N,x,d,i,e,hd,q⟩;have h:[t].any (aZ G d)=aZ G d t:=by simp
  rw[h] at q;subst e;obtain⟨u,v,rfl,P,o⟩:=vals2 r;have C:v=cv:=by
   cases c with
   | ref a=>cases hc; exact o
   | ty n=>cases hc; exact o
   | _=>cases hc
  subst C;obtain⟨U,w⟩:=hd.ty;exact Eh hK cf I P (hd.mono bN) w (hK ▸ hi d U w) λZ=>⟨.bl _,H,I.tok _,rfl,q⟩
 refine (lM rule hg hm hv (gq ha (gq hb ip hs2) hs1) (by decide) (by decide) hs1 (by rw[hs2]; rfl)).mono λσ H Q m=>?_;obtain⟨N,as,i,B,q⟩:=m;rw[cK,bG,de] at q;refine⟨N,as,i,B,?_⟩;cases h:Ip.eval G cl as ia with
 | bad=>rw[h] at q; exact q.elim
 | exc c fs=>rw[h] at q; exact q
 | ok x=>
  obtain⟨kx,d⟩:=x;rw[h] at q;intro v H1 r;exact⟨N,v,d,i.mono r.1,rfl,r.den i,q _ _ (Res.of_flat r.1 rfl .bl)⟩
def BP (e:W.K=X.K)(p:CF W fl)(I:Inv X r σ H s)(g:RelV x u)(hd:Den W H x d)(b:gY W d=some t) :
  ∃P:Heap->Prop,PySem.W.KitX X.K u t P/\P s.heap/\u≠.builtin "__main__.__loader__#opaque":=by
 cases hd with
 | non=>cases b; cases (show u=Value.none from g); exact⟨_,PySem.W.kitx_none,trivial,λz=>nomatch z⟩
 | @bl y=>cases b; cases (show u=Value.bool y from g); exact⟨_,PySem.W.kitx_bool,trivial,λz=>nomatch z⟩
 | @int i=>cases b; obtain⟨t,q⟩:=(show ∃t,u=Value.int i t from g); cases q; exact⟨_,PySem.W.kitx_int,trivial,λz=>nomatch z⟩
 | @str y=>cases b; obtain⟨t,q⟩:=(show ∃t,u=Value.str y t from g); cases q; exact⟨_,PySem.W.kitx_str,trivial,λz=>nomatch z⟩
 | @lst a k l h v=>
  cases b;cases (show u=Value.ref a from g);obtain⟨_,m,n,_,_,A⟩:=I.rdL h;exact⟨_,JG,⟨_,A,rfl⟩,λz=>nomatch z⟩
 | @tup a k l h v=>
  cases b;cases (show u=Value.ref a from g);obtain⟨m,_,⟨o,g1,g2,_⟩,_⟩:=I.tuple (e ▸ h);exact⟨_,Jw,⟨o,g1,g2⟩,λz=>nomatch z⟩
 | @ins a C F c k l h j _=>
  simp only[gY,j] at b;cases b;cases (show u=Value.ref a from g);obtain⟨f,_⟩:=p.ins _ _ j;obtain⟨w,O,_⟩:=mK I.hok h;obtain⟨L,J,_⟩:=O.look;exact⟨_,PySem.W.kitx_own ((e ▸ f.cls:Cls X.K C).get _) (e ▸ f.cls:Cls X.K C).hd (e ▸ f.ha) (e ▸ f.hn) (e ▸ f.htk) (e ▸ f.hm),J,λz=>nomatch z⟩
 | @exc a C M c k l h j _=>
  simp only[gY,j] at b;cases b;cases (show u=Value.ref a from g);obtain⟨f,_⟩:=p.exc _ _ j;obtain⟨fI,B,T⟩:=f.xc;obtain⟨w,J,_,_⟩:=I.inst h;exact⟨_,vG (e ▸ T) (e ▸ f.xi),oA J,λz=>nomatch z⟩
inductive Isis (X:Cx) (W:Wd) (G:Pg):au->List Ip.Ty->av->ao->Prop
 | nil:Isis X W G [] [] [] []
 | cons {e:Expr} {es:au} {t:Ip.Ty} {ts:List Ip.Ty} {c:V} {cs:av} {cv:Value} {cvs:ao} (he:PE X e (tC c)) (hs:∀es,starEach (e::es) X.env=(false,PySem.eval e X.env)::starEach es X.env) (hc:valOf c=some cv) (hi:cg W G t cv) (r:Isis X W G es ts cs cvs):Isis X W G (e::es) (t::ts) (c::cs) (cv::cvs)
def CA (a:av):TA:=λ_ H Q=>Q a H
def Isis.pa (h:Isis X W G c e b cvs):PA X c (CA b):=by
 induction h with
 | nil=>exact ip
 | cons d hs g f r a=>exact gq d a (hs _)
theorem Isis.any (h:Isis X W G g a cs cvs)(b:gY W d=some t):PySem.W.kitAny W.K t cvs=some (a.any (aZ G d)):=by
 induction h with
 | nil=>rfl
 | @cons e g j a c cs k cvs m hs l i r f=>
  unfold PySem.W.kitAny;rw[i d t b,List.any_cons];cases aZ G d j with
  | true=>rfl
  | false=>exact f
def Isis.vals (h:Isis X W G l j g cvs)(r:Vals g b):b=cvs:=by
 induction h generalizing b with
 | nil=>cases r; rfl
 | @cons e l s j c g m cvs o hs d p q k=>
  cases r with
  | cons f i=>
   rw[k i];congr 1
   cases c with
   | ref a=>cases d; exact f
   | ty n=>cases d; exact f
   | _=>cases d
def Isis.len (h:Isis X W G c d b cvs):b.length=c.length:=by
 induction h with
 | nil=>rfl
 | cons _ _ _ _ _ a=>simp[a]
def DQ (C:W.K=X.K)(cf:CF W fl)(hl:b.length<=1000)(l:Isis X W G b F B cvs)(hg:Gl X "isinstance")(hm:X.mg "isinstance" = none)(U:bootBuiltins "isinstance" = some (.builtin "isinstance"))
  (ha:PE X a (be W G cl T E))(f:starEach [a,.Tuple b m j] X.env=(false,PySem.eval a X.env)::starEach [.Tuple b m j] X.env)(g:starEach [.Tuple b m j] X.env=(false,PySem.eval (.Tuple b m j) X.env)::starEach [] X.env) :
  PE X (.Call (.Name "isinstance" p) [a,.Tuple b m j] [] pos) (be W G cl (.op (.isi F) [T]) E):=by
 have rule:CallR X (.builtin "isinstance") (λM H Q=>∃N x d q,NOk N H/\M=[x,.ref q]/\H q=some (.tup B)/\Den W (hid N H) x d/\Q (.bl (F.any (aZ G d))) H):=by
  rintro L s σ H M us Q I r ⟨N,x,d,q,i,e,hq,hd,k⟩;subst e;obtain⟨u,v,rfl,ru,rv⟩:=vals2 r;cases (show v=Value.ref q from rv);obtain⟨tv,J⟩:=hd.ty;obtain⟨P,Z,h,y⟩:=BP C cf I ru (hd.mono bN) J;obtain⟨_,t,rI,⟨o,g1,g2,⟨n,g3⟩,_⟩⟩:=(show ObjOk X.prog X.w H s.heap q (.tup B) from I.hok q _ hq)
  have ei:=l.vals rI;subst ei;have eo:o=⟨.type "tuple",o.dict,.seq t.toArray n,o.slots⟩:=by
   cases o;simp only at g2 g3;rw[g2,g3]
  exact PySem.W.kia_tup Z I.kIn h (by rw[g1,eo]) (C ▸ l.any J) y λtk=>⟨.bl _,H,I.tok _,rfl,k⟩
 refine (lM rule hg hm U (gq ha (gq (uL l.pa) ip g) f) (by decide) (by decide) f (by rw[g]; rfl)).mono λσ H Q z0=>?_;obtain⟨N,as,i,Y,q⟩:=z0;rw[cK,evals,evals] at q;refine⟨N,as,i,Y,?_⟩;cases A:Ip.eval G cl as T with
 | bad=>rw[A] at q; exact q.elim
 | exc c fs=>rw[A] at q; exact q
 | ok x=>
  obtain⟨kx,d⟩:=x;rw[A] at q;intro v H1 r;refine⟨by rw[l.len]; exact bC hl (by decide),λp h=>?_⟩;exact⟨N,v,d,p,(i.mono r.1).mono (Sub.upd h),rfl,bT,(r.den i).mono (gM (Sub.upd h) λ_ z=>.inl z),q _ _ (Res.of_flat (r.1.trans (Sub.upd h)) rfl .bl)⟩
end
section
variable {X:Cx}{W:Wd}{G:Pg}{n:Nat}{E:St->XK}{σ:St}{H:Hp}{Q:VK}
def rr (h:br G c k=some (f,F,d)):∃a,G.cl c=some a/\a.init=some f/\G.fn f=some F/\(d=if a.isx=true then .exc c [] else .ins c [])/\F.io=[0]/\k+1<=F.np/\F.np - (k+1)<=F.dfl.length/\k<=50:=by
 unfold br at h;cases j:G.cl c with
 | none=>rw[j] at h; cases h
 | some a=>
  rw[j] at h;simp only at h;cases e:a.init with
  | none=>rw[e] at h; cases h
  | some l=>
   rw[e] at h;simp only at h;cases i:G.fn l with
   | none=>rw[i] at h; cases h
   | some b=>
    rw[i] at h;simp only at h;by_cases g:b.io=[0]/\k+1<=b.np/\b.np - (k+1)<=b.dfl.length/\k<=50
    .rw[if_pos g] at h;cases h;exact⟨a,rfl,e,i,rfl,g⟩
    .rw[if_neg g] at h; cases h
theorem xq (hio:F.io=[0])(hnp:xs.length+1<=F.np)
  (hd:∀S,Dens W S dvs (cD F (xs.length+1)))(hN:NOk N H1)(hs:Sub H H1)(dv:Dens W (hid N H1) vs (xs.map (·.2)))(hx:H1 x=none)(h12:∀b,b≠x->∀o,H1 b=some o->H2 b=some o)(h21:∀b,H2 b=none->H1 b=none)
  (ho:Own W (hid (λb=>N b\/b∈[x]) H2) H2 1 (.ref x) d0 [x])
  (h:match Ip.gk (Ip.run G n) (f,F,d0) xs with
   | .ok y=>∀v H',Res W H N H' y v->Q v H'
   | .exc c fs=>∀e H',ExcR W H N H' c fs e->E σ (.ref e) none H'
   | .bad=>False):fD W G n f F (.ref x::(vs++dvs)) H2 (λv H2=>v=.non/\Q (.ref x) H2) (E σ):=by
 dsimp only[Ip.gk] at h;have u:NOk N H2:=λb z q=>hN b z (h21 b q);have t:¬N x:=λz=>hN x z hx;have B:Sub H1 (hid (λb=>b∈[x]) H2):=λb o e=>aU.mpr ⟨(λz=>by rw[GI.mp z,hx] at e; cases e),h12 b (λz=>by rw[z,hx] at e; cases e) o e⟩;have a:∀b,hid (λb=>b∈[x]) H2 b=none->H1 b=none:=λb z=>B.none z;refine .inr ⟨hio,N,(1,d0),Ip.fill { F with np:=F.np - 1 } xs,.ref x,vs++dvs,[x],rfl,u,by simp,λb A=>by rw[GI.mp A]; exact t,ho,?_,?_⟩
 .have e:(Ip.fill { F with np:=F.np - 1 } xs).map (·.2)=xs.map (·.2)++cD F (xs.length+1):=by
   rw[rL];congr 1
   unfold cD;show F.dfl.drop (F.dfl.length - (F.np - 1 - xs.length))=_;congr 2
   omega
  rw[e];refine (dv.mono λb o eb=>?_).append (hd _);obtain⟨g1,g2⟩:=aU.mp eb;have L:b≠x:=λz=>by rw[z,hx] at g2; cases g2
  exact aU.mpr ⟨λz=>z.elim g1 λy=>L (GI.mp y),h12 b L o g2⟩
 .cases q:Ip.run G n f ((1,d0)::Ip.fill { F with np:=F.np - 1 } xs) with
  | bad=>rw[q] at h; exact h
  | exc c fs outs=>
   rw[q] at h;rintro e H' ⟨g1,g2,C,ws,g3,Z,g5⟩;exact h e H' ⟨hs.trans (B.trans g1),hs.none (a e g2),C,ws,g3,Z,g5⟩
  | ret k d outs=>
   rw[q] at h;cases d <;> try (exact h.elim)
   rcases outs with _ | ⟨y,_ | _⟩
   .exact h.elim
   rotate_right
   .exact h.elim
   .
    intro v H' P g1 nd Y ow T;exact⟨T rfl,h _ _ ⟨hs.trans (B.trans g1),P,nd,λb A=>hs.none (a b (Y b A)),ow⟩⟩
def ue (w:W.iA c=some C)(p:br G c es.length=some (f,F,.ins c []))(hd:∀S,Dens W S j (cD F (es.length+1)))
  (h:be W G (Ip.run G n) (.make c es) E σ H Q):gr C (fD W G n f F) j E (bI W G (Ip.run G n) es E) σ H Q:=by
 obtain⟨N,a,m,t,h⟩:=h;obtain⟨_,_,_,_,_,d,g,_⟩:=rr p;rw[lO,p] at h;dsimp only[Ip.R.bind] at h;unfold gr;refine kX m t (λJ ex I B hs u=>?_) (λc A k=>?_) λk=>?_
 .rw[ex] at h;intro x l s q v;have i:=m.mono hs;refine xq (d0:=.ins c []) d (by rw[jq ex]; exact g) (by rw[jq ex]; exact hd) i hs u s (λb r o e=>?_) (λb e=>?_) ⟨x,C,l,[],[],rfl,bT,w,.nil,rfl⟩ h
  .rw[bE r,bE λz=>by rw[z,q] at e; cases e]; exact e
  .by_cases z:b=x
   .rw[z,bT] at e; cases e
   .rw[bE z] at e;by_cases y:b=l
    .rw[y,bT] at e; cases e
    .rw[bE y] at e; exact e
 .rw[k] at h; exact h
 .rw[k] at h; exact h
def vW (u:W.xA c=some C)(p:br G c es.length=some (f,F,.exc c []))(hd:∀S,Dens W S j (cD F (es.length+1)))
  (h:be W G (Ip.run G n) (.make c es) E σ H Q):eM C (fD W G n f F) j E (bI W G (Ip.run G n) es E) σ H Q:=by
 obtain⟨N,a,m,t,h⟩:=h;obtain⟨_,_,_,_,_,d,g,_,q⟩:=rr p;rw[lO,p] at h;dsimp only[Ip.R.bind] at h;unfold eM;refine kX m t (λA ex y w hs l=>?_) (λc v k=>?_) λk=>?_
 .rw[ex] at h;refine⟨by rw[l.length,GH,jq ex]; omega,λx s=>?_⟩;have i:=m.mono hs;refine xq (d0:=.exc c []) d (by rw[jq ex]; exact g) (by rw[jq ex]; exact hd) i hs l s (λb r o e=>?_) (λb e=>?_) ⟨x,C,true,[],[],rfl,bT,⟨u,rfl⟩,.nil,rfl⟩ h
  .rw[bE r]; exact e
  .by_cases z:b=x
   .rw[z,bT] at e; cases e
   .rw[bE z] at e; exact e
 .rw[k] at h; exact h
 .rw[k] at h; exact h
end
def lr (h:fK o=true):attributeBase o f a w=w:=by
 cases o <;> try rfl
 rename_i g b c _;cases g <;> try rfl
 cases b <;> try rfl
 cases c <;> try rfl
 cases h
def eG (h:noStar (e::es)=true):(∀x p,e≠.Starred x p)/\noStar es=true:=by
 unfold noStar at h ⊢;rw[List.all_cons,tw] at h;refine⟨λx p z=>?_,h.2⟩;rw[z] at h;exact absurd (show false=true from h.1) (by decide)
def dC (h:∀x p,e≠.Starred x p):starEach (e::es) env=(false,PySem.eval e env)::starEach es env:=by
 rcases oO e es env with ⟨x,p,z⟩ | q
 .exact absurd z (h x p)
 .exact q
theorem jV:∀{es:au},noStar es=true->(backTo pos (starEach es env)).any (·.1)=false
 | [],_=>rfl
 | e::es,h=>by
  obtain⟨a,b⟩:=eG h;rw[dC a];show (false||(backTo pos (starEach es env)).any (·.1))=false;rw[jV b]; rfl
theorem pb:∀{a:au},noStar a=true->(backTo pos (starEach a b)).all (λx=>!x.1)=true
 | [],_=>rfl
 | e::a,h=>by
  obtain⟨c,d⟩:=eG h;rw[dC c];show (!false&&(backTo pos (starEach a b)).all (λx=>!x.1))=true;rw[pb d]; rfl
def vx (hs:fK o=true)(ns:noStar args=true)(hl:args.length<30)(hp:ap.endLine=cp.line) :
  PySem.eval (.Call (.Attribute o m ap) args [] cp) env=(do
   let ov <-PySem.eval o env
   standAt ap.atName
   let (f,first) <-holding [ov] (getMethod ov m (do return (<-importBound o env).getD true))
   callWith cp f first (backTo cp (starEach args env)) (backToKw cp (keywordEach [] env))):=by
 show (do
  let ov <-attributeBase o m env (PySem.eval o env)
  standAt ap.atName
  methodCall o m ap cp env ov (args.length+0) (backTo cp (starEach args env)) (backToKw cp (keywordEach [] env)))=_
 rw[lr hs];have d:methodCallForm (args.length+0) (backTo cp (starEach args env)) (backToKw cp (keywordEach [] env))=true:=by
  unfold methodCallForm;rw[pb ns];show (true&&true&&decide (args.length+0+0<30))=true;rw[GZ (by omega)]; rfl
 have b:methodCallPos true o env ap cp=pure cp:=by
  unfold methodCallPos;rw[if_pos (by rw[hp]; simp)]
 unfold methodCall;rw[d];unfold calleeOf;rw[b];rfl
noncomputable def rm (n:Nat):Nat:=3 * n+1
def FI (W:Wd)(G:Pg)(n:Nat)(P:Program)(w:World)(f:Str->aA)(base:Heap)(k:Nat)(F:Fn)(a:Addr):Prop:=
 ∃(e:FuncData) (d:ar),FnOk P w W.K f base (dM P w) (rm n) a e d (fD W G n k F)/\∀m,m<=F.np->F.np - m<=F.dfl.length->∃(c:ao) (b:av),Binds W.K e d c/\Vals b c/\∀S,Dens W S b (cD F m)
structure GF (W:Wd)(G:Pg)(T:Tb)(n:Nat)(P:Program)(w:World)(mg:Str->aA)(base:Heap):Prop where
 cf:CF W T.fl
 att:W.att=T.att
 blt:∀x v,(x,v)∈cy->mg x=none/\bootBuiltins x=some v
 cst:∀x d,T.cst.lookup x=some d->(x == ("__debug__" : Str))=false/\∃u v,mg x=some u/\RelV v u/\d.flat=true/\∀S,Den W S v d
 fns:∀x k,T.fns.lookup x=some k->(x == ("__debug__" : Str))=false/\∃F a,G.fn k=some F/\mg x=some (.ref a)/\PySem.W.keepIn W.K (.ref a)=true/\FI W G n P w mg base k F a
 cls:∀x c,T.cls.lookup x=some c->(x == ("__debug__" : Str))=false/\∃C,mg x=some (.ref C)/\∀Cl' f F,G.cl c=some Cl'->Cl'.init=some f->G.fn f=some F ->
  ∃a,FI W G n P w mg base f F a/\if Cl'.isx=true then W.xA c=some C/\PySem.W.keepIn W.K (.ref C)=true/\∃tl,XC W.K C (.ref a) tl else W.iA c=some C/\Mk W.K C a
 meth:∀c Cl' m f F,G.cl c=some Cl'->Cl'.meths.lookup m=some f->G.fn f=some F->∀nm,W.att[m]? = some nm->∃C a,W.iA c=some C/\Meth W.K C nm a/\FI W G n P w mg base f F a
 isB:∀x t,Ip.jS.lookup x=some t->mg x=none/\x ≠ "__name__" /\ (x == ("__debug__" : Str))=false/\∃nm,bootBuiltins x=some (.type nm)/\cg W G t (.type nm)
 isC:∀x c,T.cls.lookup x=some c->∃C,mg x=some (.ref C)/\cg W G (.cls c) (.ref C)
structure Gd (W:Wd)(G:Pg)(T:Tb)(n:Nat)(E:St->XK)(sc:Scope)(N:ar)(X:Cx):Prop where
 gf:GF W G T n X.prog X.w X.mg X.base
 K:W.K=X.K
 vis:∀x,bb sc x=true->oy X.env.scope x
 loc:∀x,bx sc x=true->Loc X.env.scope x/\(X.fn x=true\/X.env.scope.names.lookup x=some .local)
 gl:∀x,bi sc x=true->Gl X x
 fr:∀x,(sc.names.lookup x=some .cell\/sc.names.lookup x=some .free)->(X.env.scope.names.lookup x=some .cell\/X.env.scope.names.lookup x=some .free)
 nm:X.N=N
 nd:N.Nodup
 calm:X.calm=true
 pass:bw (dM X.prog X.w) X E
 room:Room (rm n+1) X.A
def DT (h:b.names.lookup x=some k):(relabel b c).names.lookup x=some k\/(k=.free/\(relabel b c).names.lookup x=some .cell):=by
 have go:∀(g:Str×NameKind->Str×NameKind),(∀p,g p=p\/(p.2=.free/\g p=(p.1,.cell)))->∀(a:List (Str×NameKind)),a.lookup x=some k->(a.map g).lookup x=some k\/(k=.free/\(a.map g).lookup x=some .cell):=by
  intro g o a;induction a with
  | nil=>intro h; exact nomatch h
  | cons p r l=>
   intro h;rw[GM];obtain⟨n,j⟩:=p;rw[List.lookup_cons] at h;rcases o (n,j) with e | ⟨m,q⟩
   .rw[e,List.lookup_cons];cases d:x == n with
    | true=>rw[d] at h; exact .inl h
    | false=>rw[d] at h; exact l h
   .rw[q,List.lookup_cons];cases d:x == n with
    | true=>
     rw[d] at h;have i:j=.free:=m;exact .inr ⟨by rw[<-Option.some.inj h]; exact i,rfl⟩
    | false=>rw[d] at h; exact l h
 refine go _ (λp=>?_) b.names h;obtain⟨n,k⟩:=p;by_cases f:(k == NameKind.free&&c.scope.kind == .function&&c.kindOf n == some .cell)=true
 .refine .inr ⟨?_,if_pos f⟩;simp only[tw,GN] at f;exact f.1.1
 .exact .inl (if_neg f)
def Gd.block (g:Gd W G T n E b N X)(e:dm b N (aX a) (bm N a) a=true) d C s H c :
  Gd W G T n (λ_ _ _ _=>False) a (aX a) (bv X (aX a) a d C s H c λ_ _=>False):=by
 have S:=CompS.of (show compOk b N (aX a) (bm N a) a=true from e);have look:∀x k,a.names.lookup x=some k->(relabel a X.env).names.lookup x=some k\/(k=.free/\(relabel a X.env).names.lookup x=some .cell):=λx k=>DT;refine⟨g.gf,g.K,λx h=>?_,λx h=>?_,λx h=>?_,λx h=>?_,rfl,S.nd,g.calm,passN,g.room⟩
 .unfold bb at h;simp only[G6,GN] at h;rcases h with (h | h) | h
  .rcases look x _ h with q | ⟨q,_⟩
   .exact .inl q
   .cases q
  .rcases look x _ h with q | ⟨q,_⟩
   .exact .inr (.inl q)
   .cases q
  .rcases look x _ h with q | ⟨_,q⟩
   .exact .inr (.inr q)
   .exact .inr (.inl q)
 .unfold bx at h;simp only[G6,GN] at h;rcases h with h | h
  .rcases look x _ h with q | ⟨q,_⟩
   .exact⟨.inl q,.inr q⟩
   .cases q
  .rcases look x _ h with q | ⟨q,_⟩
   .exact⟨.inr q,.inl (by show (a.names.lookup x == some NameKind.cell)=true; rw[h]; decide)⟩
   .cases q
 .unfold bi at h;simp only[GN] at h;rcases look x _ h with q | ⟨q,_⟩
  .exact q
  .cases q
 .rcases h with h | h
  .rcases look x _ h with q | ⟨q,_⟩
   .exact .inl q
   .cases q
  .rcases look x _ h with q | ⟨_,q⟩
   .exact .inr q
   .exact .inl q
theorem Gd.compOk (g:Gd W G T n E d N X)(b:dm d N (aX scope) (bm N scope) scope=true) :
  L2.compOk X.env.scope X.N (aX scope) (bm N scope) scope=true:=by
 rw[g.nm];unfold dm at b;unfold L2.compOk;simp only[tw,List.all_eq_true] at b ⊢;obtain⟨⟨⟨⟨c,k⟩,i⟩,f⟩,e⟩:=b;refine⟨⟨⟨⟨c,λy j=>?_⟩,i⟩,f⟩,e⟩;obtain⟨⟨l,h⟩,a⟩:=k y j;refine⟨⟨l,h⟩,?_⟩;simp only[G6,bne_iff_ne,ne_eq,GN] at a ⊢;rcases a with a | a
 .exact .inl a
 .exact .inr (g.fr y.1 a)
section
variable {X:Cx}{W:Wd}{G:Pg}{T:Tb}{n:Nat}{E:St->XK}{σ:St}{H:Hp}{f:Scope}{N:ar}
def sC (d:D):(∃i,d=.int i)\/∀i,d≠.int i:=by
 cases d with
 | int i=>exact .inl ⟨i,rfl⟩
 | _=>exact .inr λi z=>by cases z
def t3 {A:Nat->aw->Ip.Run}{o:Op}{x y:Ex}{Q:VK}{lo hi:Int->Option Int}(ho:∀u v:KD,bz G o [u,v]=match v.2 with | .int i=>bJ (lo i) (hi i) u.2 | _=>none)(h:be W G A (.op o [x,y]) E σ H Q) :
  be W G A x E σ H λv C=>be W G A y E σ C λw B=>∃i,w=.int i/\kr W v (lo i) (hi i) B Q:=by
 obtain⟨N,a,g,U,h⟩:=h;refine gJ g U (λu j v C fp hs nd hf Y s m=>?_) (λc I b=>?_) λb=>?_
 .refine gJ s m (λJ l w B fq d a0 p k L M=>?_) (λc I b e t r=>?_) λb=>?_
  .simp only[cK,de,bG,j,l,Ip.R.bind,ho] at h;have dv:=Y.later g d hf λ_ y=>y;have Z:=k.later (g.mono hs) (Sub.refl _) p λ_ y=>.inl y;obtain⟨k2,F⟩:=J;rcases sC F with ⟨i,rfl⟩ | P
   .simp only at h;cases q:bJ (lo i) (hi i) u.2 with
    | none=>rw[q] at h; exact h.elim
    | some z=>
     rw[q] at h;exact⟨i,Z.int_inv,N,u.2,z,g.mono (hs.trans d),dv,q,λv t r=>h v t (r.trans (hs.trans d))⟩
   .cases F <;> first | exact h.elim | exact absurd rfl (P _)
  .simp only[cK,bG,j,b,Ip.R.bind] at h;exact h e t (r.trans hs λ_ y=>.inl y)
  .simp only[cK,bG,j,b,Ip.R.bind] at h
 .simp only[cK,bG,b,Ip.R.bind] at h;exact h
 .simp only[cK,bG,b,Ip.R.bind] at h
def Fv (h:be W G J (.sl2 x y z) E σ H Q) :
  be W G J x E σ H λv Y=>be W G J y E σ Y λw P=>∃i,w=.int i/\be W G J z E σ P λu H3=>∃j,u=.int j/\kr W v (some i) (some j) H3 Q:=by
 obtain⟨N,a,k,Z,h⟩:=h;rw[Ip.qi] at h;refine gJ k Z (λu p v Y fp hs nd hf ow I C=>?_) (λc M d=>?_) λd=>?_
 .refine gJ I C (λu2 B w P fq l a5 F A a2 a3=>?_) (λc M d e m r=>?_) λd=>?_
  .have dw:=A.later (k.mono hs) (Sub.refl _) F λ_ y=>.inl y;obtain⟨k2,d2⟩:=u2;simp only[p,B,Ip.R.bind] at h;rcases sC d2 with ⟨i,rfl⟩ | ni
   .refine⟨i,dw.int_inv,?_⟩;have b:=hs.trans l;simp only at h;refine gJ (k.mono b) (Z.grow b) (λu3 o w3 H3 fr g a4 L s a1 a0=>?_) (λc M d e m r=>?_) λd=>?_
    .have dv:=ow.later k (l.trans g) hf λ_ y=>y;have dz:=s.later (k.mono b) (Sub.refl _) L λ_ y=>y;obtain⟨k3,U⟩:=u3;simp only[o] at h;rcases sC U with ⟨j,rfl⟩ | nj
     .simp only[Ip.sl2D] at h;cases q:bJ (some i) (some j) u.2 with
      | none=>rw[q] at h; exact h.elim
      | some t=>
       rw[q] at h;exact⟨j,dz.int_inv,N,u.2,t,k.mono (b.trans g),dv,q,λv m r=>h v m (r.trans (b.trans g))⟩
     .cases U <;> first | exact h.elim | exact absurd rfl (nj _)
    .simp only[d] at h;exact h e m (r.of_sub b)
    .simp only[d] at h
   .cases d2 <;> first | exact h.elim | exact absurd rfl (ni _)
  .simp only[p,d,Ip.R.bind] at h;exact h e m (r.trans hs λ_ y=>.inl y)
  .simp only[p,d,Ip.R.bind] at h
 .simp only[d,Ip.R.bind] at h;exact h
 .simp only[d,Ip.R.bind] at h
theorem Dens.find (b:Den W S x d)(g:d.scal=true):∀{c:av} {a:ax},Dens W S c a->a.all D.scal=true->(c.findIdx? λz=>L2.eqV z x)=d.find a:=by
 intro _ _ hZ;cases hZ with
 | nil=>exact λ_=>rfl
 | cons h q=>
  intro hs;rw[List.all_cons,tw] at hs;have e:=q.find b g hs.2;unfold D.find at e ⊢;rw[Ir,Ir,h.eqV b hs.1 g,e]
def sj {o:Op}{sel:D->Bool}{tp:Bool->String}{r:Bool->V->av->Hp->VK->Prop}{g:Nat->aw->Ip.Run}{x y:Ex}{Q:VK}(C:∀a c m,Ip.eval G g a y≠.exc c m)
  (key:∀b u s z,bz G o [u,s]=some z->sel u.2=b->∃j,z=(99,.int j)/\∀v l t,Sub t l->Den W t v u.2->tyV X.K (tp b) v l/\∀p L w,Sub l p->Sub t L->Den W L w s.2->∀Q:VK,Q (.int j) p->r b v [w] p Q)
  (h:be W G g (.op o [x,y]) E σ H Q):gN X.K (tp true) (r true) (be W G g x E) (bI W G g [y] E) σ H Q\/gN X.K (tp false) (r false) (be W G g x E) (bI W G g [y] E) σ H Q:=by
 obtain⟨N,a,F,J,h⟩:=h;have d:∀b,(∀u,Ip.eval G g a x=.ok u->sel u.2=b)->gN X.K (tp b) (r b) (be W G g x E) (bI W G g [y] E) σ H Q:=λb hb=>by
  unfold gN;refine gJ F J (λu A v l fp hs nd hf P M a0=>?_) (λc m i=>?_) λi=>?_
  .cases q:Ip.eval G g a y with
   | bad=>simp only[cK,bG,A,q,Ip.R.bind] at h
   | exc c m=>exact absurd q (C a c m)
   | ok s=>
    simp only[cK,de,bG,A,q,Ip.R.bind] at h;cases B:bz G o [u,s] with
    | none=>rw[B] at h; exact h.elim
    | some z=>
     rw[B] at h;obtain⟨j,rfl,kk⟩:=key b u s z B (hb u A);obtain⟨k1,k2⟩:=kk v l (hid N l) bN (P.later F (Sub.refl _) hf λ_ y=>y);refine⟨k1,kX (F.mono hs) (J.grow hs) (λzs I vs p k Y=>?_) (λc m i=>?_) λi=>?_⟩
     .simp only[de,bG,q,Ip.R.bind] at I;cases I;obtain⟨w,rfl,Z⟩:=Dens.one Y;exact k2 p (hid N p) w k (kC k) Z Q (h _ _ (Res.trans (hs.trans k) Res.int))
     .simp only[de,bG,q,Ip.R.bind] at i;cases i
     .simp only[de,bG,q,Ip.R.bind] at i;cases i
  .simp only[cK,bG,i,Ip.R.bind] at h;exact h
  .simp only[cK,bG,i,Ip.R.bind] at h
 cases q:Ip.eval G g a x with
 | ok u=>
  cases hs:sel u.2 with
  | true=>exact .inl (d true λU e=>by rw[q] at e; cases e; exact hs)
  | false=>exact .inr (d false λU e=>by rw[q] at e; cases e; exact hs)
 | bad=>exact .inl (d true λu e=>by rw[q] at e; cases e)
 | exc c m=>exact .inl (d true λu e=>by rw[q] at e; cases e)
def Dh {cl:Nat->aw->Ip.Run}{x y:Ex}{Q:VK}(hK:W.K=X.K)(nox:∀a c fs,Ip.eval G cl a y≠.exc c fs)(h:be W G cl (.op .index [x,y]) E σ H Q) :
  gN X.K "list" hG (be W G cl x E) (bI W G cl [y] E) σ H Q\/gN X.K "tuple" (hU X.K) (be W G cl x E) (bI W G cl [y] E) σ H Q:=by
 refine sj (sel:=D.isL) (tp:=λb=>cond b "list" "tuple") (r:=λb=>cond b hG (hU X.K)) nox (λb u u2 z hz hb=>?_) h;rw[Ip.ET] at hz;dsimp only[bQ] at hz;obtain⟨k,d⟩:=u;rcases Ip.A4 hz with ⟨xs,e⟩ | ⟨xs,e⟩ <;> simp only at e <;> subst e <;> cases hb
 .dsimp only[Ip.wc] at hz;by_cases hp:(u2.2.scal&&xs.all D.scal)=true
  rotate_left
  .rw[if_neg hp] at hz; cases hz
  rw[if_pos hp] at hz;rw[tw] at hp;cases hj:u2.2.find xs with
  | none=>rw[hj] at hz; cases hz
  | some j=>
   rw[hj] at hz;cases hz;refine⟨j,rfl,λv H1 S1 s1 dv=>?_⟩;cases dv with | @tup l ws _ h1 h2=>?_
   have sq:SqT X.K H1 l ws:=by rw[<-hK]; exact SqT.sub s1 h1
   refine⟨.inr (.inl ⟨rfl,ws,sq⟩),λH2 S2 w s2 s3 dw Q q=>?_⟩;exact⟨l,ws,w,j,rfl,rfl,SqT.sub s2 sq,dw.flatV hp.1,(h2.mono s3).flatV hp.2,(Dens.find dw hp.1 (h2.mono s3) hp.2).trans hj,q⟩
 .dsimp only[Ip.zr] at hz;by_cases hp:(u2.2.scal&&xs.all D.scal)=true
  rotate_left
  .rw[if_neg hp] at hz; cases hz
  rw[if_pos hp] at hz;rw[tw] at hp;cases hj:u2.2.find xs with
  | none=>rw[hj] at hz; cases hz
  | some j=>
   rw[hj] at hz;cases hz;refine⟨j,rfl,λv H1 S1 s1 dv=>?_⟩;cases dv with | @lst l ws _ h1 h2=>?_
   have sq:Rd H1 l (.lst ws):=Rd.sub s1 h1;refine⟨.inl ⟨rfl,ws,.inl sq⟩,λH2 S2 w s2 s3 dw Q q=>?_⟩;exact⟨l,ws,w,j,rfl,rfl,Rd.sub s2 sq,dw.flatV hp.1,(h2.mono s3).flatV hp.2,(Dens.find dw hp.1 (h2.mono s3) hp.2).trans hj,q⟩
def lj (h:be W G l (.op o [x]) E σ H Q):oq (λd=>rD W G o d) (bI W G l [x] E) σ H Q:=by
 obtain⟨N,a,g,i,h⟩:=h;rw[cK] at h;unfold oq;refine kX g i (λe ex d m hs k=>?_) (λc p b=>?_) λb=>?_
 .rw[ex] at h;dsimp only[Ip.R.bind] at h;cases q:bz G o e with
  | none=>rw[q] at h; exact h.elim
  | some z=>
   rw[q] at h;exact⟨N,e,z,g.mono hs,k,q,λv j r=>h v j (r.trans hs)⟩
 .rw[b] at h; exact h
 .rw[b] at h; exact h
theorem Vals.nums:∀{is:ak} {b:ao},Vals (is.map V.int) b->∃a:List (Int×Tok),b=a.map (λp=>.int p.1 p.2)/\a.map (·.1)=is
 | [],b,r=>by cases r; exact⟨[],rfl,rfl⟩
 | i::is,b,r=>by
  cases r with
  | cons h q=>
   obtain⟨t,rfl⟩:=h;obtain⟨a,rfl,e⟩:=Vals.nums q;exact⟨(i,t)::a,rfl,by rw[GM,e]⟩
noncomputable def iR (i:Int)(is:ak):Int:=is.foldl (λa b=>if b<a then b else a) i
def yt (h:xs.toList.map (·.1)=i::is):∀k,k<=is.length->numAt xs (argBest (λa b=>decide (numAt xs a<numAt xs b)) k)=iR i (is.take k):=by
 have g:∀j,numAt xs j=((i::is)[j]?).getD 0:=λj=>by
  rw[<-h];simp[numAt]
 intro k;induction k with
 | zero=>intro _; simp[argBest,g,iR]
 | succ k d=>
  intro o;have d:=d (by omega);have l:is.take (k+1)=is.take k++[is[k]'(by omega)]:=List.take_succ_eq_append_getElem (by omega);have e:numAt xs (k+1)=is[k]'(by omega):=by rw[g]; simp[show k<is.length by omega]
  have m:iR i (is.take (k+1))=if is[k]'(by omega)<iR i (is.take k) then is[k]'(by omega) else iR i (is.take k):=by
   rw[l];unfold iR;rw[JK];rfl
  rw[m,argBest];by_cases c:is[k]'(by omega)<iR i (is.take k)
  .rw[if_pos c,if_pos (by rw[e,d]; exact GZ c),e]
  .rw[if_neg c,if_neg (by rw[e,d]; simpa using c),d]
theorem vV:∀{a:ax} {is:ak},dk a=some is->a=is.map .int
 | [],is,h=>by cases h; rfl
 | d::a,is,h=>by
  cases d with
  | int i=>
   obtain⟨c,b,rfl⟩:=cM (show (dk a).map (λis=>i::is)=some is from h);rw[vV b]; rfl
  | _=>cases h
theorem Dens.nums:∀{is:ak} {a:av},Dens W S a (is.map .int)->a=is.map .int
 | [],_,.nil=>rfl
 | i::is,_,.cons h q=>by rw[h.int_inv,Dens.nums q]; rfl
def DF (L:X.calm=true):CallR X (.builtin "min") (λxs H Q=>∃a i is S,xs=[.ref a]/\Sub S H/\Den W S (.ref a) (.lst ((i::is).map .int))/\Q (.int (iR i is)) H):=by
 rintro d s σ H Z Y Q I z ⟨a,i,is,S,e,m,C,q⟩;subst e;obtain⟨u,rfl,J⟩:=z.one;cases J;cases C with | @lst l P _ k y=>?_
 have B:=y.nums;subst B;obtain⟨_,p,n,x,h,r⟩:=I.rdL (Rd.sub m k);obtain⟨c,rfl,g⟩:=x.nums;have F:s.heap.IsList a (intItems c.toArray):=⟨_,r,rfl,n,by simp[intItems]⟩
 have b:c.length=is.length+1:=by rw[<-GH (·.1),g]; rfl
 refine min_intList (I.ok.hd L) F (by simp[b]) λv U j o M=>?_;obtain⟨t,rfl⟩:=intItems_at o;have A:=yt (xs:=c.toArray) (by simpa using g) is.length (bA _);have w:c.toArray.size - 1=is.length:=by simp[b]
 rw[w,A,List.take_length];exact⟨.int (iR i is),H,I.kept (t':=j) M,⟨_,rfl⟩,q⟩
def AE (m:X.calm=true):CallR X (.builtin "min") (λj=>rD W G .min1 j):=(DF (W:=W) m).imp λu H Q y=>by
 obtain⟨N,j,z,w,hd,h,r⟩:=y;rw[Ip.yq] at h;obtain⟨v,p,rfl,rfl,g,l⟩:=hd.vs1 (o:=.min1) h;obtain⟨e,k,b⟩:=m7 l;rw[k] at g;cases e with
 | nil=>cases b
 | cons d e=>
  cases d with
  | int i=>
   cases c:dk e with
   | none=>simp only[Ip.fi,c] at b; cases b
   | some is=>
    simp only[Ip.fi,c] at b;cases b;rw[vV c] at g;cases g with | @lst a t _ q s=>?_
    exact⟨a,i,is,_,rfl,bN,.lst q s,r _ _ Res.int⟩
  | _=>cases b
def pS T f N m x p:cE T f N m (.Starred x p)=.bad:=by
 cases m <;> rfl
theorem tR:∀{l:List (Str×α)},l.lookup x=some v->(x,v)∈l
 | [],h=>nomatch h
 | (y,j)::r,h=>by
  rw[List.lookup_cons] at h;cases e:x == y with
  | true=>
   rw[e] at h;rw[GN] at e;cases h;rw[e];exact bP
  | false=>rw[e] at h; exact bK _ (tR h)
theorem vL (g:Gd W G T n E f N X):∀{a:au} {is:aj},(a.mapM λ(e:Expr)=>match e with
  | .Name x _=>if bx f x then pos? x N else none
  | _=>none)=some is->lU X a (kE is)/\(assignEach a X.env).length=is.length/\(assignEach a X.env).findIdx? (·.1)=none
 | [],is,h=>by
  cases h;exact⟨Ff,rfl,rfl⟩
 | e::a,is,h=>by
  rw[List.mapM_cons] at h;cases e with
  | Name x p=>
   by_cases b:bx f x=true
   .change ((if bx f x then pos? x N else none) >>= _)=_ at h;rw[if_pos b] at h;cases q:pos? x N with
    | none=>rw[q] at h; cases h
    | some i=>
     rw[q] at h;cases c:(a.mapM λ(e:Expr)=>match e with
       | .Name x _=>if bx f x then pos? x N else none
       | _=>none) with
     | none=>change (_ >>= _)=_ at h; rw[c] at h; cases h
     | some o=>
      change (_ >>= _)=_ at h;rw[c] at h;cases h;obtain⟨m,k,r⟩:=vL g c;obtain⟨d,l⟩:=g.loc x b;have j:X.N[i]? = some x:=by rw[g.nm]; exact pos?_get q
      refine⟨AB (rJ (by rw[g.nm]; exact g.nd) j d l) m rfl,?_,?_⟩
      .show (assignEach a X.env).length+1=o.length+1;rw[k]
      .show List.findIdx? _ ((false,_)::assignEach a X.env)=none;rw[Ir,r];rfl
   .change ((if bx f x then pos? x N else none) >>= _)=_ at h;rw[if_neg b] at h; cases h
  | _=>cases h
def oR (g:Gd W G T n E f N X)(h:cY f N b=some t):PG X b (gT X.K t):=by
 cases b with
 | Name x p=>
  dsimp only[Ip.wR] at h;by_cases a:bx f x=true
  .rw[if_pos a] at h;obtain⟨i,q,rfl⟩:=cM h;obtain⟨j,c⟩:=g.loc x a;exact rJ (by rw[g.nm]; exact g.nd) (by rw[g.nm]; exact pos?_get q) j c
  .rw[if_neg a] at h; cases h
 | Tuple m k p=>
  dsimp only[Ip.AM] at h;obtain⟨is,q,rfl⟩:=cM h;obtain⟨d,l,e⟩:=vL g q;exact Gc g.calm d l e
 | _=>cases h
end
section
variable {W:Wd}{G:Pg}{T:Tb}{n:Nat}
structure IH (W:Wd)(G:Pg)(T:Tb)(n m:Nat):Prop where
 e:∀{E:St->XK} {sc:Scope} {N:ar} {X:Cx},Gd W G T n E sc N X->∀x,PE X x (be W G (Ip.run G n) (cE T sc N m x) E)
 t:∀{E:St->XK} {sc:Scope} {N:ar} {X:Cx},Gd W G T n E sc N X->∀x,PT X x (ce W G (Ip.run G n) (cT T sc N m x) E)
 c:∀{E:St->XK} {sc:Scope} {N:ar} {X:Cx},Gd W G T n E sc N X->∀a os bs p,PT X (.Compare a os bs p) (ce W G (Ip.run G n) (cE T sc N m (.Compare a os bs p)) E)
 i:∀{E:St->XK} {sc:Scope} {N:ar} {X:Cx},Gd W G T n E sc N X->∀tg x,((cI T sc N m x).1=.enum\/(cI T sc N m x).1=.zip->∃es k p,tg=.Tuple es k p)->PI X tg x (gn W G (Ip.run G n) (cI T sc N m x).1 (cI T sc N m x).2 E)
 b:∀{E:St->XK} {sc:Scope} {N:ar} {X:Cx},Gd W G T n E sc N X->∀f args p pos,bi sc f=true->PE X (.Call (.Name f p) args [] pos) (be W G (Ip.run G n) (cB T sc N m f args) E)
variable {m:Nat}{E:St->XK}{sc:Scope}{N:ar}{X:Cx}
def IH.args (a:IH W G T n m)(g:Gd W G T n E sc N X) es:PA X es (bI W G (Ip.run G n) (es.map (cE T sc N m)) E):=
 vH (λe _=>a.e g e) λe _ x p h=>by rw[h]; exact pS T sc N m x p
theorem Gd.units (g:Gd W G T n E sc N X):X.A.units+64<cLine:=g.room.units
def jK:PI X b x (gn W G (Ip.run G n) .seq [.bad] E):=λa s σ H R I z=>by
 obtain⟨_,_,_,_,q⟩:=z;rw[bG,gC] at q;exact q.elim
def ft:PT X x (ce W G (Ip.run G n) .bad E):=λa s σ H R I z=>by
 obtain⟨_,_,_,_,q⟩:=z;rw[gC] at q;exact q.elim
def Gv (g:Gd W G T n E sc N X) x p:PE X (.Name x p) (be W G (Ip.run G n) (cE T sc N (m+1) (.Name x p)) E):=by
 rw[Ip.zk];by_cases a:(bb sc x&&Ip.aQ x)=true
 .rw[if_pos a];rw[tw] at a;unfold Ip.pv?;cases q:pos? x N with
  | none=>exact bL
  | some i=>
   have ok:=a.2;unfold Ip.aQ at ok;simp only[tw,Iz] at ok;exact CH (oE (by rw[g.nm]; exact pos?_get q) (g.vis x a.1) ok.1 ok.2)
 .rw[if_neg a];by_cases b:bi sc x=true
  .rw[if_pos b];cases q:T.cst.lookup x with
   | none=>exact bL
   | some d=>
    obtain⟨hd,u,v,f,r,c,e⟩:=g.gf.cst x d q;exact ny c e (vY (g.gl x b) f r hd)
  .rw[if_neg b]; exact bL
def EM c k p:PE X (.Constant c k p) (be W G (Ip.run G n) (cE T sc N (m+1) (.Constant c k p)) E):=by
 cases c with
 | none=>exact ny rfl (λ_=>.non) xN
 | bool b=>exact ny rfl (λ_=>.bl) yw
 | int i=>exact ny rfl (λ_=>.int) vE
 | str s=>exact ny rfl (λ_=>.str) zR
 | _=>exact bL
def Fk (f:IH W G T n m)(g:Gd W G T n E sc N X) a b o p:PE X (.BinOp a o b p) (be W G (Ip.run G n) (cE T sc N (m+1) (.BinOp a o b p)) E):=by
 have d:=f.e g a;have c:=f.e g b;cases o with
 | Add=>exact (lh (A3 g.K) d c).mono λσ H Q=>iY λ_ _ _ _ h=>h
 | Sub=>exact (lh AY d c).mono λσ H Q=>iY λ_ _ _ _ h=>h
 | Mult=>exact (lh Dw d c).mono λσ H Q=>iY λ_ _ _ _ h=>h
 | FloorDiv=>exact (lh Ed d c).mono λσ H Q=>iY λ_ _ _ _ h=>h
 | Mod=>exact (lh BG d c).mono λσ H Q=>iY λ_ _ _ _ h=>h
 | Pow=>exact (lh xX d c).mono λσ H Q=>iY λ_ _ _ _ h=>h
 | _=>exact bL
def rS (c:IH W G T n m)(g:Gd W G T n E sc N X) a o p:PE X (.UnaryOp o a p) (be W G (Ip.run G n) (cE T sc N (m+1) (.UnaryOp o a p)) E):=by
 have b:=c.e g a;cases o with
 | Not=>exact (Aq b).mono λσ H Q=>i4 xP
 | USub=>exact (ud uV b).mono λσ H Q=>i4 Cz
 | _=>exact bL
def yc (d:IH W G T n m)(g:Gd W G T n E sc N X) o c p:PE X (.BoolOp o c p) (be W G (Ip.run G n) (cE T sc N (m+1) (.BoolOp o c p)) E):=by
 match c with
 | []=>exact bL
 | [a]=>exact yS (d.e g a)
 | a::b::c=>
  cases o with
  | And=>exact (DU (d.e g a) (d.e g (.BoolOp .And (b::c) p))).mono λσ H Q=>ya
  | Or=>exact (zF (d.e g a) (d.e g (.BoolOp .Or (b::c) p))).mono λσ H Q=>ra
def xg (h:da b=true):behindInMarks o b=false:=by
 cases b <;> first | rfl | cases h
def lw (g:Gd W G T n E sc N X)(h:gE o=some p):OpR X (compareOp o) (λx y=>rD W G p [x,y]):=by
 cases o <;> (try cases h)
 .exact pB g.K g.units
 .exact sD g.K g.units
 .exact pL
 .exact qR
 .exact rM
 .exact rk
 .exact qp g.K
 .exact yL g.K
def wj (h:jo o=some p):gE o=some p/\o≠.In/\o≠.NotIn:=by
 cases o <;> (try cases h) <;> exact⟨rfl,by decide,by decide⟩
def uK (h:isNone b=true):∃k p,b=.Constant .none k p:=by
 cases b <;> try (cases h; done)
 rename_i c k p;cases c <;> first | exact⟨k,p,rfl⟩ | cases h
def tX (s:IH W G T n m)(g:Gd W G T n E sc N X) a os i p :
  PE X (.Compare a os i p) (be W G (Ip.run G n) (cE T sc N (m+1) (.Compare a os i p)) E)/\PT X (.Compare a os i p) (ce W G (Ip.run G n) (cE T sc N (m+1) (.Compare a os i p)) E):=by
 have d:=s.e g a;match os,i with
 | [o],[b]=>
  have j:=s.e g b;have rest:∀q,gE o=some q->PE X (.Compare a [o] [b] p) (be W G (Ip.run G n) (if da b then .op q [cE T sc N m a,cE T sc N m b] else .bad) E)/\PT X (.Compare a [o] [b] p) (ce W G (Ip.run G n) (if da b then .op q [cE T sc N m a,cE T sc N m b] else .bad) E):=λq w=>by
   by_cases l:da b=true
   .rw[if_pos l];exact⟨(ED (lw g w) d j (xg l)).mono λσ H Q=>iY λ_ _ _ _ h=>h,(CI (lw g w) d j (xg l)).mono λσ H Q h=>iY (λ_ _ _ _ h=>h) (mD h)⟩
   .rw[if_neg l]; exact⟨bL,ft⟩
  cases o with
  | Is=>
   dsimp only[Ip.pX];by_cases f:isNone b=true
   .rw[if_pos f];obtain⟨k,z,rfl⟩:=uK f;exact⟨(uO (vK d)).mono λσ H Q=>i4 (r:=λx H Q=>Q (.bl (decide (x=.non))) H) wV,(wg (vK d)).mono λσ H Q h=>i4 (r:=λx H Q=>Q (.bl (decide (x=.non))) H) wV (mD h)⟩
   .rw[if_neg f]; exact⟨bL,ft⟩
  | IsNot=>
   dsimp only[Ip.pX];by_cases f:isNone b=true
   .rw[if_pos f];obtain⟨k,z,rfl⟩:=uK f;exact⟨(uO (vo d)).mono λσ H Q=>i4 (r:=λx H Q=>Q (.bl (!decide (x=.non))) H) uj,(wg (vo d)).mono λσ H Q h=>i4 (r:=λx H Q=>Q (.bl (!decide (x=.non))) H) uj (mD h)⟩
   .rw[if_neg f]; exact⟨bL,ft⟩
  | Eq=>exact rest _ rfl
  | NotEq=>exact rest _ rfl
  | Lt=>exact rest _ rfl
  | LtE=>exact rest _ rfl
  | Gt=>exact rest _ rfl
  | GtE=>exact rest _ rfl
  | In=>exact rest _ rfl
  | NotIn=>exact rest _ rfl
 | [o,q],[b,c]=>
  have j:=s.e g b;have v:=s.e g c;dsimp only[Ip.pX];cases C:jo o with
  | none=>exact⟨bL,ft⟩
  | some J=>
   cases F:jo q with
   | none=>exact⟨bL,ft⟩
   | some I=>
    obtain⟨t,_,_⟩:=wj C;obtain⟨u,A,B⟩:=wj F;have y:lastMarks [o,q] [b,c]=false:=kR c A B;exact⟨(E8 (lw g t) (lw g u) d j v y).mono λσ H Q=>t9,(Bu (lw g t) (lw g u) d j v y).mono λσ H Q h=>t9 (mD h)⟩
 | [],_=>exact⟨bL,ft⟩
 | [_],[]=>exact⟨bL,ft⟩
 | [_],_::_::_=>exact⟨bL,ft⟩
 | [_,_],[]=>exact⟨bL,ft⟩
 | [_,_],[_]=>exact⟨bL,ft⟩
 | [_,_],_::_::_::_=>exact⟨bL,ft⟩
 | _::_::_::_,_=>exact⟨bL,ft⟩
end
section
variable {W:Wd}{G:Pg}{T:Tb}{n:Nat}{m:Nat}{E:St->XK}{sc:Scope}{N:ar}{X:Cx}
def rK (d:IH W G T n m)(g:Gd W G T n E sc N X) c a b p:PE X (.IfExp c a b p) (be W G (Ip.run G n) (cE T sc N (m+1) (.IfExp c a b p)) E):=by
 dsimp only[Ip.Cf];exact bL
def EW (b:IH W G T n m)(g:Gd W G T n E sc N X) a p:PE X (.List a p) (be W G (Ip.run G n) (cE T sc N (m+1) (.List a p)) E):=by
 dsimp only[Ip.AZ];by_cases h:a.length<=1000
 .rw[if_pos h]; exact sr (by rw[GH]; exact h) (b.args g a)
 .rw[if_neg h]; exact bL
def Bk (b:IH W G T n m)(g:Gd W G T n E sc N X) a k p:PE X (.Tuple a k p) (be W G (Ip.run G n) (cE T sc N (m+1) (.Tuple a k p)) E):=by
 dsimp only[Ip.CM];by_cases h:a.length<=1000
 .rw[if_pos h]; exact DO (by rw[GH]; exact h) (b.args g a)
 .rw[if_neg h]; exact bL
def BJ (a:IH W G T n m)(g:Gd W G T n E sc N X) o f p:PE X (.Attribute o f p) (be W G (Ip.run G n) (cE T sc N (m+1) (.Attribute o f p)) E):=by
 dsimp only[Ip.zV];cases q:pos? f T.att with
 | none=>exact bL
 | some k=>
  by_cases h:(T.fl.contains k&&fK o)=true
  .simp only[h,if_true];rw[tw] at h;exact BQ g.K g.gf.cf (by simpa using h.1) (by rw[g.gf.att]; exact pos?_get q) (a.e g o) (lr h.2)
  .simp only[h]; exact bL
def nS (h:∀a b c p,i≠.Slice a b c p):fW i:=by
 intro o v;cases i <;> first | rfl | exact absurd rfl (h _ _ _ _)
def Eg (h:h8 b=true):∃k p1 p2,b=.UnaryOp .USub (.Constant (.int 1) k p1) p2:=by
 cases b <;> try (cases h; done)
 rename_i o e _;cases o <;> try (cases h; done)
 cases e <;> try (cases h; done)
 rename_i c _ _;cases c <;> try (cases h; done)
 rename_i i;by_cases g:i=1
 .subst g; exact⟨_,_,_,rfl⟩
 .cases i with
  | ofNat n=>match n with
   | 1=>exact absurd rfl g
   | 0=>cases h
   | _+2=>cases h
  | negSucc _=>cases h
def Fp:PE X (.UnaryOp .USub (.Constant (.int 1) k b) a) (tC (.int (-1))):=(ud uV vE).mono λσ H Q h=>⟨_,rfl,h⟩
def D4 (j:W.K=X.K):∀x H Q,rD W G .rev [x] H Q->∃a b,x=.ref a/\SqL X.K H a b/\∀p,H p=none->Q (.ref p) (upd H p (.lst b.reverse)):=by
 rintro x H Q ⟨N,b,z,t,hd,c,k⟩;dsimp only[Ip.Gg] at c;obtain⟨v,p,e,rfl,d,l⟩:=hd.vs1 (o:=.rev) c;cases e;obtain⟨s,f,g⟩:=m7 l;rw[f] at d;cases d with | @lst a i _ h q=>?_
 cases g;exact⟨a,i,rfl,by rw[<-j]; exact .inl (Rd.sub bN h),λp r=>k _ _ (Res.newL r q.rev)⟩
def Ci (ih:IH W G T n m)(g:Gd W G T n E sc N X) a i p:PE X (.Subscript a i p) (be W G (Ip.run G n) (cE T sc N (m+1) (.Subscript a i p)) E):=by
 have c:=ih.e g a;cases i with
 | Slice lo j st q=>
  match lo,j,st with
  | some l,none,none=>
   dsimp only[lx];exact (rA (rb g.K) c (oU (ih.e g l)) wA).mono λσ H Q h=>t3 (lo:=λi=>some i) (hi:=λ_=>none) (λu v=>rfl) h
  | none,some l,none=>
   dsimp only[lx];exact (rA (rb g.K) c wA (oU (ih.e g l))).mono λσ H Q h=>t3 (lo:=λ_=>none) (hi:=λi=>some i) (λu v=>rfl) h
  | some l,some h,none=>
   dsimp only[lx];exact (rA (rb g.K) c (oU (ih.e g l)) (oU (ih.e g h))).mono λσ H Q h=>Fv h
  | none,none,none=>exact bL
  | none,none,some st=>
   dsimp only[lx];by_cases d:h8 st=true
   .rw[if_pos d];obtain⟨k,s,o,rfl⟩:=Eg d;exact (y2 c (Fp)).mono λσ H Q h=>i4 (r:=λx H Q=>∃a f,x=.ref a/\SqL X.K H a f/\∀p,H p=none->Q (.ref p) (upd H p (.lst f.reverse))) (D4 g.K) h
   .rw[if_neg d]; exact bL
  | some _,none,some _=>exact bL
  | none,some _,some _=>exact bL
  | some _,some _,some _=>exact bL
 | _=>
  dsimp only[lx];exact (oI (sf g.K) c (ih.e g _) (nS λ_ _ _ _ z=>by cases z)).mono λσ H Q=>iY λ_ _ _ _ h=>h
def rR e:(∃a b c,e=.Set a b c)\/∀(d:Env) (x:Value),foldedSetIterable e d x=pure x:=by
 cases e <;> first | exact .inl ⟨_,_,_,rfl⟩ | exact .inr λ_ _=>rfl
def sk:(cI T sc N m (.Set a b c)).2=[.bad]:=by
 cases m with
 | zero=>rfl
 | succ m=>cases m <;> rfl
structure CompR (W:Wd)(G:Pg)(n:Nat)(E:St->XK)(X:Cx)(scope:Scope)(N:ar)(tg iter elt:Expr)(ifs:au)(t:Tg)(wk:Wk)(it ts:aF)(x:Ex):Prop where
 hS:compOk X.env.scope X.N (aX scope) (bm N scope) scope=true
 hi:PI X tg iter (gn W G (Ip.run G n) wk it E)
 hg:∀cl C s H fp,PG (bv X (aX scope) scope cl C s H fp λ_ _=>False) tg (gT X.K t)
 ht:∀cl C s H fp,PTs (bv X (aX scope) scope cl C s H fp λ_ _=>False) ifs (rV W G (Ip.run G n) ts)
 he:∀cl C s H fp,PE (bv X (aX scope) scope cl C s H fp λ_ _=>False) elt (be W G (Ip.run G n) x λ_ _ _ _=>False)
 hx:∀i∈dg t,(bm N scope)[i]? = some none
def uh (a:cY sc N d=some t)(g:en c t=true):c=.enum\/c=.zip->∃b k p,d=.Tuple b k p:=by
 intro f;cases d with
 | Name x p=>
  dsimp only[Ip.wR] at a;by_cases e:bx sc x=true
  .rw[if_pos e] at a;obtain⟨i,_,rfl⟩:=cM a;rcases f with rfl | rfl <;> cases g
  .rw[if_neg e] at a; cases a
 | Tuple b k p=>exact⟨b,k,p,rfl⟩
 | _=>cases a
def vy (j:IH W G T n m)(g:Gd W G T n E sc N X)(h:dm sc N (aX a) (bm N a) a=true)(r:b.length<=1)(l:cY a (aX a) k=some t)
  (q:en (cI T sc N m iter).1 t=true)(p:(dg t).all (λi=>(bm N a)[i]? == some none)=true) :
  CompR W G n E X a N k iter e b t (cI T sc N m iter).1 (cI T sc N m iter).2 (b.map (cT T a (aX a) m)) (cE T a (aX a) m e):=by
 refine⟨g.compOk h,j.i g k iter (uh l q),λd C s H f=>?_,λd C s H f=>?_,λd C s H f=>j.e (g.block h d C s H f) e,λi o=>?_⟩
 .exact oR (g.block h d C s H f) l
 .match b,r with
  | [],_=>exact F5
  | [c],_=>exact Cq (j.t (g.block h d C s H f) c)
 .have:=dU p i o;simpa using this
def Ek (r:IH W G T n m)(g:Gd W G T n E sc N X) e l d p:PE X (.ListComp e l d p) (be W G (Ip.run G n) (cE T sc N (m+1) (.ListComp e l d p)) E):=by
 match l with
 | []=>exact bL
 | ⟨_,_,_,_⟩::_::_=>exact bL
 | [⟨w,iter,k,as⟩]=>
  simp only[Ip.tY];by_cases h:(dm sc N (aX d) (bm N d) d&&as == 0&&decide (k.length<=1))=true
  rotate_left
  .rw[if_neg h]; exact bL
  rw[if_pos h];simp only[tw,GN,GS] at h;obtain⟨⟨v,has⟩,u⟩:=h;subst has;cases x:cY d (aX d) w with
  | none=>exact bL
  | some t=>
   by_cases j:(en (cI T sc N m iter).1 t&&(dg t).all (λi=>(bm N d)[i]? == some none))=true
   rotate_left
   .simp only[j]; exact bL
   simp only[j,if_true];rw[tw] at j;rcases rR iter with ⟨a,b,c,rfl⟩ | hs
   .rintro o s σ H Q I ⟨_,_,_,_,q⟩;rw[lp,sk,bG,gC] at q;exact q.elim
   .have f:=vy (e:=e) r g v u x j.1 j.2;exact (yM g.calm f.hS f.hi f.hg f.ht f.he (hs X.env)).mono λσ H Q=>we g.K f.hx
def yd (d:IH W G T n m)(g:Gd W G T n E sc N X) e:PT X e (ce W G (Ip.run G n) (cT T sc N (m+1) e) E):=by
 cases e with
 | BoolOp o f p=>
  match f with
  | []=>exact ft
  | [a]=>
   cases o with
   | And=>exact (Dc (d.t g a)).pt
   | Or=>exact (zW (d.t g a)).pt
  | a::b::f=>
   have h:∀o,PW X (.BoolOp o (b::f) p) (ce W G (Ip.run G n) (cT T sc N m (.BoolOp o (b::f) p)) E):=λo whole=>d.t g (.BoolOp o (b::f) p);cases o with
   | And=>exact (Gk (d.t g a) (h .And)).pt.mono λσ H Q=>C4
   | Or=>exact (DH (d.t g a) (h .Or)).pt.mono λσ H Q=>yy
 | UnaryOp o a p=>
  cases o with
  | Not=>exact (zN (d.t g a)).mono λσ H Q=>AU
  | _=>exact t5 (d.e g _) λ_=>rfl
 | IfExp c a b p=>exact ft
 | Compare a os i p=>exact d.c g a os i p
 | _=>exact t5 (d.e g _) λ_=>rfl
end
section
variable {W:Wd}{G:Pg}{T:Tb}{n:Nat}{m:Nat}{E:St->XK}{j:Scope}{N:ar}{X:Cx}
def B1 (ih:IH W G T n m)(g:Gd W G T n E j N X) f args p pos k (t:bi j f=true)(L:T.fns.lookup f=some k)(r:noStar args=true):PE X (.Call (.Name f p) args [] pos) (be W G (Ip.run G n) (.call k (args.map (cE T j N m))) E):=by
 obtain⟨d,F,a,J,A,y,Y,U,fo,M⟩:=g.gf.fns f k L;cases q:dE G k args.length with
 | none=>
  rintro v s σ H Q I ⟨_,_,_,_,h⟩;rw[ii,GH,q] at h;exact h.elim
 | some F'=>
  obtain⟨x,B,Z,P⟩:=wC q;rw[J] at x;cases x;obtain⟨ds,o,u,z,hd⟩:=M args.length Z P;have l:FnOk X.prog X.w X.K X.mg X.base (dM X.prog X.w) (rm n) a Y U (fD W G n k F):=g.K ▸ fo;have c:=g.room.mono (HA (rm n));have i:dE G k (args.map (cE T j N m)).length=some F:=by rw[GH]; exact q
  have b:∀S,Dens W S o (cD F (args.map (cE T j N m)).length):=by rw[GH]; exact hd
  cases args with
  | nil=>exact (Ev l c (g.gl f t) A (g.K ▸ y) (g.K ▸ u) z g.pass d).mono λσ H Q h=>my (tx (es:=[]) i b h)
  | cons e C=>
   obtain⟨s1,s2⟩:=eG r;exact (tT l c (g.gl f t) A (g.K ▸ y) (g.K ▸ u) z g.pass (ih.args g (e::C)) d (dC s1) (jV s2)).mono λσ H Q=>tx i b
def vr (ih:IH W G T n m)(g:Gd W G T n E j N X) f args p pos c (A:bi j f=true)(hk:T.cls.lookup f=some c)(o:noStar args=true):PE X (.Call (.Name f p) args [] pos) (be W G (Ip.run G n) (.make c (args.map (cE T j N m))) E):=by
 obtain⟨k,C,L,hc⟩:=g.gf.cls f c hk;cases q:br G c args.length with
 | none=>
  rintro a0 s σ H Q I ⟨_,_,_,_,h⟩;rw[lO,GH,q] at h;exact h.elim
 | some t=>
  obtain⟨x,F,d⟩:=t;obtain⟨v,k1,k2,k3,z,a1,h1,h2,a2⟩:=rr q;obtain⟨a,⟨fd,ps,fo,bd⟩,y⟩:=hc v x F k1 k2 k3;obtain⟨ds,M,B,J,hd⟩:=bd (args.length+1) h1 h2;have l:FnOk X.prog X.w X.K X.mg X.base (dM X.prog X.w) (rm n) a fd ps (fD W G n x F):=g.K ▸ fo;have b:∀S,Dens W S M (cD F ((args.map (cE T j N m)).length+1)):=by rw[GH]; exact hd
  by_cases r:v.isx=true
  .rw[if_pos r] at y z;obtain⟨xA,kp,tl,xc⟩:=y;subst z;have i:br G c (args.map (cE T j N m)).length=some (x,F,.exc c []):=by rw[GH]; exact q
   have u:XC X.K C (.ref a) tl:=g.K ▸ xc;cases args with
   | nil=>exact (Dj u (g.K ▸ kp) l g.room (g.gl f A) L (g.K ▸ B) J g.pass k).mono λσ H Q h=>my (vW (es:=[]) xA i b h)
   | cons e P=>
    obtain⟨U,Y⟩:=eG o;exact (C7 u (g.K ▸ kp) l g.room (g.gl f A) L (g.K ▸ B) J g.pass (ih.args g (e::P)) k (dC U) (jV Y)).mono λσ H Q=>vW xA i b
  .rw[if_neg r] at y z;obtain⟨Z,mk⟩:=y;subst z;have i:br G c (args.map (cE T j N m)).length=some (x,F,.ins c []):=by rw[GH]; exact q
   have mk':Mk X.K C a:=g.K ▸ mk;cases args with
   | nil=>exact (D1 mk' l g.room (g.gl f A) L (g.K ▸ B) J g.pass k).mono λσ H Q h=>my (ue (es:=[]) Z i b h)
   | cons e P=>
    obtain⟨U,Y⟩:=eG o;exact (C9 mk' l g.room (g.gl f A) L (g.K ▸ B) J g.pass (ih.args g (e::P)) k (dC U) (jV Y)).mono λσ H Q=>ue Z i b
def zf (ih:IH W G T n m)(g:Gd W G T n E j N X) o f args ap pos k (hk:pos? f T.att=some k)(hs:fK o=true)(v:noStar args=true)(hl:args.length<30)(hp:ap.endLine=pos.line) :
  PE X (.Call (.Attribute o f ap) args [] pos) (be W G (Ip.run G n) (.meth k (cE T j N m o) (args.map (cE T j N m))) E):=by
 rintro b s σ H Q I ⟨N0,a,Z,Y,h⟩;have L:=ih.e g o;have arm:=vx (m:=f) (env:=X.env) hs v hl hp;have i:W.att[k]? = some f:=by rw[g.gf.att]; exact pos?_get hk
 cases q:Ip.eval G (Ip.run G n) a (cE T j N m o) with
 | bad=>rw[jY,q] at h; exact h.elim
 | exc c y=>
  rw[jY,q] at h;refine Ix (pl:=_) (bc (L b s σ H (λ_ _=>False) I ⟨N0,a,Z,Y,by rw[q]; exact h⟩) λu s1 z0=>by obtain⟨_,_,_,_,z⟩:=z0; exact z.elim) arm
 | ok x=>
  obtain⟨kx,d⟩:=x;cases B:bX G k args.length d with
  | none=>
   rw[jY,q] at h;simp only[Ip.R.bind,GH,B] at h
  | some t=>
   obtain⟨A,F⟩:=t;obtain⟨c,y,M,rfl,k1,k2,k3,a0,a1,h1,h2⟩:=vF B;obtain⟨C,ad,U,p,fd,ps,fo,bd⟩:=g.gf.meth c M k A F k1 k2 k3 f i;obtain⟨ds,J,hb,hv,hd⟩:=bd (args.length+1) h1 h2;have r:FnOk X.prog X.w X.K X.mg X.base (dM X.prog X.w) (rm n) ad fd ps (fD W G n A F):=g.K ▸ fo;have l:=g.room.mono (HA (rm n));have cls:Cls X.K C:=g.K ▸ (g.gf.cf.ins c C U).1.cls;have q3:bX G k (args.map (cE T j N m)).length (.ins c y)=some (A,F):=by rw[GH]; exact B
   have P:∀S,Dens W S J (cD F ((args.map (cE T j N m)).length+1)):=by rw[GH]; exact hd
   have key:=Et (E:=E) (Q:=Q) g.gf.cf.nd i U P Z Y q q3 h;cases args with
   | nil=>exact yb L cls (g.K ▸ p) r l (g.K ▸ hb) hv g.pass arm b s σ H Q I (by
     unfold ff at key ⊢;refine evT_mono key λx H1 z1=>by obtain⟨a,dx,y,e1,e2,e3,e4⟩:=z1; exact⟨a,dx,y,e1,e2,e3,my e4⟩)
   | cons e es=>
    obtain⟨s1,s2⟩:=eG v;exact xG L cls (g.K ▸ p) r l (g.K ▸ hb) hv g.pass (ih.args g (e::es)) (dC s1) (jV s2) arm b s σ H Q I key
where
 evT_mono {ir:Ex} {cl:Nat->aw->Ip.Run} {E:St->XK} {σ:St} {H:Hp} {Q Q':VK} (h:be W G cl ir E σ H Q) (k:∀v H,Q v H->Q' v H):be W G cl ir E σ H Q':=by
  obtain⟨N,a,hN,hS,h⟩:=h;refine⟨N,a,hN,hS,?_⟩;cases q:Ip.eval G cl a ir with
  | bad=>rw[q] at h; exact h
  | exc c fs=>rw[q] at h; exact h
  | ok x=>rw[q] at h; exact λv H' r=>k v H' (h v H' r)
def Bx (h:gB e=true):∀a c fs,Ip.eval G cl a e≠.exc c fs:=λa c fs=>by
 cases e with
 | var i=>
  rw[gc];split <;> exact λz=>nomatch z
 | cst d=>rw[kT]; exact λz=>nomatch z
 | _=>cases h
def mY (c:noStar [e]=true):((backTo b (starEach [e] a)).all (λx=>!x.1)&&(backToKw b (keywordEach [] a)).all (λx=>x.1.isSome)
   && decide ([e].length+([]:List Keyword).length+(if ([]:List Keyword).isEmpty then 0 else 1)<30))=true:=by
 rw[pb c]; rfl
def qG (c:IH W G T n m)(g:Gd W G T n E j N X) o a f ap pos q (b:lv f=some q)(nx:gB (cE T j N m a)=true)(hs:fK o=true)(d:noStar [a]=true)(p:ap.endLine=pos.line) :
  PE X (.Call (.Attribute o f ap) [a] [] pos) (be W G (Ip.run G n) (.op q [cE T j N m o,cE T j N m a]) E):=by
 obtain⟨l,r⟩:=eG d;have k:(ap.endLine == pos.line)=true:=by rw[p]; exact beq_self_eq_true _
 unfold lv at b;by_cases i:(f == ("index" : Str))=true
 .rw[if_pos i] at b;cases b;obtain rfl:f = "index":=by simpa using i
  exact ((kO (T := "list") (id := "list.index") Hw PySem.F.slot_list_index PySem.F.type_list_index Ai (c.e g o) (c.args g [a]) (lr hs) (mY d) k (dC l) rfl).or
   (kO (T := "tuple") (id := "tuple.index") PySem.F.plainAttrs_tuple PySem.F.slot_tuple_index PySem.F.type_tuple_index zj (c.e g o) (c.args g [a]) (lr hs) (mY d) k (dC l) rfl)).mono λσ H Q h=>Dh g.K (Bx nx) h
 .rw[if_neg i] at b;cases b
def Gd.bl (g:Gd W G T n E j N X)(h:(x,v)∈cy):X.mg x=none/\bootBuiltins x=some v:=g.gf.blt x v h
def xW (b:IH W G T n m)(g:Gd W G T n E j N X) a:((∃x p,a=.Starred x p)/\cE T j N m a=.bad)\/(PA X [a] (bI W G (Ip.run G n) [cE T j N m a] E)/\starEach [a] X.env=(false,PySem.eval a X.env)::starEach [] X.env):=by
 rcases oO a [] X.env with ⟨x,p,rfl⟩ | h
 .exact .inl ⟨⟨x,p,rfl⟩,pS T j N m x p⟩
 .exact .inr ⟨b.args g [a],h⟩
def wD:PE X x (be W G (Ip.run G n) (.op o (.bad::b)) E):=λa s σ H Q I z=>by
 obtain⟨_,_,_,_,h⟩:=z;rw[cK,bG,gC] at h;exact h.elim
def wM (g:Gd W G T n E j N X)(q:eV T j b=some t):∃c cv,PE X b (tC c)/\valOf c=some cv/\cg W G t cv:=by
 cases b with
 | Name x p=>
  dsimp only[eV] at q;by_cases a:bi j x=true
  .rw[if_pos a] at q;cases e:T.cls.lookup x with
   | some c=>
    rw[e] at q;cases q;obtain⟨d,_⟩:=g.gf.cls x c e;obtain⟨C,h,f⟩:=g.gf.isC x c e;exact⟨.ref C,.ref C,vY (g.gl x a) h rfl d,rfl,f⟩
   | none=>
    rw[e] at q;obtain⟨h,k,d,i,l,f⟩:=g.gf.isB x t q;exact⟨.ty i,.type i,Gr (g.gl x a) h l rfl k d,rfl,f⟩
  .rw[if_neg a] at q; cases q
 | _=>cases q
theorem wX (g:Gd W G T n E j N X):∀{es:au} {ts:List Ip.Ty},es.mapM (eV T j)=some ts->∃cs cvs,Isis X W G es ts cs cvs
 | [],ts,h=>by cases h; exact⟨[],[],.nil⟩
 | e::es,ts,h=>by
  rw[List.mapM_cons] at h;cases q:eV T j e with
  | none=>rw[q] at h; cases h
  | some t=>
   rw[q] at h;cases d:es.mapM (eV T j) with
   | none=>simp[d] at h
   | some i=>
    simp[d] at h;subst h;obtain⟨cs,cvs,r⟩:=wX g d;obtain⟨c,s,l,o,k⟩:=wM g q;refine⟨c::cs,s::cvs,.cons l (λes=>?_) o k r⟩;cases e with
    | Name x p=>rfl
    | _=>cases q
def yv (ih:IH W G T n m)(g:Gd W G T n E j N X) f args p pos (hg:bi j f=true):PE X (.Call (.Name f p) args [] pos) (be W G (Ip.run G n) (cB T j N (m+1) f args) E):=by
 match args with
 | []=>exact bL
 | _::_::_::_=>exact bL
 | [a]=>
  dsimp only[Ip.uI];cases P:Ip.mu j f a with
  | some b=>
   dsimp only;obtain⟨p1,p2,rfl,B,L,rfl⟩:=Ip.B7 P;obtain⟨s1,_⟩:=eG L;obtain⟨i,d⟩:=g.bl (x := "sorted") (v:=.builtin "sorted") (by simp[cy]);obtain⟨F,I⟩:=g.bl (x := "set") (v:=.type "set") (by simp[cy]);exact (z8 g.calm (ih.e g b) (g.gl _ hg) i d (g.gl _ B) F I rfl (dC s1)).mono λσ H Q h=>i4 (zE g.K) h
  | none=>
  dsimp only;cases q:mX.lookup f with
  | none=>exact bL
  | some o=>
   rcases xW ih g a with ⟨_,M⟩ | ⟨s,hs⟩
   .simp only[M]; exact wD
   have r:=tR q;simp only[mX,GY,GW,or_false,Hj] at r;rcases r with ⟨rfl,rfl⟩ | ⟨rfl,rfl⟩ | ⟨rfl,rfl⟩ | ⟨rfl,rfl⟩ | ⟨rfl,rfl⟩ | ⟨rfl,rfl⟩
   .obtain⟨i,d⟩:=g.bl (x := "len") (v:=.builtin "len") (by simp[cy]);exact (lM (GD g.K) (g.gl _ hg) i d s (by decide) (by decide) hs rfl).mono λσ H Q=>lj
   .obtain⟨i,d⟩:=g.bl (x := "list") (v:=.type "list") (by simp[cy]);exact (uQ (zM g.K) (g.gl _ hg) i d s (by decide) (by decide) hs rfl).mono λσ H Q=>lj
   .obtain⟨i,d⟩:=g.bl (x := "tuple") (v:=.type "tuple") (by simp[cy]);exact (uQ (Gf g.K) (g.gl _ hg) i d s (by decide) (by decide) hs rfl).mono λσ H Q=>lj
   .obtain⟨i,d⟩:=g.bl (x := "all") (v:=.builtin "all") (by simp[cy]);exact (lM (CP g.calm) (g.gl _ hg) i d s (by decide) (by decide) hs rfl).mono λσ H Q=>lj
   .obtain⟨i,d⟩:=g.bl (x := "any") (v:=.builtin "any") (by simp[cy]);exact (lM (Cp g.calm) (g.gl _ hg) i d s (by decide) (by decide) hs rfl).mono λσ H Q=>lj
   .obtain⟨i,d⟩:=g.bl (x := "min") (v:=.builtin "min") (by simp[cy]);exact (lM (AE g.calm) (g.gl _ hg) i d s (by decide) (by decide) hs rfl).mono λσ H Q=>lj
 | [a,b]=>
  dsimp only[Ip.uI];by_cases A:(f == ("isinstance" : Str))=true
  rotate_left
  .rw[if_neg A];exact bL
  rw[if_pos A];have z:f = "isinstance":=by simpa using A
  subst z;cases q:dZ T j b with
  | none=>exact bL
  | some ts=>
   rcases oO a [b] X.env with ⟨x,p',rfl⟩ | u
   .simp only[pS]; exact wD
   obtain⟨i,d⟩:=g.bl (x := "isinstance") (v:=.builtin "isinstance") (by simp[cy]);cases b with
   | Name x bp=>
    dsimp only[dZ] at q;obtain⟨t,Y,rfl⟩:=cM q;obtain⟨c,cv,U,Z,C⟩:=wM g Y;exact EL g.K g.gf.cf Z C (g.gl _ hg) i d (ih.e g a) U u rfl
   | Tuple J k tp=>
    dsimp only[dZ] at q;by_cases y:J.length<=1000
    .rw[if_pos y] at q;obtain⟨cs,cvs,C⟩:=wX g q;exact DQ g.K g.gf.cf y C (g.gl _ hg) i d (ih.e g a) u rfl
    .rw[if_neg y] at q; cases q
   | _=>simp[dZ,eV] at q
def Gx (r:IH W G T n m)(g:Gd W G T n E j N X) C x (d:(cI T j N (m+1) x).1=.enum\/(cI T j N (m+1) x).1=.zip->∃w k p,C=.Tuple w k p):PI X C x (gn W G (Ip.run G n) (cI T j N (m+1) x).1 (cI T j N (m+1) x).2 E):=by
 have gen:∀y,PI X C y (gn W G (Ip.run G n) .seq [cE T j N m y] E):=λy=>B9 g.K (r.e g y);cases x with
 | Call f args A q=>
  cases f with
  | Name f p=>
   cases A with
   | cons _ _=>exact gen _
   | nil=>
    dsimp only[Ip.Gb] at d ⊢;by_cases u:(bi j f&&f == ("range" : Str)&&noStar args)=true
    .rw[if_pos u];simp only[tw,GN] at u;obtain⟨⟨i,rfl⟩,c⟩:=u;have l:=(g.bl (x := "range") (v:=.type "range") (by simp[cy])).1;rcases args with _ | ⟨a,_ | ⟨b,_ | _⟩⟩
     .exact jK
     .obtain⟨h,_⟩:=eG c;exact zX (g.gl _ i) l (r.args g [a]) (dC h)
     .obtain⟨h,B⟩:=eG c;obtain⟨o,_⟩:=eG B;exact zd (g.gl _ i) l (r.args g [a,b]) (by rw[dC h,dC o]; rfl) (dC o)
     .exact jK
    rw[if_neg u] at d ⊢;by_cases t:(bi j f&&f == ("enumerate" : Str)&&noStar args)=true
    .rw[if_pos t] at d ⊢;simp only[tw,GN] at t;obtain⟨⟨i,rfl⟩,c⟩:=t;obtain⟨l,z⟩:=g.bl (x := "enumerate") (v:=.type "enumerate") (by simp[cy]);rcases args with _ | ⟨a,_ | _⟩
     .exact jK
     .obtain⟨h,_⟩:=eG c;obtain⟨w,k,F,rfl⟩:=d (.inl rfl);exact DC g.K (g.gl _ i) l z (r.args g [a]) (dC h)
     .exact jK
    rw[if_neg t] at d ⊢;by_cases s:(bi j f&&f == ("zip" : Str)&&noStar args)=true
    .rw[if_pos s] at d ⊢;simp only[tw,GN] at s;obtain⟨⟨i,rfl⟩,c⟩:=s;obtain⟨l,z⟩:=g.bl (x := "zip") (v:=.type "zip") (by simp[cy]);rcases args with _ | ⟨a,_ | ⟨b,_ | _⟩⟩
     .exact jK
     .exact jK
     .obtain⟨h,B⟩:=eG c;obtain⟨o,_⟩:=eG B;obtain⟨w,k,F,rfl⟩:=d (.inr rfl);exact AI g.K (g.gl _ i) l z (r.args g [a,b]) (by rw[dC h,dC o]; rfl) (dC o)
     .exact jK
    rw[if_neg s] at d ⊢;exact gen _
  | _=>exact gen _
 | _=>exact gen _
def Fe (l:IH W G T n m)(g:Gd W G T n E j N X) f args e p:PE X (.Call f args e p) (be W G (Ip.run G n) (cE T j N (m+1) (.Call f args e p)) E):=by
 cases e with
 | cons _ _=>exact bL
 | nil=>
  cases f with
  | Name f q=>
   dsimp only[Ip.xm];by_cases i:bi j f=true
   rotate_left
   .rw[if_neg i]; exact bL
   rw[if_pos i];cases u:T.fns.lookup f with
   | some k=>
    by_cases d:noStar args=true
    .simp only[d,if_true]; exact B1 l g f args q p k i u d
    .simp only[d]; exact bL
   | none=>
    cases y:T.cls.lookup f with
    | some c=>
     by_cases d:noStar args=true
     .simp only[d,if_true]; exact vr l g f args q p c i y d
     .simp only[d]; exact bL
    | none=>exact l.b g f args q p i
  | Attribute o f ap=>
   dsimp only[Ip.xm];cases u:pos? f T.att with
   | none=>
    cases args with
    | nil=>exact bL
    | cons a r=>
     cases r with
     | cons _ _=>exact bL
     | nil=>
      cases w:lv f with
      | none=>exact bL
      | some q=>
       dsimp only;by_cases h:(gB (cE T j N m a)&&fK o&&noStar [a]&&ap.endLine == p.line)=true
       .rw[if_pos h];simp only[tw,GN] at h;obtain⟨⟨⟨x,s⟩,v⟩,t⟩:=h;exact qG l g o a f ap p q w x s v t
       .rw[if_neg h]; exact bL
   | some k=>
    by_cases h:(fK o&&noStar args&&decide (args.length<30)&&ap.endLine == p.line)=true
    .simp only[h,if_true];simp only[tw,GS,GN] at h;obtain⟨⟨⟨s,v⟩,z⟩,t⟩:=h;exact zf l g o f args ap p k u s v z t
    .simp only[h]; exact bL
  | _=>exact bL
def AK (d:IH W G T n m)(g:Gd W G T n E j N X) e:PE X e (be W G (Ip.run G n) (cE T j N (m+1) e) E):=by
 cases e with
 | Name x p=>exact Gv g x p
 | Constant c k p=>exact EM c k p
 | BinOp a o b p=>exact Fk d g a b o p
 | UnaryOp o a p=>exact rS d g a o p
 | BoolOp o l p=>exact yc d g o l p
 | Compare a os r p=>exact (tX d g a os r p).1
 | IfExp c a b p=>exact rK d g c a b p
 | List l p=>exact EW d g l p
 | Tuple l k p=>exact Bk d g l k p
 | Subscript a i p=>exact Ci d g a i p
 | Attribute o f p=>exact BJ d g o f p
 | ListComp e s h p=>exact Ek d g e s h p
 | Call f args q p=>exact Fe d g f args q p
 | _=>exact bL
theorem e8:∀m,IH W G T n m
 | 0=>by
  refine⟨λg x=>?_,λg x=>?_,λg a os d p=>?_,λg e x _=>?_,λg f args p pos c=>?_⟩
  .exact bL
  .exact ft
  .exact ft
  .exact jK
  .exact bL
 | m+1=>by
  have b:=e8 m;exact⟨λg x=>AK b g x,λg x=>yd b g x,λg a os d p=>(tX b g a os d p).2,λg e x h=>Gx b g e x h,λg f args p pos c=>yv b g f args p pos c⟩
end
section
variable {G:Pg}{c:Nat->aw->Ip.Run}
mutual
theorem fV:∀e:Ex,(∀i∈e.names,a[i]? = b[i]?)->Ip.eval G c a e=Ip.eval G c b e:=by
 intro hZ;cases hZ with
 | var i=>intro h; rw[gc,gc,h i (by simp)]
 | cst d=>intro _; rw[kT,kT]
 | op o k=>intro h; rw[cK,cK,zAL k (by simpa using h)]
 | and x y=>
  intro h;simp only[jI,Hu] at h;rw[me,me,fV x λi g=>h i (.inl g),fV y λi g=>h i (.inr g)]
 | or x y=>
  intro h;simp only[jI,Hu] at h;rw[lY,lY,fV x λi g=>h i (.inl g),fV y λi g=>h i (.inr g)]
 | chain o p x y z=>
  intro h;simp only[jI,Hu] at h;rw[Ip.qz,Ip.qz,fV x λi g=>h i (.inl g),fV y λi g=>h i (.inr (.inl g)),fV z λi g=>h i (.inr (.inr g))]
 | sl2 x y z=>
  intro h;simp only[jI,Hu] at h;rw[Ip.qi,Ip.qi,fV x λi g=>h i (.inl g),fV y λi g=>h i (.inr (.inl g)),fV z λi g=>h i (.inr (.inr g))]
 | comp j s r n t e=>
  intro h;simp only[jI,Hu] at h;have q:j.map (cW a)=j.map (cW b):=List.map_congr_left λo l=>by
   cases o with
   | none=>rfl
   | some i=>
    show (a[i]?).join=(b[i]?).join;rw[h i (.inl (Ik.mpr ⟨some i,l,rfl⟩))]
  rw[lp,lp,zAL n λi g=>h i (.inr g),q]
 | call f k=>intro h; rw[ii,ii,zAL k (by simpa using h)]
 | make f k=>intro h; rw[lO,lO,zAL k (by simpa using h)]
 | meth m o k=>
  intro h;simp only[jI,Hu] at h;rw[jY,jY,fV o λi g=>h i (.inl g),zAL k λi g=>h i (.inr g)]
 | bad=>intro _; rw[gC,gC]
theorem zAL:∀d:aF,(∀i∈Ex.namess d,a[i]? = b[i]?)->evals G c a d=evals G c b d
 | [],_=>by rw[de,de]
 | e::d,h=>by
  simp only[jI,Hu] at h;rw[bG,bG,fV e λi f=>h i (.inl f),zAL d λi f=>h i (.inr f)]
end
end
noncomputable def mask (b:aj)(a:Sl):Sl:=a.mapIdx λi o=>if i∈b then o else none
def oY (h:i∈b):a[i]? = (mask b a)[i]?:=by
 unfold mask;rw[Hk];cases a[i]? with
 | none=>rfl
 | some o=>simp[h]
def oX (h:(mask c a)[i]? = some (some d)):i∈c/\a[i]? = some (some d):=by
 unfold mask at h;rw[Hk] at h;cases q:a[i]? with
 | none=>rw[q] at h; cases h
 | some o=>
  rw[q] at h;by_cases b:i∈c
  .simp[b] at h; exact⟨b,by rw[h]⟩
  .simp[b] at h
def jZ {A:Fr}{i:Nat}{d:D}(h:A.sl[i]? = some (some d)):∃k,A[i]? = some (some (k,d)):=by
 unfold Fr.sl at h;rw[GK] at h;obtain⟨o,a,e⟩:=cM h;obtain⟨x,c,b⟩:=cM e;obtain⟨k,f⟩:=x;cases b;exact⟨k,by rw[a,c]⟩
def dR (W:Wd)(S c:Hp):Prop:=∀a b,SqT W.K S a b->SqT W.K c a b
mutual
theorem Den.hide (h:dR W S b):∀{v d},d.flat=true->Den W S v d->Den W b v d:=by
 intro _ _ a hZ;cases hZ with
 | non=>exact .non
 | bl=>exact .bl
 | int=>exact .int
 | str=>exact .str
 | tup e q=>exact .tup (h _ _ e) (q.hide h a)
 | lst _ _=>simp at a
 | ins _ _ _=>simp at a
 | exc _ _ _=>simp at a
theorem Dens.hide (h:dR W S b):∀{v d},D.flats d=true->Dens W S v d->Dens W b v d:=by
 intro _ _ a hZ;cases hZ with
 | nil=>exact .nil
 | cons e q=>
  simp only[Ip.o5,tw] at a;exact .cons (e.hide h a.1) (q.hide h a.2)
end
theorem DenF.hide (h:dR W S f):∀{c b},(b.all λp=>p.2.flat)=true->DenF W S c b->DenF W f c b:=by
 intro _ _ a hZ;cases hZ with
 | nil=>exact .nil
 | cons e d q=>
  rw[List.all_cons,tw] at a;exact .cons e (d.hide h a.1) (q.hide h a.2)
theorem Own.hide (h:dR W S s):∀{k v d fp},D.fb k d=true->Own W S H k v d fp->Own W s H k v d fp:=by
 intro k;induction k with
 | zero=>exact λf ⟨e,o⟩=>⟨e,o.hide h f⟩
 | succ k o=>
  intro v d w f g;cases d with
  | lst m=>obtain⟨a,p,n,l,j,i,q⟩:=g; exact⟨a,p,n,l,j,i.re (b:=D.fb k) (λ_ _ _ g y=>o g y) f,q⟩
  | tup m=>obtain⟨a,p,l,j,i⟩:=g; exact⟨a,p,l,h _ _ j,i.re (b:=D.fb k) (λ_ _ _ g y=>o g y) f⟩
  | ins c m=>obtain⟨a,C,t,u,n,l,j,r,i,q⟩:=g; exact⟨a,C,t,u,n,l,j,r,i.re (b:=D.fb k) (λ_ _ _ g y=>o g y) f,q⟩
  | exc c m=>cases f
  | _=>exact⟨g.1,g.2.hide h rfl⟩
def Own.noTup:∀{k v d n},Own W S H k v d n->∀a∈n,∀l,¬Rd H a (.tup l):=by
 intro k;induction k with
 | zero=>intro _ _ _ h a z; rw[h.1] at z; simp at z
 | succ k O=>
  intro v d w h b z;cases d with
  | lst i=>
   obtain⟨a,l,p,j,f,e,g⟩:=h;rw[g] at z;rcases ck z with q | q
   .intro m r;rw[q] at r;rcases r with r | ⟨o,r⟩ <;> rw[f] at r <;> cases r
   .exact e.mem (λ_ _ _ y=>O y) b q
  | tup i=>obtain⟨a,l,j,f,e⟩:=h; exact e.mem (λ_ _ _ y=>O y) b z
  | ins c i=>
   obtain⟨a,C,t,u,p,j,f,s,e,g⟩:=h;rw[g] at z;rcases ck z with q | q
   .intro m r;rw[q] at r;rcases r with r | ⟨o,r⟩ <;> rw[f] at r <;> cases r
   .exact e.mem (λ_ _ _ y=>O y) b q
  | exc c i=>
   obtain⟨a,C,t,u,p,j,f,s,e,g⟩:=h;rw[g] at z;rcases ck z with q | q
   .intro m r;rw[q] at r;rcases r with r | ⟨o,r⟩ <;> rw[f] at r <;> cases r
   .exact e.mem (λ_ _ _ y=>O y) b q
  | _=>rw[h.1] at z; simp at z
def aP (N:Addr->Prop)(F:Nat->al):Addr->Prop:=λb=>N b\/∃j,b∈F j
structure FrF (W:Wd)(E0:Hp)(N:Addr->Prop)(pin:List (Nat×V))(A:Fr)(σ:St)(H:Hp)(F:Nat->al):Prop where
 sub:Sub E0 H
 nok:NOk N H
 len:σ.length=A.length
 pn:∀p∈pin,σ[p.1]? = some (some p.2)
 nd:∀i,(F i).Nodup
 dj:∀i j b,b∈F i->b∈F j->i=j
 fr:∀i b,b∈F i->E0 b=none/\¬N b
 rel:∀(i:Nat) (x:KD),A[i]? = some (some x)->∃v,σ[i]? = some (some v)/\Own W (hid (aP N F) H) H x.1 v x.2 (F i)
 em:∀(i:Nat),(∀x,A[i]?≠some (some x))->F i=[]
theorem FrF.dom {W:Wd}{E0:Hp}{N:Addr->Prop}{a:List (Nat×V)}{A:Fr}{σ:St}{H:Hp}{F:Nat->al}(f:FrF W E0 N a A σ H F){i:Nat}{b:Addr}(h:b∈F i):H b≠none:=by
 by_cases q:∃x,A[i]? = some (some x)
 .obtain⟨x,e⟩:=q;obtain⟨v,_,o⟩:=f.rel i x e;exact o.dom b h
 .rw[f.em i λx z=>q ⟨x,z⟩] at h; simp at h
theorem FrF.noTup {W:Wd}{E0:Hp}{N:Addr->Prop}{a:List (Nat×V)}{A:Fr}{σ:St}{H:Hp}{F:Nat->al}(f:FrF W E0 N a A σ H F){i:Nat}{b:Addr}(h:b∈F i) c:¬Rd H b (.tup c):=by
 by_cases q:∃x,A[i]? = some (some x)
 .obtain⟨x,e⟩:=q;obtain⟨v,_,o⟩:=f.rel i x e;exact o.noTup b h c
 .rw[f.em i λx z=>q ⟨x,z⟩] at h; simp at h
def FrF.grow {W:Wd}{E0:Hp}{N:Addr->Prop}{pin:List (Nat×V)}{A:Fr}{σ:St}{H H':Hp}{F:Nat->al}(f:FrF W E0 N pin A σ H F)(hs:Sub H H'){fp:al}(hf:∀b∈fp,H b=none/\H' b≠none):FrF W E0 (λb=>N b\/b∈fp) pin A σ H' F where
 sub:=f.sub.trans hs
 nok:=λb z=>z.elim (f.nok.mono hs b) λy=>(hf b y).2
 len:=f.len
 pn:=f.pn
 nd:=f.nd
 dj:=f.dj
 fr:=λi b h=>⟨(f.fr i b h).1,λz=>z.elim (f.fr i b h).2 λy=>f.dom h (hf b y).1⟩
 rel:=λi x e=>by
  obtain⟨v,h1,h2⟩:=f.rel i x e;refine⟨v,h1,h2.mono (gM hs λb z=>?_) λb _ o e=>hs b o e⟩;rcases z with (z | z) | z
  .exact .inl (.inl z)
  .exact .inr (hf b z).1
  .exact .inl (.inr z)
 em:=f.em
def Eu:(frz1 A j)[i]? = if i=j then (A[i]?).map (Option.map λx=>(0,x.2)) else A[i]?:=by
 unfold frz1;cases q:A[j]? with
 | none=>
  by_cases z:i=j
  .subst z; simp[q]
  .simp[z]
 | some o=>
  cases o with
  | none=>
   by_cases z:i=j
   .subst z; simp[q]
   .simp[z]
  | some x=>
   obtain⟨k,d⟩:=x;have a:j<A.length:=(di q).1;by_cases z:i=j
   .subst z;simp[q,GL a]
   .simp only[if_neg z];exact GG λy=>z y.symm
theorem kY:∀{a:aj} {A:Fr},(frz a A)[i]? = if i∈a then (A[i]?).map (Option.map λx=>(0,x.2)) else A[i]?
 | [],A=>by simp[frz]
 | n::a,A=>by
  show (frz a (frz1 A n))[i]? = _;rw[kY,Eu];by_cases c:i=n
  .subst c;by_cases b:i∈a
   .simp[b,Function.comp_def]
   .simp[b]
  .by_cases b:i∈a
   .simp[c,b]
   .simp[c,b]
theorem sZ:∀{a:aj} {A:Fr},(frz a A).length=A.length
 | [],A=>rfl
 | n::a,A=>by
  show (frz a (frz1 A n)).length=_;rw[sZ];unfold frz1;split
  .exact GX
  .rfl
section
variable {W:Wd}{E0:Hp}{N:Addr->Prop}{l:List (Nat×V)}{A:Fr}{σ:St}{H:Hp}{F:Nat->al}
noncomputable def bB (a:aj)(F:Nat->al):Nat->al:=λj=>if j∈a then [] else F j
def fm (h:b∈bB a F j):j∉a/\b∈F j:=by
 unfold bB at h;by_cases z:j∈a
 .rw[if_pos z] at h; simp at h
 .rw[if_neg z] at h; exact⟨z,h⟩
def lD (h:aP N (bB a F) b):aP N F b:=h.imp id λ⟨j,q⟩=>⟨j,(fm q).2⟩
def FrF.see (f:FrF W E0 N l A σ H F)(c:i∈k)(h:A[i]? = some (some x)):∃v,σ[i]? = some (some v)/\Den W (hid (aP N (bB k F)) H) v x.2:=by
 obtain⟨v,g,o⟩:=f.rel i x h;refine⟨v,g,o.den (λb u e=>?_) λb a u e=>aU.mpr ⟨λz=>?_,e⟩⟩
 .obtain⟨g1,g2⟩:=aU.mp e;exact aU.mpr ⟨λz=>g1 (lD z),g2⟩
 .rcases z with z | ⟨j,z⟩
  .exact (f.fr i b a).2 z
  .obtain⟨m,d⟩:=fm z;exact m (f.dj i j b a d ▸ c)
theorem FrF.frz (f:FrF W E0 N l A σ H F) ns:FrF W E0 N l (frz ns A) σ H (bB ns F) where
 sub:=f.sub
 nok:=f.nok
 len:=by rw[sZ]; exact f.len
 pn:=f.pn
 nd:=λi=>by
  unfold bB;split
  .exact .nil
  .exact f.nd i
 dj:=λi j b h1 h2=>f.dj i j b (fm h1).2 (fm h2).2
 fr:=λi b h=>f.fr i b (fm h).2
 rel:=λi x e=>by
  rw[kY] at e;by_cases hi:i∈ns
  .rw[if_pos hi] at e;obtain⟨o,e1,e2⟩:=cM e;obtain⟨y,e3,e4⟩:=cM e2;rw[e3] at e1;subst e4;obtain⟨v,h1,h2⟩:=f.see hi e1;exact⟨v,h1,by unfold bB; rw[if_pos hi]; exact⟨rfl,h2⟩⟩
  .rw[if_neg hi] at e;obtain⟨v,h1,o⟩:=f.rel i x e;refine⟨v,h1,?_⟩;have:bB ns F i=F i:=by unfold bB; rw[if_neg hi]
   rw[this];exact o.mono (λb u e=>aU.mpr ⟨λz=>(aU.mp e).1 (lD z),(aU.mp e).2⟩) λ_ _ _ e=>e
 em:=λi h=>by
  unfold bB;by_cases hi:i∈ns
  .rw[if_pos hi]
  .rw[if_neg hi];exact f.em i λx z=>h x (by rw[kY,if_neg hi]; exact z)
def FrV (W:Wd)(E0:Hp)(N:Addr->Prop)(l:List (Nat×V))(A:Fr)(σ:St)(H:Hp)(x:KD)(v:V):Prop:=
 ∃(a:al) (F:Nat->al),FrF W E0 (λb=>N b\/b∈a) l A σ H F/\a.Nodup/\(∀b∈a,E0 b=none/\¬N b)/\Own W (hid (aP (λb=>N b\/b∈a) F) H) H x.1 v x.2 a
def FrX (W:Wd)(E0:Hp)(N:Addr->Prop)(l:List (Nat×V))(A:Fr)(σ:St)(H:Hp)(c:Nat)(b:List aH)(e:Addr):Prop:=
 ∃(F:Nat->al),FrF W E0 N l A σ H F/\(E0 e=none/\¬aP N F e)/\∃C a,H e=some (.exc C false a)/\W.xA c=some C/\DenF W (hid (aP N F) H) a b
def v8 (f:FrF W E0 N l A σ H F){d:Hp}(hs:Sub H d){M:Addr->Prop}(m:∀b,aP N F b->M b\/∃j,b∈F j){fp:al}:dR W (hid (λb=>M b\/b∈fp) d) (hid (aP (λb=>N b\/b∈fp) F) d):=by
 intro a k h;rcases h with h | h
 .refine .inl ?_;have g:∀j,a∉F j:=λj z=>by
   have c:Rd d a (.tup k):=Rd.sub bN h;cases q:H a with
   | none=>exact f.dom z q
   | some o=>
    have e:=hs a o q;refine f.noTup z k ?_;rcases c with c | ⟨u,c⟩
    .rw[e] at c; cases c; exact .inl q
    .rw[e] at c; cases c; exact .inr ⟨u,q⟩
  have i:∀o,hid (λb=>M b\/b∈fp) d a=some o->hid (aP (λb=>N b\/b∈fp) F) d a=some o:=λo e=>by
   obtain⟨g1,g2⟩:=aU.mp e;refine aU.mpr ⟨λz=>?_,g2⟩;rcases z with (z | z) | ⟨j,z⟩
   .rcases m a (.inl z) with y | ⟨j,y⟩
    .exact g1 (.inl y)
    .exact g j y
   .exact g1 (.inr z)
   .exact g j z
  rcases h with h | ⟨u,h⟩
  .exact .inl (i _ h)
  .exact .inr ⟨u,i _ h⟩
 .exact .inr h
def nq A:cN A=frz (List.range A.length) A:=by
 apply Ha;intro i;rw[kY];unfold cN;rw[GK];by_cases h:i<A.length
 .rw[if_pos (Hh.mpr h)]
 .rw[if_neg λz=>h (Hh.mp z),GR (by omega)];rfl
def FrF.excIn {ns:aj}{c:Nat}{h:List aH}{a:Addr}{m:Hp}(f:FrF W E0 N l A σ H F)(r:ExcR W H (aP N (bB ns F)) m c h a):FrX W E0 N l (excA A h) σ m c h a:=by
 obtain⟨hs,i,C,v,t,k,hd⟩:=r;have d:¬aP N F a:=λz=>z.elim (λy=>f.nok a y i) λ⟨j,y⟩=>f.dom y i;have g:=f.grow hs (fp:=[]) λb z=>by simp at z
 have o:∀b,(N b\/b∈([]:al))↔N b:=λb=>by simp
 have s:FrF W E0 N l A σ m F:=by
  have:(λb=>N b\/b∈([]:al))=N:=funext λb=>propext (o b);rw[this] at g; exact g
 unfold excA;by_cases n:(h.all λp=>p.2.flat)=true
 .rw[if_pos n];refine⟨F,s,⟨f.sub.none i,d⟩,C,v,t,k,?_⟩;have B:=v8 (M:=aP N (bB ns F)) (fp:=[]) f hs (λb z=>z.elim (λy=>.inl (.inl y)) .inr);have E:(λb=>aP N (bB ns F) b\/b∈([]:al))=aP N (bB ns F):=funext λb=>propext (by simp);have G:(λb=>N b\/b∈([]:al))=N:=funext λb=>propext (o b);rw[E,G] at B;exact hd.hide B n
 .rw[if_neg n,nq];refine⟨bB (List.range A.length) F,s.frz _,⟨f.sub.none i,λz=>d (lD z)⟩,C,v,t,k,hd.mono λb u e=>?_⟩;obtain⟨g1,g2⟩:=aU.mp e;refine aU.mpr ⟨λz=>g1 ?_,g2⟩;rcases z with z | ⟨j,z⟩
  .exact .inl z
  .obtain⟨I,q⟩:=fm z;exfalso;have:∃x,A[j]? = some (some x):=by
    by_cases y:∃x,A[j]? = some (some x)
    .exact y
    .rw[f.em j λx w=>y ⟨x,w⟩] at q; simp at q
   obtain⟨x,k⟩:=this;exact I (Hh.mpr (di k).1)
theorem iI {G:Pg}{t:Nat->aw->Ip.Run}{E:St->XK}{Q:VK}{e:Ex}(f:FrF W E0 N l A σ H F)(h:match Ip.eval G t A.sl e with
  | .ok x=>∀v g,FrV W E0 N l (Ip.settle e.names A x) σ g x v->Q v g
  | .exc c p=>∀a g,FrX W E0 N l (excA A p) σ g c p a->E σ (.ref a) none g
  | .bad=>False):be W G t e E σ H Q:=by
 have f1:=f.frz e.names;have L:NOk (aP N (bB e.names F)) H:=λb z=>z.elim (f.nok b) λ⟨j,q⟩=>f1.dom q;refine⟨aP N (bB e.names F),mask e.names A.sl,L,λi d s=>?_,?_⟩
 .obtain⟨M,J⟩:=oX s;obtain⟨k,P⟩:=jZ J;exact f.see M P
 rw[<-fV (a:=A.sl) e λi s=>oY s];cases q:Ip.eval G t A.sl e with
 | bad=>rw[q] at h; exact h
 | exc c p=>
  rw[q] at h;exact λa g r=>h a g (f.excIn r)
 | ok x=>
  rw[q] at h;rintro v g ⟨hs,w,C,B,o⟩;refine h v g ⟨w,?_⟩;have n:∀b∈w,H b=none/\g b≠none:=λb m=>⟨B b m,o.dom b m⟩
  have I:∀b∈w,E0 b=none/\¬N b:=λb m=>⟨f.sub.none (B b m),λz=>f.nok b z (B b m)⟩
  unfold Ip.settle;by_cases m:D.fb x.1 x.2=true
  .rw[if_pos m];exact⟨F,f.grow hs n,C,I,o.hide (v8 f hs λb z=>z.elim (λy=>.inl (.inl y)) .inr) m⟩
  .rw[if_neg m];refine⟨bB e.names F,f1.grow hs n,C,I,o.mono (λb u e=>?_) λ_ _ _ e=>e⟩;obtain⟨g1,g2⟩:=aU.mp e;refine aU.mpr ⟨λz=>g1 ?_,g2⟩;rcases z with (z | z) | z
   .exact .inl (.inl z)
   .exact .inr z
   .exact .inl (.inr z)
end
end L2
namespace L2
open PySem PySem.Spec PyProof.Rows
open Ip (D KD Ex Op Pg Fn Sl Fr Wk Tg Tb Pth SL cJ bZ cE cF cI cS d9 bn gC evals bG de excA fk fJ lu frz intF bi bx cQ aZ pj bb bH fe eU bt natO natsO noStar bg aQ pc? pos? pos?_get gz ps? dJ setA cq cY jS cO dB en)
def PostS (W:Wd)(E0:Hp)(N:Addr->Prop)(a:List (Nat×V))(E:St->XK)(Dn:Ends):Ip.O->Prop
 | .nx A=>∀σ H F,FrF W E0 N a A σ H F->Dn.nx σ H
 | .ret k d A=>∀v σ H,FrV W E0 N a A σ H (k,d) v->Dn.rt v H
 | .exc c b A=>∀e σ H,FrX W E0 N a A σ H c b e->E σ (.ref e) none H
 | .bad=>False
def bM (W:Wd)(G:Pg)(n:Nat)(io:aj)(E:St->XK)(s:Ip.S):TS:=λb σ H=>∃(E0:Hp) (N:Addr->Prop) (a:List (Nat×V)) (A:Fr) (F:Nat->al),(∀p∈a,p.1∈io)/\FrF W E0 N a A σ H F/\PostS W E0 N a E b (Ip.exec G (Ip.run G n) io A s)
def eB (W:Wd)(G:Pg)(n:Nat)(io:aj)(E:St->XK)(c:List Ip.S):TS:=λb σ H=>∃(E0:Hp) (N:Addr->Prop) (a:List (Nat×V)) (A:Fr) (F:Nat->al),(∀p∈a,p.1∈io)/\FrF W E0 N a A σ H F/\PostS W E0 N a E b (Ip.execs G (Ip.run G n) io A c)
section
variable {X:Cx}{W:Wd}{G:Pg}{n:Nat}{io:aj}{E:St->XK}{E0:Hp}{N:Addr->Prop}{l:List (Nat×V)}{A:Fr}{σ:St}{H:Hp}{F:Nat->al}
def cA {st:Stmt}:PS X st (bM W G n io E .bad):=λa s σ H b I z=>by
 obtain⟨_,_,_,_,_,_,_,h⟩:=z;rw[Ip.zt] at h; exact h.elim
def AV:PSs X [] (eB W G n io E []):=Dv.mono λa σ H z=>by
 obtain⟨_,_,_,_,_,_,f,h⟩:=z;rw[Ip.w6] at h;exact h _ _ _ f
def y4 {st:Stmt}{a:aG}{s:Ip.S}{g:List Ip.S}(o:PS X st (bM W G n io E s))(j:PSs X a (eB W G n io E g)):PSs X (st::a) (eB W G n io E (s::g)):=
 (Gh o j).mono λr σ H z=>by
  obtain⟨E0,N,l,A,F,e,f,h⟩:=z;refine⟨E0,N,l,A,F,e,f,?_⟩;rw[Ip.k6] at h;cases q:Ip.exec G (Ip.run G n) io A s with
  | nx b=>
   rw[q] at h;exact λσ' t i m=>⟨E0,N,l,b,i,e,m,h⟩
  | ret k d b=>rw[q] at h; exact h
  | exc c p b=>rw[q] at h; exact h
  | bad=>rw[q] at h; exact h
theorem FrV.set (f:FrV W E0 N l A σ H x v)(s:∀p∈l,p.1≠i)(g:i<A.length):∃F,FrF W E0 N l (A.set i (some x)) (σ.set i (some v)) H F:=by
 obtain⟨m,F,f,r,t,o⟩:=f;have d:i < σ.length:=by rw[f.len]; exact g
 refine⟨λj=>if j=i then m else F j,⟨f.sub,λb z=>f.nok b (.inl z),by rw[GX,GX]; exact f.len,λp q=>by rw[GG λz=>s p q z.symm]; exact f.pn p q,λj=>?_,λj k b c a=>?_,λj b h=>?_,λj y h=>?_,λj h=>?_⟩⟩
 .by_cases z:j=i
  .rw[if_pos z]; exact r
  .rw[if_neg z]; exact f.nd j
 .by_cases z:j=i
  .rw[if_pos z] at c;by_cases y:k=i
   .rw[z,y]
   .rw[if_neg y] at a;exact absurd (.inr c) (f.fr k b a).2
  .rw[if_neg z] at c;by_cases y:k=i
   .rw[if_pos y] at a;exact absurd (.inr a) (f.fr j b c).2
   .rw[if_neg y] at a;exact f.dj j k b c a
 .by_cases z:j=i
  .rw[if_pos z] at h; exact t b h
  .rw[if_neg z] at h;exact⟨(f.fr j b h).1,λy=>(f.fr j b h).2 (.inl y)⟩
 .have sub:Sub (hid (aP (λb=>N b\/b∈m) F) H) (hid (aP N λj=>if j=i then m else F j) H):=λb u e=>by
   obtain⟨g1,g2⟩:=aU.mp e;refine aU.mpr ⟨λz=>g1 ?_,g2⟩;rcases z with z | ⟨k,z⟩
   .exact .inl (.inl z)
   .by_cases y:k=i
    .simp only[if_pos y] at z; exact .inl (.inr z)
    .simp only[if_neg y] at z; exact .inr ⟨k,z⟩
  by_cases z:j=i
  .subst z;rw[GL g] at h;cases h;refine⟨v,GL d,?_⟩;simp only[if_true];exact o.mono sub λ_ _ _ e=>e
  .rw[GG λy=>z y.symm] at h;obtain⟨w,c,a⟩:=f.rel j y h;refine⟨w,by rw[GG λy=>z y.symm]; exact c,?_⟩;simp only[if_neg z];exact a.mono sub λ_ _ _ e=>e
 .by_cases z:j=i
  .subst z;exact absurd (GL g) (h x)
  .simp only[if_neg z];exact f.em j λy w=>h y (by rw[GG λy=>z y.symm]; exact w)
def FrF.weaken (f:FrF W c N l A σ H F)(h:Sub E0 c):FrF W E0 N l A σ H F:=
 ⟨h.trans f.sub,f.nok,f.len,f.pn,f.nd,f.dj,λi b a=>⟨h.none (f.fr i b a).1,(f.fr i b a).2⟩,f.rel,f.em⟩
def PostS.strong (h:Sub E0 m)(p:PostS W E0 N l E Dn o):PostS W m N l E Dn o:=by
 cases o with
 | nx A=>exact λσ H F f=>p σ H F (f.weaken h)
 | ret k d A=>exact λv σ H z=>by obtain⟨r,F,f,j,i,o⟩:=z; exact p v σ H ⟨r,F,f.weaken h,j,λb g=>⟨h.none (i b g).1,(i b g).2⟩,o⟩
 | exc c s A=>exact λe σ H y=>by obtain⟨F,f,a,q⟩:=y; exact p e σ H ⟨F,f.weaken h,⟨h.none a.1,a.2⟩,q⟩
 | bad=>exact p
def ms (f:FrF W E0 N l A σ H F)(h:PostS W E0 N l E d ((Ip.eval G (Ip.run G n) A.sl e).toO A k))
  (ok:∀x,Ip.eval G (Ip.run G n) A.sl e=.ok x->PostS W E0 N l E d (k x)->∀v b,FrV W E0 N l (Ip.settle e.names A x) σ b x v->Q v b):be W G (Ip.run G n) e E σ H Q:=by
 refine iI f ?_;cases q:Ip.eval G (Ip.run G n) A.sl e with
 | bad=>rw[q] at h; exact h
 | exc c g=>rw[q] at h; exact λa b x=>h a σ b x
 | ok x=>rw[q] at h; exact ok x q h
def qJ (h:bM W G n io E (.set i e) Dn σ H):be W G (Ip.run G n) e E σ H λv H1=>Dn.nx (σ.set i (some v)) H1:=by
 obtain⟨E0,N,l,A,F,d,f,h⟩:=h;rw[Ip.lC] at h;refine ms f h λx ex a v q k=>?_;unfold cq at a;by_cases c:io.contains i=false/\i<(Ip.settle e.names A x).length
 .rw[if_pos c] at a;obtain⟨o,g⟩:=k.set (λp b z=>by have:=d p b; rw[z] at this; have m:=c.1; simp[this] at m) c.2;exact a _ _ _ g
 .rw[if_neg c] at a; exact a.elim
def FrV.drop (h:FrV W E0 N l A σ H x v):∃F,FrF W E0 N l A σ H F/\Den W (hid (aP N F) H) v x.2:=by
 obtain⟨q,f,a,p,m,o⟩:=h;refine⟨f,⟨a.sub,λb z=>a.nok b (.inl z),a.len,a.pn,a.nd,a.dj,λi b c=>⟨(a.fr i b c).1,λz=>(a.fr i b c).2 (.inl z)⟩,λi y d=>?_,a.em⟩,?_⟩
 .obtain⟨w,k,g⟩:=a.rel i y d;refine⟨w,k,g.mono (λb u e=>?_) λ_ _ _ e=>e⟩;obtain⟨g1,g2⟩:=aU.mp e;exact aU.mpr ⟨λz=>g1 (z.imp .inl id),g2⟩
 .refine o.den (λb u e=>?_) λb c u e=>aU.mpr ⟨λz=>?_,e⟩
  .obtain⟨g1,g2⟩:=aU.mp e;exact aU.mpr ⟨λz=>g1 (z.imp .inl id),g2⟩
  .rcases z with z | ⟨j,z⟩
   .exact (m b c).2 z
   .exact (a.fr j b z).2 (.inr c)
def sx (h:bM W G n io E (.ex e) Dn σ H):be W G (Ip.run G n) e E σ H λv H1=>Dn.nx σ H1:=by
 obtain⟨E0,N,l,A,F,j,f,h⟩:=h;rw[Ip.oG] at h;refine ms f h λx ex d v i g=>?_;obtain⟨a,b,_⟩:=g.drop;exact d σ i a b
def vc (b:∀i,e≠.var i)(h:bM W G n io E (.ret e) c σ H):be W G (Ip.run G n) e E σ H c.rt:=by
 obtain⟨E0,N,l,A,F,k,f,h⟩:=h;rw[Ip.mW] at h;have a:Ip.cZ A e (Ip.eval G (Ip.run G n) A.sl e)=(Ip.eval G (Ip.run G n) A.sl e).toO A λx=>.ret x.1 x.2 (Ip.settle e.names A x):=by
  cases e <;> first | rfl | exact absurd rfl (b _)
 rw[a] at h;exact ms f h λx ex d v j g=>d v σ j g
def z9 (h:bM W G n io E (.ret (.var i)) u σ H):∃v,σ[i]? = some (some v)/\u.rt v H:=by
 obtain⟨E0,N,l,A,F,I,f,h⟩:=h;rw[Ip.mW,Ip.uc] at h;cases q:A[i]? with
 | none=>rw[q] at h; exact h.elim
 | some o=>
  cases o with
  | none=>rw[q] at h; exact h.elim
  | some x=>
   rw[q] at h;obtain⟨v,s,t⟩:=f.rel i x q;have B:i<A.length:=(di q).1;have g:∀b,aP (λb=>N b\/b∈F i) (bB [i] F) b↔aP N F b:=λb=>by
    constructor
    .intro z;rcases z with (z | z) | ⟨j,z⟩
     .exact .inl z
     .exact .inr ⟨i,z⟩
     .exact .inr ⟨j,(fm z).2⟩
    .intro z;rcases z with z | ⟨j,z⟩
     .exact .inl (.inl z)
     .by_cases y:j=i
      .rw[y] at z; exact .inl (.inr z)
      .exact .inr ⟨j,by unfold bB; rw[if_neg (by simpa using y)]; exact z⟩
   have a:aP (λb=>N b\/b∈F i) (bB [i] F)=aP N F:=funext λb=>propext (g b);refine⟨v,s,h v σ H ⟨F i,bB [i] F,?_,f.nd i,λb d=>f.fr i b d,by rw[a]; exact t⟩⟩;refine⟨f.sub,λb z=>z.elim (f.nok b) λy=>f.dom y,by rw[GX]; exact f.len,f.pn,λj=>?_,λj k b m e=>f.dj j k b (fm m).2 (fm e).2,λj b d=>?_,λj y c=>?_,λj C=>?_⟩
   .unfold bB;split
    .exact .nil
    .exact f.nd j
   .obtain⟨r,p⟩:=fm d;refine⟨(f.fr j b p).1,λz=>z.elim (f.fr j b p).2 λy=>r ?_⟩;rw[f.dj j i b p y]; simp
   .by_cases z:j=i
    .subst z;rw[GL B] at c; cases c
    .rw[GG λy=>z y.symm] at c;obtain⟨w,m,e⟩:=f.rel j y c;refine⟨w,m,?_⟩;have:bB [i] F j=F j:=by unfold bB; rw[if_neg (by simpa using z)]
     rw[this,a];exact e
   .unfold bB;by_cases z:j=i
    .rw[if_pos (by simpa using z)]
    .rw[if_neg (by simpa using z)];exact f.em j λy w=>C y (by rw[GG λy=>z y.symm]; exact w)
def Bz (f:FrF W E0 N l A σ H F)(h:PostS W E0 N l E v (((Ip.eval G (Ip.run G n) A.sl e).bl).toO A k))
  (ok:∀b,PostS W E0 N l E v (k b)->∀m,FrF W E0 N l A σ m F->Q b m):ce W G (Ip.run G n) e E σ H Q:=by
 have f1:=f.frz e.names;have t:NOk (aP N (bB e.names F)) H:=λb z=>z.elim (f.nok b) λ⟨j,q⟩=>f1.dom q;have o:∀m,Sub H m->FrF W E0 N l A σ m F:=λm hs=>by
  have g:=f.grow hs (fp:=[]) λb z=>by simp at z
  have:(λb=>N b\/b∈([]:al))=N:=funext λb=>propext (by simp);rw[this] at g; exact g
 refine⟨aP N (bB e.names F),mask e.names A.sl,t,λi d p=>?_,?_⟩
 .obtain⟨w,u⟩:=oX p;obtain⟨k,s⟩:=jZ u;exact f.see w s
 rw[<-fV (a:=A.sl) e λi p=>oY p];cases q:Ip.eval G (Ip.run G n) A.sl e with
 | bad=>rw[q] at h; exact h
 | exc c y=>
  rw[q] at h;exact λa m r=>h a σ m (f.excIn r)
 | ok x=>
  obtain⟨B,d⟩:=x;rw[q] at h;cases d <;> try (exact h.elim)
  rename_i b;exact λm hs=>ok b h m (o m hs)
def FO (h:bM W G n io E (.iff c t e) i σ H):kG (ce W G (Ip.run G n) c E) (eB W G n io E t) (eB W G n io E e) i σ H:=by
 obtain⟨E0,N,l,A,F,g,f,h⟩:=h;rw[Ip.uP] at h;unfold kG;refine Bz f h λb a j d=>?_;cases b with
 | true=>rw[if_pos rfl] at a ⊢; exact⟨E0,N,l,A,F,g,d,a⟩
 | false=>rw[if_neg (by decide)] at a ⊢; exact⟨E0,N,l,A,F,g,d,a⟩
def FrF.set0 (f:FrF W E0 N l A σ H F)(hd:Den W (hid (aP N F) H) v d)(s:∀p∈l,p.1≠i)(m:i<A.length):FrF W E0 N l (A.set i (some (0,d))) (σ.set i (some v)) H (bB [i] F):=by
 have h:i < σ.length:=by rw[f.len]; exact m
 refine⟨f.sub,f.nok,by rw[GX,GX]; exact f.len,λp o=>by rw[GG λz=>s p o z.symm]; exact f.pn p o,λj=>?_,λj k b g c=>f.dj j k b (fm g).2 (fm c).2,λj b q=>f.fr j b (fm q).2,λj y a=>?_,λj r=>?_⟩
 .unfold bB;split
  .exact .nil
  .exact f.nd j
 .have sub:Sub (hid (aP N F) H) (hid (aP N (bB [i] F)) H):=λb u e=>aU.mpr ⟨λz=>(aU.mp e).1 (lD z),(aU.mp e).2⟩;by_cases z:j=i
  .subst z;rw[GL m] at a;cases a;refine⟨v,GL h,?_⟩;unfold bB;rw[if_pos (by simp)];exact⟨rfl,hd.mono sub⟩
  .rw[GG λy=>z y.symm] at a;obtain⟨w,g,c⟩:=f.rel j y a;refine⟨w,by rw[GG λy=>z y.symm]; exact g,?_⟩;have:bB [i] F j=F j:=by unfold bB; rw[if_neg (by simpa using z)]
   rw[this];exact c.mono sub λ_ _ _ e=>e
 .unfold bB;by_cases z:j=i
  .rw[if_pos (by simpa using z)]
  .rw[if_neg (by simpa using z)];exact f.em j λy w=>r y (by rw[GG λy=>z y.symm]; exact w)
def rp:Sub (hid (aP N F) H) (hid (aP N (bB a F)) H):=λb u e=>aU.mpr ⟨λz=>(aU.mp e).1 (lD z),(aU.mp e).2⟩
def nL (b:∀p∈l,p.1∈io)(h:io.contains i=false):∀p∈l,p.1≠i:=λp a z=>by
 have:=b p a;rw[z] at this;simp[this] at h
def Bg (g:∀p∈l,p.1∈io)(b:∀A F σ,FrF W E0 N l A σ H F->PostS W E0 N l E j (k A)->Q σ H) :
  ∀{is:aj} {e:av} {a:ax} {A:Fr} {σ:St} {F:Nat->al},Dens W (hid (aP N F) H) e a->FrF W E0 N l A σ H F->PostS W E0 N l E j ((Ip.setFs io is (a.map λd=>(0,d)) A).seq k)->kE is e σ H Q:=by
 intro is;induction is with
 | nil=>
  intro e a A σ F d f h;cases d with
  | nil=>exact⟨rfl,b A F σ f h⟩
  | cons _ _=>exact h.elim
 | cons i is O=>
  intro e a A σ F d f h;cases d with
  | nil=>exact h.elim
  | cons hd q=>
   refine⟨_,_,rfl,?_⟩;show kE is _ (σ.set i (some _)) H Q;simp only[GM,Ip.qx] at h;unfold cq at h;by_cases c:io.contains i=false/\i<A.length
   .rw[if_pos c] at h;exact O (q.mono rp) (f.set0 hd (nL g c.1) c.2) h
   .rw[if_neg c] at h; exact h.elim
def wQ (o:W.K=X.K)(g:∀p∈l,p.1∈io)(hd:Den W (hid (aP N F) H) v d)(f:FrF W E0 N l A σ H F)(h:PostS W E0 N l E Dn ((bZ io j d A).seq k))
  (b:∀A F σ,FrF W E0 N l A σ H F->PostS W E0 N l E Dn (k A)->Q σ H):gT X.K j v σ H Q:=by
 cases j with
 | one i=>
  simp only[bZ] at h;unfold cq at h;by_cases c:io.contains i=false/\i<A.length
  .rw[if_pos c] at h;exact b _ _ _ (f.set0 hd (nL g c.1) c.2) h
  .rw[if_neg c] at h; exact h.elim
 | many is=>
  cases hd <;> simp only[bZ] at h <;> try (exact h.elim)
  rename_i a q r m e;refine⟨a,q,rfl,o ▸ SqT.sub bN m,?_,Bg g b e f h⟩;rw[e.length];exact len_of h
where
 len_of {E0:Hp} {Dn:Ends} {k:Fr->Ip.O}:∀{is:aj} {ds:ax} {A:Fr},PostS W E0 N l E Dn ((Ip.setFs io is (ds.map λd=>(0,d)) A).seq k)->ds.length=is.length
  | [],[],_,_=>rfl
  | [],_::_,_,h=>h.elim
  | _::_,[],_,h=>h.elim
  | i::is,d::ds,A,h=>by
   simp only[GM,Ip.qx] at h;unfold cq at h;by_cases c:io.contains i=false/\i<A.length
   .rw[if_pos c] at h;rw[List.length_cons,List.length_cons,len_of h]
   .rw[if_neg c] at h; exact h.elim
def tJ (p:W.K=X.K)(h:bM W G n io E (.setT is e) b σ H):be W G (Ip.run G n) e E σ H λv q=>gT X.K (.many is) v σ q b.nx:=by
 obtain⟨E0,N,l,A,F,m,f,h⟩:=h;rw[Ip.vk] at h;refine ms f h λx ex a v i r=>?_;obtain⟨t,j,s⟩:=r.drop;have g:∀o:Ip.O,(o.seq λA=>.nx A)=o:=λo=>by cases o <;> rfl
 have c:Ip.gu io is e A x=bZ io (.many is) x.2 (Ip.settle e.names A x):=by
  obtain⟨k,d⟩:=x;cases d <;> rfl
 rw[c,<-g (bZ io (.many is) x.2 (Ip.settle e.names A x))] at a;exact wQ p m s j a λA F σ f h=>h σ i F f
def Ae (f:FrF W E0 N l A σ H F)(h:PostS W E0 N l E Dn ((evals G (Ip.run G n) A.sl g).toO A k))(x:∀m,PostS W E0 N l E Dn (k m)->∃o,dB t m=some o)
  (ok:∀m o,dB t m=some o->PostS W E0 N l E Dn (k m)->∀J p,Sub H p->ItD W (aP N (bB (Ex.namess g) F)) p J o->R J p):gn W G (Ip.run G n) t g E σ H R:=by
 have f1:=f.frz (Ex.namess g);have v:NOk (aP N (bB (Ex.namess g) F)) H:=λb z=>z.elim (f.nok b) λ⟨j,q⟩=>f1.dom q;refine⟨aP N (bB (Ex.namess g) F),mask (Ex.namess g) A.sl,v,λi d s=>?_,?_⟩
 .obtain⟨y,w⟩:=oX s;obtain⟨k,u⟩:=jZ w;exact f.see y u
 rw[<-zAL (a:=A.sl) g λi s=>oY s];cases q:evals G (Ip.run G n) A.sl g with
 | bad=>rw[q] at h; exact h
 | exc c B=>rw[q] at h; exact λa p r=>h a σ p (f.excIn r)
 | ok m=>
  rw[q] at h;obtain⟨o,e⟩:=x m h;simp only[e];exact ok m o e h
def Dg (hK:W.K=X.K)(h:bM W G n io E (.fo tg wk it b) Dn σ H):kM (gn W G (Ip.run G n) wk it E) (gT X.K tg) (eB W G n io E b) Dn σ H:=by
 obtain⟨E0,N,l,A,F,hp,f,h⟩:=h;rw[Ip.ri] at h;unfold kM;have pre:∀vs,PostS W E0 N l E Dn (lu G (bH (fJ G (Ip.run G n) io tg b)) wk it A vs)->∃ds,dB wk vs=some ds/\ds.length<=SL/\PostS W E0 N l E Dn (bH (fJ G (Ip.run G n) io tg b) ds (frz (Ex.namess it) A)):=λvs hv=>by
  unfold lu at hv;cases q:dB wk vs with
  | none=>rw[q] at hv; exact hv.elim
  | some ds=>
   rw[q] at hv;simp only at hv;by_cases hl:ds.length<=SL
   .rw[if_pos hl] at hv; exact⟨ds,rfl,hl,hv⟩
   .rw[if_neg hl] at hv; exact hv.elim
 refine Ae f h (λvs hv=>by obtain⟨ds,e,_⟩:=pre vs hv; exact⟨ds,e⟩) λvs ds e hv J H1 hs hJ=>?_;obtain⟨ds',e',hl,hq⟩:=pre vs hv;rw[e] at e';cases e';have f0:=f.frz (Ex.namess it);have f1:FrF W E0 N l (frz (Ex.namess it) A) σ H1 (bB (Ex.namess it) F):=by
  have g:=f0.grow hs (fp:=[]) λb z=>by simp at z
  have:(λb=>N b\/b∈([]:al))=N:=funext λb=>propext (by simp);rw[this] at g; exact g
 have hE1:Sub E0 (hid (λb=>∃j,b∈bB (Ex.namess it) F j) H1):=λb o eb=>aU.mpr ⟨(λ⟨j,z⟩=>by rw[(f1.fr j b z).1] at eb; cases eb),f1.sub b o eb⟩;have f2:FrF W (hid (λb=>∃j,b∈bB (Ex.namess it) F j) H1) N l (frz (Ex.namess it) A) σ H1 (bB (Ex.namess it) F):=
  ⟨bN,f1.nok,f1.len,f1.pn,f1.nd,f1.dj,λi b hb=>⟨by
   cases q:hid (λb=>∃j,b∈bB (Ex.namess it) F j) H1 b with
   | none=>rfl
   | some o=>exact absurd ⟨i,hb⟩ (aU.mp q).1,(f1.fr i b hb).2⟩,f1.rel,f1.em⟩
 have hvis:∀b o,hid (aP N (bB (Ex.namess it) F)) H1 b=some o->¬N b/\hid (λb=>∃j,b∈bB (Ex.namess it) F j) H1 b=some o:=λb o e=>by
  obtain⟨g1,g2⟩:=aU.mp e;exact⟨λz=>g1 (.inl z),aU.mpr ⟨λz=>g1 (.inr z),g2⟩⟩
 generalize hid (λb=>∃j,b∈bB (Ex.namess it) F j) H1=E1 at hE1 f2 hvis;refine⟨λi m σ H=>i<=ds.length/\m=ds.length - i/\∃A F,FrF W E1 N l A σ H F/\PostS W E0 N l E Dn (bH (fJ G (Ip.run G n) io tg b) (ds.drop i) A),⟨ds.length,G3 _,by omega,_,_,f2,by simpa using hq⟩,?_⟩;rintro i m σ1 Hc ⟨hi,rfl,A1,F1,f3,p3⟩;have hsub:Sub (hid (aP N (bB (Ex.namess it) F)) H1) (hid (aP N F1) Hc):=λb o e=>by
  obtain⟨g1,g2⟩:=hvis b o e;refine aU.mpr ⟨λz=>?_,f3.sub b o g2⟩;rcases z with z | ⟨j,z⟩
  .exact g1 z
  .rw[(f3.fr j b z).1] at g2; cases g2
 have hN3:NOk (aP N F1) Hc:=λb z=>z.elim (f3.nok b) λ⟨j,q⟩=>f3.dom q;obtain⟨J1,J2⟩:=hJ (aP N F1) Hc hsub hN3 i;by_cases hlt:i<ds.length
 .have hdrop:ds.drop i=ds[i]::ds.drop (i+1):=HS hlt;rw[hdrop,bH] at p3;obtain⟨Jg,Jy⟩:=J1 ds[i] (by simp[hlt]);refine .inr ⟨Jg,λσ H=>∃A F,FrF W E1 N l A σ H F/\PostS W E0 N l E Dn (bH (fJ G (Ip.run G n) io tg b) (ds.drop (i+1)) A),λσ' H' y=>by obtain⟨A',F',f',p'⟩:=y; exact⟨ds.length - (i+1),by omega,hlt,rfl,A',F',f',p'⟩,λx H' hy=>?_⟩;obtain⟨s3,dx⟩:=Jy x H' hy;have f4:FrF W E1 N l A1 σ1 H' F1:=by
   have g:=f3.grow s3 (fp:=[]) λb z=>by simp at z
   have:(λb=>N b\/b∈([]:al))=N:=funext λb=>propext (by simp);rw[this] at g; exact g
  have turn:PostS W E1 N l E { Dn with nx:=λσ H=>∃A F,FrF W E1 N l A σ H F/\PostS W E0 N l E Dn (bH (fJ G (Ip.run G n) io tg b) (ds.drop (i+1)) A),ct:=λσ H=>∃A F,FrF W E1 N l A σ H F/\PostS W E0 N l E Dn (bH (fJ G (Ip.run G n) io tg b) (ds.drop (i+1)) A),bk:=Dn.nx }
    (fJ G (Ip.run G n) io tg b ds[i] A1):=by
   cases q:fJ G (Ip.run G n) io tg b ds[i] A1 with
   | nx A'=>rw[q] at p3; exact λσ H F f=>⟨A',F,f,p3⟩
   | ret k d A'=>
    rw[q] at p3;exact PostS.strong (Dn:=Dn) (o:=.ret k d A') hE1 p3
   | exc c fs A'=>
    rw[q] at p3;exact PostS.strong (Dn:=Dn) (o:=.exc c fs A') hE1 p3
   | bad=>rw[q] at p3; exact p3
  unfold fJ at turn;exact wQ hK hp dx f4 turn λA2 F2 σ2 g p=>⟨E1,N,l,A2,F2,hp,g,p⟩
 .have e:i=ds.length:=by omega
  subst e;rw[Je (Nat.le_refl _),bH] at p3;exact .inl ⟨J2 (bA _),p3 _ _ _ (f3.weaken hE1)⟩
end
section
variable {X:Cx}{W:Wd}{G:Pg}{n:Nat}{io:aj}{E:St->XK}{E0:Hp}{N:Addr->Prop}{m:List (Nat×V)}{A:Fr}{σ:St}{H:Hp}{F:Nat->al}
def FrF.upd {fp fx:al}{x:Nat}{l:Addr}{v0:V}{y:KD}{H2:Hp}(f:FrF W E0 (λb=>N b\/b∈fp) m A σ H F)(M:∀b∈fp,E0 b=none/\¬N b)(B:l∈F x)(J:x<A.length)(t:σ[x]? = some (some v0))(I:fx.Nodup)(d:∀b∈fx,b∈F x\/b∈fp)
  (c:∀b,b≠l->∀u,H b=some u->H2 b=some u)(s:H2 l≠none)(P:Own W (hid (aP N λj=>if j=x then fx else F j) H2) H2 y.1 v0 y.2 fx):FrF W E0 N m (A.set x (some y)) σ H2 λj=>if j=x then fx else F j:=by
 have Q:E0 l=none:=(f.fr x l B).1;have g:∀j b,b∈(if j=x then fx else F j)->(j=x/\b∈fx)\/(j≠x/\b∈F j):=λj b h=>by
  by_cases z:j=x
  .rw[if_pos z] at h; exact .inl ⟨z,h⟩
  .rw[if_neg z] at h; exact .inr ⟨z,h⟩
 refine⟨λb u e=>c b (λz=>by rw[z,Q] at e; cases e) u (f.sub b u e),λb z=>?_,by rw[GX]; exact f.len,f.pn,λj=>?_,λi j b v r=>?_,λj b h=>?_,λj z p=>?_,λj L=>?_⟩
 .by_cases q:b=l
  .rw[q]; exact s
  .have:=f.nok b (.inl z);cases e:H b with
   | none=>exact absurd e this
   | some u=>rw[c b q u e]; simp
 .by_cases z:j=x
  .simp only[if_pos z]; exact I
  .simp only[if_neg z]; exact f.nd j
 .rcases g i b v with ⟨o,a⟩ | ⟨o,a⟩ <;> rcases g j b r with ⟨C,k⟩ | ⟨C,k⟩
  .rw[o,C]
  .rcases d b a with w | w
   .exact absurd (f.dj j x b k w) C
   .exact absurd (.inr w) (f.fr j b k).2
  .rcases d b k with w | w
   .exact absurd (f.dj i x b a w) o
   .exact absurd (.inr w) (f.fr i b a).2
  .exact f.dj i j b a k
 .rcases g j b h with ⟨z,q⟩ | ⟨z,q⟩
  .rcases d b q with w | w
   .exact⟨(f.fr x b w).1,λy=>(f.fr x b w).2 (.inl y)⟩
   .exact M b w
  .exact⟨(f.fr j b q).1,λy=>(f.fr j b q).2 (.inl y)⟩
 .by_cases q:j=x
  .subst q;rw[GL J] at p;cases p;exact⟨_,t,by simp only[if_true]; exact P⟩
  .rw[GG λy=>q y.symm] at p;obtain⟨w,v,r⟩:=f.rel j z p;refine⟨w,v,?_⟩;simp only[if_neg q];refine r.mono (λb u e=>?_) λb T u e=>c b (λy=>q (f.dj j x b T (y ▸ B))) u e;obtain⟨g1,g2⟩:=aU.mp e;have bl:b≠l:=λy=>g1 (.inr ⟨x,y ▸ B⟩);refine aU.mpr ⟨λy=>?_,c b bl u g2⟩;rcases y with y | ⟨i,y⟩
   .exact g1 (.inl (.inl y))
   .rcases g i b y with ⟨o,a⟩ | ⟨o,a⟩
    .rcases d b a with w | w
     .exact g1 (.inr ⟨x,w⟩)
     .exact g1 (.inl (.inr w))
    .exact g1 (.inr ⟨i,a⟩)
 .by_cases q:j=x
  .subst q;exact absurd (GL J) (L y)
  .simp only[if_neg q];exact f.em j λz w=>L z (by rw[GG λy=>q y.symm]; exact w)
def OwnL.snoc (h:P v d g):∀{a c b},OwnL P a c b->OwnL P (a++[v]) (c++[d]) (b++g):=by
 intro _ _ _ hZ;induction hZ with
 | nil=>simpa using OwnL.cons h .nil
 | cons e q O=>
  rw[List.cons_append,List.cons_append,JJ];exact .cons e (O)
def Fa {x:Nat}{k:Nat}{xs:ax}{v:KD}{w:V}(fv:FrV W E0 N m A σ H v w)(hx:A[x]? = some (some (k+1,.lst xs))) :
  ∃l ws,σ[x]? = some (some (.ref l))/\H l=some (.lst ws)/\ws.length=xs.length/\∃F',FrF W E0 N m (A.set x (some (cJ k xs v+1,.lst (xs++[v.2])))) σ (upd H l (.lst (ws++[w]))) F':=by
 obtain⟨fp,F,f,nd,fr,o⟩:=fv;obtain⟨z,hσ,l,ws,fq,rfl,e2,e3,e4⟩:=f.rel x _ hx;have hl:l∈F x:=by rw[e4]; exact bP
 have hxl:x<A.length:=(di hx).1;have ndx:=f.nd x;rw[e4] at ndx;obtain⟨lq,ndq⟩:=G2.mp ndx;have lfp:l∉fp:=λz=>(f.fr x l hl).2 (.inr z);have qF:∀b∈fq,b∈F x:=λb hb=>by rw[e4]; exact bK _ hb
 have h12:∀b,b≠l->∀u,H b=some u->(L2.upd H l (.lst (ws++[w]))) b=some u:=λb nb u e=>by rw[bE nb]; exact e
 refine⟨l,ws,hσ,e2,e3.length,?_⟩;have deep:∀j,bg j v=true->(xs.all λd=>bg j (k,d))=true->∃F',FrF W E0 N m (A.set x (some (j+1,.lst (xs++[v.2])))) σ (L2.upd H l (.lst (ws++[w]))) F':=λj h1 h2=>by
  refine⟨_,f.upd (fx:=l::(fq++fp)) (y:=(j+1,.lst (xs++[v.2]))) fr hl hxl hσ ?_ (λb hb=>?_) h12 (by rw[bT]; simp) ⟨l,_,fq++fp,rfl,bT,?_,rfl⟩⟩
  .refine G2.mpr ⟨λz=>(dL z).elim lq lfp,GU.mpr ⟨ndq,nd,λb hb c hc z=>?_⟩⟩;subst z;exact (f.fr x b (qF b hb)).2 (.inr hc)
  .rcases ck hb with z | z
   .rw[z]; exact .inl hl
   .exact (dL z).imp (qF b) id
  .have sub:Sub (hid (aP (λb=>N b\/b∈fp) F) H) (hid (aP N λi=>if i=x then l::(fq++fp) else F i) (L2.upd H l (.lst (ws++[w])))):=λb u e=>by
    obtain⟨g1,g2⟩:=aU.mp e;have bl:b≠l:=λy=>g1 (.inr ⟨x,y ▸ hl⟩);refine aU.mpr ⟨λy=>?_,h12 b bl u g2⟩;rcases y with y | ⟨i,y⟩
    .exact g1 (.inl (.inl y))
    .by_cases z:i=x
     .simp only[if_pos z] at y;rcases ck y with q | q
      .exact bl q
      .rcases dL q with q | q
       .exact g1 (.inr ⟨x,qF b q⟩)
       .exact g1 (.inl (.inr q))
     .simp only[if_neg z] at y;exact g1 (.inr ⟨i,y⟩)
   refine OwnL.snoc ((o.at h1).mono sub λb hb u e=>h12 b (λz=>lfp (z ▸ hb)) u e) ?_;have e5:=e3.re (Q:=Own W (hid (aP (λb=>N b\/b∈fp) F) H) H j) (b:=λd=>bg j (k,d)) (λv d g hb o=>Own.at hb o) h2;exact e5.imp λv d g hg o=>o.mono sub λb hb u e=>h12 b (λz=>lq (z ▸ hg b hb)) u e
 unfold cJ;by_cases c1:bg k v=true
 .rw[if_pos c1];refine deep k c1 (List.all_eq_true.mpr λd _=>?_);unfold bg;simp
 .rw[if_neg c1];by_cases c2:(xs.all λd=>bg v.1 (k,d))=true
  .rw[if_pos c2];refine deep v.1 ?_ c2;unfold bg;simp
  .rw[if_neg c2];refine⟨_,f.upd (fx:=[l]) (y:=(1,.lst (xs++[v.2]))) fr hl hxl hσ (by simp) (λb hb=>by rw[GI.mp hb]; exact .inl hl) h12 (by rw[bT]; simp) ⟨l,_,[],rfl,bT,OwnL.zero ?_,rfl⟩⟩;have sub:Sub (hid (aP (λb=>N b\/b∈fp) F) H) (hid (aP N λi=>if i=x then [l] else F i) (L2.upd H l (.lst (ws++[w])))):=λb u e=>by
    obtain⟨g1,g2⟩:=aU.mp e;have bl:b≠l:=λy=>g1 (.inr ⟨x,y ▸ hl⟩);refine aU.mpr ⟨λy=>?_,h12 b bl u g2⟩;rcases y with y | ⟨i,y⟩
    .exact g1 (.inl (.inl y))
    .by_cases z:i=x
     .simp only[if_pos z] at y; exact bl (GI.mp y)
     .simp only[if_neg z] at y;exact g1 (.inr ⟨i,y⟩)
   have see:∀b,(b∈fq\/b∈fp)->∀u,H b=some u->hid (aP N λi=>if i=x then [l] else F i) (L2.upd H l (.lst (ws++[w]))) b=some u:=λb hb u e=>by
    have bl:b≠l:=λz=>hb.elim (λy=>lq (z ▸ y)) λy=>lfp (z ▸ y);refine aU.mpr ⟨λy=>?_,h12 b bl u e⟩;rcases y with y | ⟨i,y⟩
    .rcases hb with q | q
     .exact (f.fr x b (qF b q)).2 (.inl y)
     .exact (fr b q).2 y
    .by_cases z:i=x
     .simp only[if_pos z] at y; exact bl (GI.mp y)
     .simp only[if_neg z] at y;rcases hb with q | q
      .exact z (f.dj i x b y (qF b q))
      .exact (f.fr i b y).2 (.inr q)
   exact (e3.dens λv d g hg o=>o.den sub λb hb u e=>see b (.inl (hg b hb)) u e).append (.cons (o.den sub λb hb u e=>see b (.inr hb) u e) .nil)
def B4 (Z:W.K=X.K)(h:bM W G n io E (.mut x [] .append [e]) I σ H):cG (gN X.K "list" gj (cu x) (ci (be W G (Ip.run G n) e E) er)) I σ H:=by
 obtain⟨E0,N,m,A,F,hp,f,h⟩:=h;rw[Ip.k8] at h;by_cases c:cQ A[x]? = true
 rotate_left
 .rw[if_neg c] at h; exact h.elim
 rw[if_pos c] at h;have hs:∃k j,A[x]? = some (some (k,.lst j)):=by
  cases q:A[x]? with
  | none=>rw[q] at c; cases c
  | some o=>
   rw[q] at c;cases o with
   | none=>cases c
   | some y=>
    obtain⟨k,d⟩:=y;cases d <;> first | exact⟨k,_,rfl⟩ | cases c
 obtain⟨k,j,B⟩:=hs;obtain⟨v,p,C⟩:=f.rel x _ B;have Q:Den W H v (.lst j):=C.den bN λ_ _ _ e=>e;unfold cG gN;refine⟨v,p,?_,?_⟩
 .cases Q with | @lst l b _ P U=>?_
  exact .inl ⟨rfl,b,.inl P⟩
 dsimp only[de,bG,Ip.R.toO,Ip.R.bind] at h;unfold ci;refine iI f ?_;cases q:Ip.eval G (Ip.run G n) A.sl e with
 | bad=>rw[q] at h; exact h
 | exc c fs=>rw[q] at h; exact λa J r=>h a σ J r
 | ok y=>
  rw[q] at h;dsimp only[eU] at h;have u:(if ([y].all λv=>v.2.fb v.1)=true then A else frz (Ex.namess [e]) A)=Ip.settle e.names A y:=by
   unfold Ip.settle;simp
  rw[u] at h;intro w Y t;cases g:(Ip.settle e.names A y)[x]? with
  | none=>rw[g] at h; exact h.elim
  | some o=>
   rw[g] at h;cases o with
   | none=>exact h.elim
   | some z=>
    obtain⟨s,d⟩:=z;cases s with
    | zero=>cases d <;> exact h.elim
    | succ s=>
     cases d <;> try (exact h.elim)
     rename_i M;dsimp only[fe,Ip.wu] at h;by_cases i:M.length<SL
     .rw[if_pos i] at h;obtain⟨l,b,g1,g2,g3,T,L⟩:=Fa t g;rw[p] at g1;cases g1;exact⟨l,b,w,rfl,rfl,g2,by rw[g3]; exact eD i (by decide),h _ _ _ L⟩
     .rw[if_neg i] at h; exact h.elim
end
theorem OwnF.put (u:att.Nodup)(r:att[f]? = some n)(h:P v d g):∀{vs x s},OwnF att P vs x s->(s++g).Nodup ->
  ∃p:al,OwnF att P (putF n v vs) (Ip.putF f d x) p/\p.Nodup/\∀b∈p,b∈s\/b∈g:=by
 intro _ _ _ hZ hd;cases hZ with
 | nil=>exact⟨g,by
   have:=OwnF.cons r h (OwnF.nil (att:=att) (P:=P));rw[Hz] at this;exact this,by simpa using hd,λb j=>.inr j⟩
 | @cons m i _ _ B _ _ E o y q=>
  unfold putF Ip.putF;have c:=GU.mp hd;have k:=GU.mp c.1;by_cases e:i=f
  .subst e;have:m=n:=by rw[r] at o; exact (cm o).symm
   subst this;rw[if_pos rfl,if_pos rfl];refine⟨g++E,.cons o h q,GU.mpr ⟨c.2.1,k.2.1,λa l b j z=>?_⟩,λb j=>?_⟩
   .exact c.2.2 b (cx _ j) a l z.symm
   .rcases dL j with z | z
    .exact .inr z
    .exact .inl (cx _ z)
  .have C:m≠n:=λz=>e (rN u o (by rw[z]; exact r));rw[if_neg e,if_neg C];obtain⟨p,A,F,t⟩:=q.put u r h (GU.mpr ⟨k.2.1,c.2.1,λa l b j z=>c.2.2 a (cx _ l) b j z⟩);refine⟨B++p,.cons o y A,GU.mpr ⟨k.1,F,λa l b j z=>?_⟩,λb j=>?_⟩
   .rcases t b j with w | w
    .exact k.2.2 a l b w z
    .exact c.2.2 a (ev _ l) b w z
   .rcases dL j with z | z
    .exact .inl (ev _ z)
    .exact (t b z).imp (cx _) id
theorem OwnF.length:∀{vs ds fp},OwnF a P vs ds fp->vs.length=ds.length:=by
 intro _ _ _ hZ;induction hZ with
 | nil=>exact rfl
 | cons _ _ q O=>rw[List.length_cons,List.length_cons,O]
theorem OwnF.zero:∀{vs a},DenF W S vs a->OwnF W.att (Own W S H 0) vs a []:=by
 intro _ _ hZ;cases hZ with
 | nil=>exact .nil
 | cons b h q=>exact OwnF.cons (f:=[]) (g:=[]) b ⟨rfl,h⟩ (OwnF.zero q)
section
variable {X:Cx}{W:Wd}{G:Pg}{n:Nat}{io:aj}{E:St->XK}{E0:Hp}{N:Addr->Prop}{m:List (Nat×V)}{A:Fr}{σ:St}{H:Hp}{F:Nat->al}
def v9 (nda:W.att.Nodup)(hnm:W.att[f]? = some nm)(fr0:FrF W E0 (λb=>N b\/b∈fp) m A σ H F)(nd:fp.Nodup)(fr:∀b∈fp,E0 b=none/\¬N b)
  (o:Own W (hid (aP (λb=>N b\/b∈fp) F) H) H v.1 w v.2 fp)(hxl:x<A.length)(hσ:σ[x]? = some (some (.ref l)))(e4:F x=l::fq)(e3:OwnF W.att (Own W (hid (aP (λb=>N b\/b∈fp) F) H) H k) ws fs fq)
  (h12:∀b,b≠l->∀u,H b=some u->H2 b=some u)(h2l:H2 l≠none)
  (own:∀j fz S,OwnF W.att (Own W S H2 j) (putF nm w ws) (Ip.putF f v.2 fs) fz->Own W S H2 (j+1) (.ref l) dd (l::fz)) :
  ∃F',FrF W E0 N m (A.set x (some (cJ k (fs.map (·.2)) v+1,dd))) σ H2 F':=by
 have B:l∈F x:=by rw[e4]; exact bP
 have Y:=fr0.nd x;rw[e4] at Y;obtain⟨lq,a1⟩:=G2.mp Y;have a0:l∉fp:=λz=>(fr0.fr x l B).2 (.inr z);have Z:∀b∈fq,b∈F x:=λb a=>by rw[e4]; exact bK _ a
 have a2:(fq++fp).Nodup:=GU.mpr ⟨a1,nd,λb a c hc z=>by subst z; exact (fr0.fr x b (Z b a)).2 (.inr hc)⟩;have sub:∀fz:al,(∀b∈fz,b∈fq\/b∈fp)->Sub (hid (aP (λb=>N b\/b∈fp) F) H) (hid (aP N λi=>if i=x then l::fz else F i) H2):=λfz hz b u e=>by
  obtain⟨g1,g2⟩:=aU.mp e;have bl:b≠l:=λy=>g1 (.inr ⟨x,y ▸ B⟩);refine aU.mpr ⟨λy=>?_,h12 b bl u g2⟩;rcases y with y | ⟨i,y⟩
  .exact g1 (.inl (.inl y))
  .by_cases z:i=x
   .simp only[if_pos z] at y;rcases ck y with q | q
    .exact bl q
    .rcases hz b q with q | q
     .exact g1 (.inr ⟨x,Z b q⟩)
     .exact g1 (.inl (.inr q))
   .simp only[if_neg z] at y;exact g1 (.inr ⟨i,y⟩)
 have deep:∀j,bg j v=true->((fs.map (·.2)).all λd=>bg j (k,d))=true->∃F',FrF W E0 N m (A.set x (some (j+1,dd))) σ H2 F':=λj h1 h2=>by
  have e5:=e3.re (Q:=Own W (hid (aP (λb=>N b\/b∈fp) F) H) H j) (b:=λd=>bg j (k,d)) (λv d g a o=>Own.at a o) (by rw[List.all_map] at h2; exact h2);obtain⟨fz,k1,k2,k3⟩:=e5.put nda hnm (o.at h1) a2;have lz:l∉fz:=λz=>(k3 l z).elim lq a0;refine⟨_,fr0.upd (fx:=l::fz) (y:=(j+1,dd)) fr B hxl hσ (G2.mpr ⟨lz,k2⟩) (λb a=>?_) h12 h2l (own j fz _ (k1.imp λv d g hg o=>o.mono (sub fz k3) λb a u e=>h12 b (λz=>lz (z ▸ hg b a)) u e))⟩;rcases ck a with z | z
  .rw[z]; exact .inl B
  .exact (k3 b z).imp (Z b) id
 unfold cJ;by_cases c1:bg k v=true
 .rw[if_pos c1];refine deep k c1 (List.all_eq_true.mpr λd _=>?_);unfold bg;simp
 .rw[if_neg c1];by_cases c2:((fs.map (·.2)).all λd=>bg v.1 (k,d))=true
  .rw[if_pos c2];refine deep v.1 ?_ c2;unfold bg;simp
  .rw[if_neg c2];have t:=sub [] (λb z=>by simp at z);have C:∀b,(b∈fq\/b∈fp)->∀u,H b=some u->hid (aP N λi=>if i=x then [l] else F i) H2 b=some u:=λb a u e=>by
    have bl:b≠l:=λz=>a.elim (λy=>lq (z ▸ y)) λy=>a0 (z ▸ y);refine aU.mpr ⟨λy=>?_,h12 b bl u e⟩;rcases y with y | ⟨i,y⟩
    .rcases a with q | q
     .exact (fr0.fr x b (Z b q)).2 (.inl y)
     .exact (fr b q).2 y
    .by_cases z:i=x
     .simp only[if_pos z] at y; exact bl (GI.mp y)
     .simp only[if_neg z] at y;rcases a with q | q
      .exact z (fr0.dj i x b y (Z b q))
      .exact (fr0.fr i b y).2 (.inr q)
   have dn:DenF W (hid (aP N λi=>if i=x then [l] else F i) H2) (putF nm w ws) (Ip.putF f v.2 fs):=
    (e3.dens λv d g hg o=>o.den t λb a u e=>C b (.inl (hg b a)) u e).put nda hnm (o.den t λb a u e=>C b (.inr a) u e)
   exact⟨_,fr0.upd (fx:=[l]) (y:=(1,dd)) fr B hxl hσ (by simp) (λb a=>by rw[GI.mp a]; exact .inl B) h12 h2l (own 0 [] _ (OwnF.zero dn))⟩
def CO (M:W.K=X.K)(P:CF W fl)(hk:k∈fl)(l:W.att[k]? = some B)(h:bM W G n io E (.sfld x k e) Dn σ H) :
  i3 X.K (cu x) (be W G (Ip.run G n) e E) B Dn σ H\/g8 X.K (cu x) (be W G (Ip.run G n) e E) B Dn σ H:=by
 obtain⟨E0,N,m,A,F,hp,f,h⟩:=h;rw[Ip.ES] at h;cases q:Ip.eval G (Ip.run G n) A.sl e with
 | bad=>rw[q] at h; exact h.elim
 | exc c p=>
  refine .inl ?_;unfold i3;refine iI f ?_;rw[q] at h ⊢;exact λa H' r=>h a σ H' r
 | ok v=>
  rw[q] at h;simp only[Ip.R.toO] at h;cases J:(Ip.settle e.names A v)[x]? with
  | none=>rw[J] at h; exact h.elim
  | some oo=>
   rw[J] at h;cases oo with
   | none=>exact h.elim
   | some z=>
    obtain⟨k',d⟩:=z;have s:x<(Ip.settle e.names A v).length:=(di J).1;cases k' with
    | zero=>cases d <;> exact h.elim
    | succ k'=>
     cases d <;> try (exact h.elim)
     .rename_i c p;simp only[Ip.fU] at h;by_cases t:p.length<50
      rotate_left
      .rw[if_neg t] at h; exact h.elim
      rw[if_pos t] at h;refine .inl ?_;unfold i3;refine iI f ?_;rw[q];rintro w H1 ⟨fp,F1,f1,nd,fr,o⟩;obtain⟨z,i,a,C,dx,L,fq,rfl,Q,I,y,U⟩:=f1.rel x _ J;obtain⟨Y,na⟩:=P.ins c C I;refine⟨_,i,a,C,dx,L,rfl,Q,M ▸ Y.cls,M ▸ na k B hk l,by rw[y.length]; omega,?_⟩;obtain⟨F',g⟩:=v9 (H2:=L2.upd H1 a (.ins C dx (putF B w L))) (dd:=.ins c (Ip.putF k v.2 p)) P.nd l f1 nd fr o s i U y (λb Z u e=>by rw[bE Z]; exact e) (by rw[bT]; simp)
       (λj fz S hz=>⟨a,C,dx,_,fz,rfl,bT,I,hz,rfl⟩)
      exact h _ _ _ g
     .rename_i c p;simp only[Ip.fU] at h;by_cases t:p.length<50
      rotate_left
      .rw[if_neg t] at h; exact h.elim
      rw[if_pos t] at h;refine .inr ?_;unfold g8;refine iI f ?_;rw[q];rintro w H1 ⟨fp,F1,f1,nd,fr,o⟩;obtain⟨z,i,a,C,nw,L,fq,rfl,Q,I,y,U⟩:=f1.rel x _ J;obtain⟨Y,na⟩:=P.exc c C I.1;obtain⟨fI,tl,T⟩:=Y.xc;refine⟨_,i,a,C,fI,tl,nw,L,rfl,Q,M ▸ T,M ▸ na k B hk l,by rw[y.length]; omega,λH3 h3 h4=>?_⟩;obtain⟨F',g⟩:=v9 (H2:=H3) (dd:=.exc c (Ip.putF k v.2 p)) P.nd l f1 nd fr o s i U y (λb Z u e=>h4 b u Z e) (by rw[h3]; simp)
       (λj fz S hz=>⟨a,C,nw,_,fz,rfl,h3,I,hz,rfl⟩)
      exact h _ _ _ g
def qZ (fv:FrV W E0 N m A σ H v w)(hx:A[x]? = some (some (k+1,.lst xs))) :
  ∃l ws,σ[x]? = some (some (.ref l))/\H l=some (.lst ws)/\ws.length=xs.length/\Dens W H ws xs/\Den W H w v.2 /\
   ∀ws' ds',(∀S,Dens W S ws xs->Den W S w v.2->Dens W S ws' ds')->∃F',FrF W E0 N m (A.set x (some (1,.lst ds'))) σ (upd H l (.lst ws')) F':=by
 obtain⟨fp,F,f,nd,fr,o⟩:=fv;obtain⟨z,hσ,l,ws,fq,rfl,e2,e3,e4⟩:=f.rel x _ hx;have hl:l∈F x:=by rw[e4]; exact bP
 have hxl:x<A.length:=(di hx).1;have ndx:=f.nd x;rw[e4] at ndx;obtain⟨lq,ndq⟩:=G2.mp ndx;have lfp:l∉fp:=λz=>(f.fr x l hl).2 (.inr z);have qF:∀b∈fq,b∈F x:=λb hb=>by rw[e4]; exact bK _ hb
 refine⟨l,ws,hσ,e2,e3.length,e3.dens λv d g hg o=>o.den bN λb hb u e=>e,o.den bN λb hb u e=>e,λws' ds' hd=>?_⟩;have h12:∀b,b≠l->∀u,H b=some u->(L2.upd H l (.lst ws')) b=some u:=λb nb u e=>by rw[bE nb]; exact e
 refine⟨_,f.upd (fx:=[l]) (y:=(1,.lst ds')) fr hl hxl hσ (by simp) (λb hb=>by rw[GI.mp hb]; exact .inl hl) h12 (by rw[bT]; simp) ⟨l,_,[],rfl,bT,OwnL.zero ?_,rfl⟩⟩;have sub:Sub (hid (aP (λb=>N b\/b∈fp) F) H) (hid (aP N λi=>if i=x then [l] else F i) (L2.upd H l (.lst ws'))):=λb u e=>by
  obtain⟨g1,g2⟩:=aU.mp e;have bl:b≠l:=λy=>g1 (.inr ⟨x,y ▸ hl⟩);refine aU.mpr ⟨λy=>?_,h12 b bl u g2⟩;rcases y with y | ⟨i,y⟩
  .exact g1 (.inl (.inl y))
  .by_cases z:i=x
   .simp only[if_pos z] at y; exact bl (GI.mp y)
   .simp only[if_neg z] at y;exact g1 (.inr ⟨i,y⟩)
 have see:∀b,(b∈fq\/b∈fp)->∀u,H b=some u->hid (aP N λi=>if i=x then [l] else F i) (L2.upd H l (.lst ws')) b=some u:=λb hb u e=>by
  have bl:b≠l:=λz=>hb.elim (λy=>lq (z ▸ y)) λy=>lfp (z ▸ y);refine aU.mpr ⟨λy=>?_,h12 b bl u e⟩;rcases y with y | ⟨i,y⟩
  .rcases hb with q | q
   .exact (f.fr x b (qF b q)).2 (.inl y)
   .exact (fr b q).2 y
  .by_cases z:i=x
   .simp only[if_pos z] at y; exact bl (GI.mp y)
   .simp only[if_neg z] at y;rcases hb with q | q
    .exact z (f.dj i x b y (qF b q))
    .exact (f.fr i b y).2 (.inr q)
 exact hd _ (e3.dens λv d g hg o=>o.den sub λb hb u e=>see b (.inl (hg b hb)) u e) (o.den sub λb hb u e=>see b (.inr hb) u e)
theorem Den.scal (hs:d.scal=true)(h:Den W S v d):Den W a v d:=by
 cases h <;> first | exact .non | exact .bl | exact .int | exact .str | cases hs
theorem Dens.scal:∀{b:av} {a:ax},a.all D.scal=true->Dens W S b a->Dens W c b a:=by
 intro _ _ hs hZ;cases hZ with
 | nil=>exact .nil
 | cons h q=>
  rw[List.all_cons,tw] at hs;exact .cons (h.scal hs.1) (q.scal hs.2)
def vA {x:Nat}(c:cQ A[x]? = true):∃k a,A[x]? = some (some (k,.lst a)):=by
 cases q:A[x]? with
 | none=>rw[q] at c; cases c
 | some o=>
  rw[q] at c;cases o with
  | none=>cases c
  | some y=>
   obtain⟨k,d⟩:=y;cases d <;> first | exact⟨k,_,rfl⟩ | cases c
def E2 {x:Nat}{e:Ex}{u:Ends}(Y:W.K=X.K)(h:bM W G n io E (.mut x [] .extend [e]) u σ H):cG (gN X.K "list" (jF X.K) (cu x) (ci (be W G (Ip.run G n) e E) er)) u σ H:=by
 obtain⟨E0,N,m,A,F,hp,f,h⟩:=h;rw[Ip.k8] at h;by_cases c:cQ A[x]? = true
 rotate_left
 .rw[if_neg c] at h; exact h.elim
 rw[if_pos c] at h;obtain⟨k,L,hx⟩:=vA c;obtain⟨v,B,Z⟩:=f.rel x _ hx;have dv:Den W H v (.lst L):=Z.den bN λ_ _ _ e=>e;unfold cG gN;refine⟨v,B,?_,?_⟩
 .cases dv with | @lst l g _ T h2=>?_
  exact .inl ⟨rfl,g,.inl T⟩
 dsimp only[de,bG,Ip.R.toO,Ip.R.bind] at h;unfold ci;refine iI f ?_;cases q:Ip.eval G (Ip.run G n) A.sl e with
 | bad=>rw[q] at h; exact h
 | exc c fs=>rw[q] at h; exact λa H' r=>h a σ H' r
 | ok y=>
  rw[q] at h;dsimp only[eU] at h;have e1:(if ([y].all λv=>v.2.fb v.1)=true then A else frz (Ex.namess [e]) A)=Ip.settle e.names A y:=by
   unfold Ip.settle;simp
  rw[e1] at h;intro w H1 Q;cases s:(Ip.settle e.names A y)[x]? with
  | none=>rw[s] at h; exact h.elim
  | some o=>
   rw[s] at h;cases o with
   | none=>exact h.elim
   | some z=>
    obtain⟨C,d⟩:=z;cases C with
    | zero=>cases d <;> exact h.elim
    | succ C=>
     cases d <;> try (exact h.elim)
     rename_i I;dsimp only[fe,Ip.uW] at h;obtain⟨j,dy⟩:=y;cases dy <;> try (exact h.elim)
     rename_i p;simp only at h;by_cases i:p.all D.scal=true/\I.length+p.length<=SL
     .rw[if_pos i] at h;obtain⟨l,g,g1,g2,g3,g4,P,M⟩:=qZ Q s;rw[B] at g1;cases g1;cases P with | @tup b t _ t1 J=>?_
      obtain⟨F',U⟩:=M (g++t) (I++p) λS hS _=>hS.append (J.scal i.1);exact⟨l,b,g,t,rfl,rfl,g2,Y ▸ t1,by rw[g3,J.length]; exact iE i.2,h _ _ _ U⟩
     .rw[if_neg i] at h; exact h.elim
theorem Dens.setI (h:Den W S v d):∀{a:av} {b:ax} (j:Nat),Dens W S a b->Dens W S (a.set j v) (b.set j d)
 | _,_,_,.nil=>.nil
 | _,_,0,.cons _ q=>.cons h q
 | _,_,j+1,.cons c q=>.cons c (q.setI h j)
theorem Dens.erase:∀{a:av} {b:ax} (j:Nat),Dens W S a b->Dens W S (a.eraseIdx j) (b.eraseIdx j)
 | _,_,_,.nil=>.nil
 | _,_,0,.cons _ q=>q
 | _,_,j+1,.cons c q=>.cons c (q.erase j)
theorem Dens.at:∀{vs:av} {ds:ax} (j:Nat),Dens W S vs ds->ds[j]? = some d->∃v,vs[j]? = some v/\Den W S v d
 | _,_,_,.nil,e=>by simp at e
 | v::_,_,0,.cons h q,e=>by
  cases e;exact⟨v,rfl,h⟩
 | _,_,j+1,.cons c q,e=>by
  obtain⟨v,b,a⟩:=q.at j (by simpa using e);exact⟨v,by simpa using b,a⟩
def CN (h:bM W G n io E (.put x [] (.var j) e) L σ H):kz (cu x) (cu j) (be W G (Ip.run G n) e E) L σ H:=by
 obtain⟨E0,N,m,A,F,hp,f,h⟩:=h;rw[Ip.qA] at h;dsimp only[List.isEmpty_nil,if_true] at h;unfold kz;refine iI f ?_;cases q:Ip.eval G (Ip.run G n) A.sl e with
 | bad=>rw[q] at h; exact h
 | exc c fs=>rw[q] at h; exact λa P r=>h a σ P r
 | ok y=>
  rw[q] at h;dsimp only[Ip.R.toO,Ip.gc] at h;cases g:A.sl[j]? with
  | none=>rw[g] at h; exact h.elim
  | some M=>
   cases M with
   | none=>rw[g] at h; exact h.elim
   | some k=>
    rw[g] at h;simp only at h;intro w H1 I;cases p:(Ip.settle e.names A y)[x]? with
    | none=>rw[p] at h; exact h.elim
    | some o=>
     rw[p] at h;cases o with
     | none=>exact h.elim
     | some z=>
      obtain⟨s,d⟩:=z;cases s with
      | zero=>cases d <;> exact h.elim
      | succ s=>
       cases d <;> try (exact h.elim)
       rename_i u;dsimp only[Ip.iH] at h;cases k <;> try (exact h.elim)
       rename_i i;simp only at h;by_cases b:0<=i/\i<(u.length:Int)
       .rw[if_pos b] at h;obtain⟨l,t,g1,g2,g3,g4,g5,v⟩:=qZ I p;obtain⟨F',J⟩:=v (t.set i.toNat w) (u.set i.toNat y.2) λS T B=>T.setI B _;obtain⟨Z,C⟩:=jZ g;obtain⟨Y,U,Q⟩:=f.rel j _ C;have k:Den W H Y (.int i):=Q.den bN λ_ _ _ e=>e;cases k;exact⟨.ref l,g1,.int i,U,l,t,i,rfl,rfl,g2,b.1,by rw[g3]; exact b.2,h _ _ _ J⟩
       .rw[if_neg b] at h; exact h.elim
end
section
variable {X:Cx}{W:Wd}{G:Pg}{n:Nat}{io:aj}{E:St->XK}{E0:Hp}{N:Addr->Prop}{l:List (Nat×V)}{A:Fr}{σ:St}{H:Hp}{F:Nat->al}
def FrX.freeze (h:FrX W E0 N l A σ H c d e):FrX W E0 N l (excA A d) σ H c d e:=by
 obtain⟨F,f,a,C,b,i,j,g⟩:=h;unfold excA;split
 .exact⟨F,f,a,C,b,i,j,g⟩
 .rw[nq];exact⟨_,f.frz _,⟨a.1,λz=>a.2 (lD z)⟩,C,b,i,j,g.mono rp⟩
def BL (hK:W.K=X.K)(cf:CF W fl)(h:bM W G n io E (.rais c es) Dn σ H):fM X.K (be W G (Ip.run G n) (.make c es) E) E Dn σ H:=by
 obtain⟨E0,N,l,A,F,hp,f,h⟩:=h;rw[Ip.wf] at h;unfold fM;refine ms f h λx ex r v s z0=>?_;obtain⟨fp,J,f1,nd,B,o⟩:=z0;obtain⟨Z,d⟩:=x;cases Z with
 | zero=>cases d <;> exact r.elim
 | succ Z=>
  have hd:∃M fs,d=.exc M fs:=by
   cases d <;> first | exact⟨_,_,rfl⟩ | exact r.elim
  obtain⟨M,fs,rfl⟩:=hd;simp only[Ip.gi] at r;obtain⟨a,C,nw,t,fq,rfl,e2,⟨Y,L⟩,e3,P⟩:=o;subst L;obtain⟨ic,_⟩:=cf.exc M C Y;obtain⟨fI,tl,T⟩:=ic.xc;have m:a∈fp:=by rw[P]; exact bP
  have p:=nd;rw[P] at p;obtain⟨aq,a0⟩:=G2.mp p;have up:∀b,b≠a->(L2.upd s a (.exc C false t)) b=s b:=λb nb=>bE nb;have sub:Sub (hid (aP (λb=>N b\/b∈fp) J) s) (hid (aP N J) (L2.upd s a (.exc C false t))):=λb u e=>by
   obtain⟨g1,g2⟩:=aU.mp e;have I:b≠a:=λz=>g1 (.inl (.inr (z ▸ m)));refine aU.mpr ⟨λz=>g1 (z.imp .inl id),by rw[up b I]; exact g2⟩
  refine⟨a,C,tl,t,rfl,e2,hK ▸ T.toXO,r a σ _ (FrX.freeze ⟨J,?_,⟨(B a m).1,λz=>z.elim (B a m).2 λ⟨j,y⟩=>(f1.fr j a y).2 (.inr m)⟩,C,t,bT,Y,?_⟩)⟩
  .refine⟨λb u e=>?_,λb z=>?_,f1.len,f1.pn,f1.nd,f1.dj,λi b k=>⟨(f1.fr i b k).1,λz=>(f1.fr i b k).2 (.inl z)⟩,λi y hy=>?_,f1.em⟩
   .rw[up b λz=>by rw[z,(B a m).1] at e; cases e]; exact f1.sub b u e
   .by_cases q:b=a
    .rw[q,bT]; simp
    .rw[up b q]; exact f1.nok b (.inl z)
   .obtain⟨w,h1,h2⟩:=f1.rel i y hy;exact⟨w,h1,h2.mono sub λb k u e=>by rw[up b λz=>(f1.fr i b k).2 (.inr (z ▸ m))]; exact e⟩
  .refine e3.dens λv d g hg o=>o.den sub λb k u e=>?_;have U:=hg b k;have I:b≠a:=λz=>aq (z ▸ U);have Q:b∈fp:=by rw[P]; exact bK _ U
   refine aU.mpr ⟨λz=>?_,by rw[up b I]; exact e⟩;rcases z with z | ⟨j,z⟩
   .exact (B b Q).2 z
   .exact (f1.fr j b z).2 (.inr Q)
def pG (f:FrF W E0 N l A σ H F)(h:PostS W E0 N l E v ((evals G (Ip.run G n) A.sl e).toO A k))
  (ok:∀o,evals G (Ip.run G n) A.sl e=.ok o->PostS W E0 N l E v (k o)->∀p m,FrF W E0 N l A σ m F->Dens W m p (o.map (·.2))->Q p m):bI W G (Ip.run G n) e E σ H Q:=by
 have f1:=f.frz (Ex.namess e);have t:NOk (aP N (bB (Ex.namess e) F)) H:=λb z=>z.elim (f.nok b) λ⟨j,q⟩=>f1.dom q;refine⟨aP N (bB (Ex.namess e) F),mask (Ex.namess e) A.sl,t,λi d s=>?_,?_⟩
 .obtain⟨w,x⟩:=oX s;obtain⟨k,u⟩:=jZ x;exact f.see w u
 rw[<-zAL (a:=A.sl) e λi s=>oY s];cases q:evals G (Ip.run G n) A.sl e with
 | bad=>rw[q] at h; exact h
 | exc c y=>rw[q] at h; exact λa m r=>h a σ m (f.excIn r)
 | ok o=>
  rw[q] at h;intro p m r;have g:=f.grow r.1 (fp:=[]) λb z=>by simp at z
  have:(λb=>N b\/b∈([]:al))=N:=funext λb=>propext (by simp);rw[this] at g;exact ok o q h p m g ((r.dens t).mono bN)
def Do (s:W.K=X.K)(t:CF W P)(L:i.length<=100)(h:bM W G n io E (.xinit i) q σ H):cG (fH X.K (bI W G (Ip.run G n) i E)) q σ H:=by
 obtain⟨E0,N,l,A,F,J,f,h⟩:=h;rw[Ip.Gz] at h;unfold cG fH;refine pG f h λj ex b g I B z=>?_;have e:=jq ex;match j,g,z,b with
 | [],_,_,b=>exact b.elim
 | (k,d)::j,v::g,.cons r u,b=>
  cases r <;> try (exact b.elim)
  rename_i a C y c x Q w o M;obtain⟨p,_⟩:=t.exc c C o;obtain⟨fI,m,T⟩:=p.xc;refine⟨a,C,fI,m,y,x,g,rfl,?_,w,s ▸ T,b _ _ _ B⟩;rw[u.length,GH];rw[List.length_cons] at e;omega
def FrX.caught (h:FrX W E0 N l A σ H c d e)(r:∀p∈l,p.1≠x)(u:∀p∈l,p.1≠i)(m:i≠x)(J:x<A.length) :
  ∃F,FrF W E0 N l ((A.set x (some (0,.exc c d))).set i none) (((σ.set i (some (.ref e))).set x (some (.ref e))).set i none) H F:=by
 obtain⟨F,f,s,C,U,L,M,t⟩:=h;have hd:Den W (hid (aP N F) H) (.ref e) (.exc c d):=.exc (aU.mpr ⟨s.2,L⟩) M t;have g:=f.set0 hd r J;have sub:Sub (hid (aP N (bB [x] F)) H) (hid (aP N (bB [i] (bB [x] F))) H):=rp;have Q:((σ.set i (some (.ref e))).set x (some (.ref e))).set i none=(σ.set x (some (.ref e))).set i none:=by
  apply Ha;intro j;by_cases z:i=j
  .subst z;simp only[List.getElem?_set_self',GG (λy=>m y.symm)];simp
  .rw[GG z,GG z];by_cases y:x=j
   .subst y;simp[HZ]
   .rw[GG y,GG y,GG z]
 rw[Q];refine⟨bB [i] (bB [x] F),g.sub,g.nok,by simpa using g.len,λp o=>by rw[GG λz=>u p o z.symm]; exact g.pn p o,λj=>?_,λj k b T I=>g.dj j k b (fm T).2 (fm I).2,λj b v=>g.fr j b (fm v).2,λj y a=>?_,λj P=>?_⟩
 .unfold bB;split
  .exact .nil
  .exact g.nd j
 .by_cases z:j=i
  .subst z;by_cases w:j<(A.set x (some (0,.exc c d))).length
   .rw[GL w] at a; cases a
   .rw[GR (by rw[GX]; omega)] at a; cases a
  .rw[GG λy=>z y.symm] at a;obtain⟨w,B,q⟩:=g.rel j y a;refine⟨w,by rw[GG λy=>z y.symm]; exact B,?_⟩;have:bB [i] (bB [x] F) j=bB [x] F j:=by
    show (if j∈[i] then [] else bB [x] F j)=_;rw[if_neg (by simpa using z)]
   rw[this];exact q.mono sub λ_ _ _ e=>e
 .by_cases z:j=i
  .show (if j∈[i] then [] else bB [x] F j)=_;rw[if_pos (by simpa using z)]
  .show (if j∈[i] then [] else bB [x] F j)=_;rw[if_neg (by simpa using z)];exact g.em j λy w=>P y (by rw[GG λy=>z y.symm]; exact w)
def Bc (s:∀a C j,W.xA a=some C->aZ G (.exc a j) (.cls c)=true->∃o,XO X.K C o/\I∈C::o)(h:bM W G n io E (.tryE b c i x) z σ H) :
  kB X.K I i (λB=>eB W G n io B b) (g9 (cu i) (dW x)) z σ H:=by
 obtain⟨E0,N,l,A,F,t,f,h⟩:=h;rw[Ip.uz] at h;unfold kB;refine⟨E0,N,l,A,F,t,f,?_⟩;cases q:Ip.execs G (Ip.run G n) io A b with
 | nx p=>rw[q] at h; exact h
 | ret k d p=>rw[q] at h; exact h
 | bad=>rw[q] at h; exact h
 | exc a j p=>
  rw[q] at h;simp only[Ip.iM] at h;by_cases u:aZ G (.exc a j) (.cls c)=true
  rotate_left
  .rw[if_neg u] at h; exact h.elim
  rw[if_pos u] at h;unfold cq at h;by_cases m:io.contains x=false/\x<p.length
  rotate_left
  .rw[if_neg m] at h; exact h.elim
  rw[if_pos m] at h;simp only[Ip.O.seq] at h;by_cases g:io.contains i=false/\i≠x/\i<(p.set x (some (0,.exc a j))).length
  rotate_left
  .rw[if_neg g] at h; exact h.elim
  rw[if_pos g] at h;intro e σ1 M v;obtain⟨L,f1,P,C,J,g1,g2,g3⟩:=id v;obtain⟨o,w,r⟩:=s a C j g2 u;have y:i < σ1.length:=by rw[f1.len]; have:=g.2.2; rw[GX] at this; exact this
  refine⟨e,C,o,J,rfl,g1,w,r,.ref e,GL y,?_⟩;obtain⟨Q,f2⟩:=v.caught (nL t m.1) (nL t g.1) g.2.1 m.2;exact h _ _ _ f2
end
section
variable {X:Cx}{W:Wd}{G:Pg}{n:Nat}{io:aj}{E:St->XK}{E0:Hp}{N:Addr->Prop}{s:List (Nat×V)}{A:Fr}{σ:St}{H:Hp}{F:Nat->al}
theorem Dens.isI:∀{b:av} {a:ax},Dens W S b a->a.all D.isI=true->b.all isIntV=true/\a.all D.scal=true:=by
 intro _ _ hZ hs;cases hZ with
 | nil=>exact⟨rfl,rfl⟩
 | @cons _ d _ _ h q=>
  rw[List.all_cons,tw] at hs;obtain⟨e,c⟩:=q.isI hs.2;cases d with
  | int i=>
   rw[h.int_inv,List.all_cons,List.all_cons,e,c];exact⟨rfl,rfl⟩
  | _=>cases hs.1
def AT k (h:d.scal=true):D.fb k d=true:=by
 cases d <;> simp at h <;> cases k <;> rfl
def Bh (h:bM W G n io E (.mut x [] .insert [e,.var j]) Dn σ H):cG (gN X.K "list" fX (cu x) (ci (be W G (Ip.run G n) e E) (ci (cu j) er))) Dn σ H:=by
 obtain⟨E0,N,s,A,F,hp,f,h⟩:=h;rw[Ip.k8] at h;by_cases c:cQ A[x]? = true
 rotate_left
 .rw[if_neg c] at h; exact h.elim
 rw[if_pos c] at h;obtain⟨k,xs,hx⟩:=vA c;obtain⟨v,hv,ow⟩:=f.rel x _ hx;have dv:Den W H v (.lst xs):=ow.den bN λ_ _ _ e=>e;unfold cG gN;refine⟨v,hv,?_,?_⟩
 .cases dv with | @lst l ws _ h1 h2=>?_
  exact .inl ⟨rfl,ws,.inl h1⟩
 dsimp only[de,bG,Ip.R.toO,Ip.R.bind] at h;unfold ci;refine iI f ?_;cases q:Ip.eval G (Ip.run G n) A.sl e with
 | bad=>rw[q] at h; exact h
 | exc c fs=>rw[q] at h; exact λa H' r=>h a σ H' r
 | ok y=>
  rw[q] at h;cases qj:Ip.eval G (Ip.run G n) A.sl (.var j) with
  | bad=>rw[qj] at h; exact h.elim
  | exc c fs=>
   rw[Ip.gc] at qj;split at qj <;> cases qj
  | ok u=>
   rw[qj] at h;dsimp only[eU] at h;rw[Ip.gc] at qj;obtain⟨d,hd,eu⟩:∃d,A.sl[j]? = some (some d)/\u=(0,d):=by
    split at qj
    .rename_i d hd; cases qj; exact⟨d,hd,rfl⟩
    .cases qj
   subst eu;obtain⟨kj,hj⟩:=jZ hd;generalize hB:(if ([y,((0:Nat),d)].all λv=>v.2.fb v.1)=true then A else frz (Ex.namess [e,.var j]) A)=B at h;cases q2:B[x]? with
   | none=>rw[q2] at h; exact h.elim
   | some o=>
    rw[q2] at h;cases o with
    | none=>exact h.elim
    | some z=>
     obtain⟨k',d'⟩:=z;cases k' with
     | zero=>cases d' <;> exact h.elim
     | succ k'=>
      cases d' <;> try (exact h.elim)
      rename_i ys;dsimp only[fe,Ip.t6] at h;obtain⟨jy,dy⟩:=y;cases dy <;> try (exact h.elim)
      rename_i i;simp only at h;by_cases hl:0<=i/\i.toNat<=ys.length/\ys.length<SL
      .rw[if_pos hl] at h;have b1:D.fb jy (.int i)=true:=AT jy rfl;intro w H1 fv;have es:Ip.settle e.names A (jy,.int i)=A:=by
        unfold Ip.settle;simp[b1]
       rw[es] at fv;obtain⟨F1,f1,d1⟩:=fv.drop;have ew:=d1.int_inv;subst ew;obtain⟨vj,hσj,oj⟩:=f1.rel j _ hj;obtain⟨F2,f2,dj⟩:∃F2,FrF W E0 N s B σ H1 F2/\Den W (hid (aP N F2) H1) vj d:=by
        by_cases b2:D.fb 0 d=true
        .rw[if_pos (by simp only[List.all_cons,List.all_nil,b1,b2,Bool.and_self])] at hB;rw[<-hB];exact⟨F1,f1,(Own.flat_inv b2 oj).2⟩
        .rw[if_neg (by simp only[List.all_cons,List.all_nil,b1,b2,Bool.and_false,Bool.false_and]; exact Hb)] at hB;rw[<-hB];have g:=f1.frz (Ex.namess [e,.var j]);have hm:j∈Ex.namess [e,.var j]:=by simp
         obtain⟨v2,h2,o2⟩:=g.rel j (0,d) (by rw[kY,if_pos hm,hj]; rfl);rw[hσj] at h2;cases h2;exact⟨_,g,o2.2⟩
       have fw:FrV W E0 N s B σ H1 (0,d) vj:=by
        have e:(λb=>N b\/b∈([]:al))=N:=by
         funext b
         simp
        exact⟨[],F2,by rw[e]; exact f2,.nil,λb z=>by simp at z,⟨rfl,by rw[e]; exact dj⟩⟩
       obtain⟨l,ws,g1,g2,g3,g4,g5,g6⟩:=qZ fw q2;rw[hv] at g1;cases g1;obtain⟨F',g7⟩:=g6 (ws.take i.toNat++vj::ws.drop i.toNat) (ys.take i.toNat++d::ys.drop i.toNat) λS hS hw=>(hS.take _).append (.cons hw (hS.drop _));exact⟨vj,hσj,l,ws,i,vj,rfl,rfl,g2,hl.1,by rw[g3]; exact hl.2.1,by rw[g3]; exact eD hl.2.2 (iE (bA _)),h _ _ _ g7⟩
      .rw[if_neg hl] at h; exact h.elim
def FrF.chg {l:Hp}{d:al}{x:Nat}{v0:V}{y:KD}{M:Addr->Prop}(f:FrF W E0 N s A σ H F)(hx:x<A.length)(Z:σ[x]? = some (some v0))(nd:d.Nodup)(g1:Sub (hid (λb=>b∈F x) H) l)(hf:∀b∈d,hid (λb=>b∈F x) H b=none)
  (hM:∀b,N b->M b)(ow:Own W (hid (λb=>M b\/b∈d) l) l y.1 v0 y.2 d)(t:D.fb y.1 y.2=true):FrF W E0 N s (A.set x (some y)) σ l λj=>if j=x then d else F j:=by
 have keep:∀b u,H b=some u->b∉F x->l b=some u:=λb u e p=>g1 b u (aU.mpr ⟨p,e⟩);have m:∀b∈d,b∉F x->H b=none:=λb t p=>by
  cases q:H b with
  | none=>rfl
  | some u=>have:=hf b t; rw[aU.mpr ⟨p,q⟩] at this; cases this
 have g:∀j b,b∈(if j=x then d else F j)->(j=x/\b∈d)\/(j≠x/\b∈F j):=λj b h=>by
  by_cases z:j=x
  .rw[if_pos z] at h; exact .inl ⟨z,h⟩
  .rw[if_neg z] at h; exact .inr ⟨z,h⟩
 have c:∀j b,j≠x->b∈F j->b∉F x:=λj b z h k=>z (f.dj j x b h k);have old:∀j b,j≠x->b∈F j->b∈d->False:=λj b z h k=>f.dom h (m b k (c j b z h));have sub:Sub (hid (aP N F) H) (hid (aP N λj=>if j=x then d else F j) l):=λb u e=>by
  obtain⟨Y,Q⟩:=aU.mp e;have nx:b∉F x:=λz=>Y (.inr ⟨x,z⟩);refine aU.mpr ⟨λz=>?_,keep b u Q nx⟩;rcases z with z | ⟨j,z⟩
  .exact Y (.inl z)
  .rcases g j b z with ⟨_,q⟩ | ⟨_,q⟩
   .rw[m b q nx] at Q; cases Q
   .exact Y (.inr ⟨j,q⟩)
 refine⟨λb u e=>keep b u (f.sub b u e) λz=>?_,λb z=>?_,by rw[GX]; exact f.len,f.pn,λj=>?_,λi j b L P=>?_,λj b h=>?_,λj z v=>?_,λj hj=>?_⟩
 .rw[(f.fr x b z).1] at e; cases e
 .cases e:H b with
  | none=>exact absurd e (f.nok b z)
  | some u=>rw[keep b u e λq=>(f.fr x b q).2 z]; simp
 .by_cases z:j=x
  .simp only[if_pos z]; exact nd
  .simp only[if_neg z]; exact f.nd j
 .rcases g i b L with ⟨J,B⟩ | ⟨J,B⟩ <;> rcases g j b P with ⟨T,C⟩ | ⟨T,C⟩
  .rw[J,T]
  .exact (old j b T C B).elim
  .exact (old i b J B C).elim
  .exact f.dj i j b B C
 .rcases g j b h with ⟨z,q⟩ | ⟨z,q⟩
  .by_cases p:b∈F x
   .exact f.fr x b p
   .have h0:=m b q p;exact⟨f.sub.none h0,λw=>f.nok b w h0⟩
  .exact f.fr j b q
 .by_cases q:j=x
  .subst q;rw[GL hx] at v;cases v;refine⟨_,Z,?_⟩;simp only[if_true];refine ow.hide (λa vs h=>?_) t;rcases h with h | h
   .refine .inl ?_;have I:∀i,i≠j->a∉F i:=λi U z=>by
     have k:Rd l a (.tup vs):=Rd.sub bN h;cases q:H a with
     | none=>exact f.dom z q
     | some o=>
      have e:=keep a o q (c i a U z);refine f.noTup z vs ?_;rcases k with k | ⟨u,k⟩
      .rw[e] at k; cases k; exact .inl q
      .rw[e] at k; cases k; exact .inr ⟨u,q⟩
    have r:∀o,hid (λb=>M b\/b∈d) l a=some o->hid (aP N λi=>if i=j then d else F i) l a=some o:=λo e=>by
     obtain⟨g1,g2⟩:=aU.mp e;refine aU.mpr ⟨λz=>?_,g2⟩;rcases z with z | ⟨i,z⟩
     .exact g1 (.inl (hM a z))
     .rcases g i a z with ⟨_,q⟩ | ⟨U,q⟩
      .exact g1 (.inr q)
      .exact I i U q
    rcases h with h | ⟨u,h⟩
    .exact .inl (r _ h)
    .exact .inr ⟨u,r _ h⟩
   .exact .inr h
  .rw[GG λy=>q y.symm] at v;obtain⟨w,L,P⟩:=f.rel j z v;refine⟨w,L,?_⟩;simp only[if_neg q];exact P.mono sub λb t u e=>keep b u e (c j b q t)
 .by_cases z:j=x
  .subst z;exact absurd (GL hx) (hj y)
  .simp only[if_neg z];exact f.em j λy w=>hj y (by rw[GG λy=>z y.symm]; exact w)
def vt {f k:Nat}{F:Fn}(h:dJ G f k=some F):G.fn f=some F/\F.io=[0]/\k=F.np:=by
 unfold dJ at h;obtain⟨a,e,r⟩:=cn h;split at r
 .rename_i c; cases r; exact⟨e,c⟩
 .cases r
def v3 a A x:(Ip.settle a A x).sl=A.sl:=by
 unfold Ip.settle;split
 .rfl
 .apply Ha;intro i;unfold Ip.Fr.sl;rw[GK,GK,kY];split
  .cases A[i]? with
   | none=>rfl
   | some o=>cases o <;> rfl
  .rfl
theorem tS:∀(b:aF) (a:aw) (A:Fr),(setA b a A).sl=A.sl
 | e::b,v::a,A=>(tS b a _).trans (v3 ..)
 | [],_,_=>rfl
 | _::_,[],_=>rfl
def gw (W:Wd)(G:Pg)(a:Nat->aw->Ip.Run):aF->(St->XK)->TA
 | [],_=>er
 | e::b,E=>ci (be W G a e E) (gw W G a b E)
def FrF.keepE (f:FrF W E0 N s A σ H F):FrF W (hid (λb=>∃j,b∈F j) H) N s A σ H F:=
 ⟨bN,f.nok,f.len,f.pn,f.nd,f.dj,λi b a=>⟨by
  cases q:hid (λb=>∃j,b∈F j) H b with
  | none=>rfl
  | some u=>exact absurd ⟨i,a⟩ (aU.mp q).1,(f.fr i b a).2⟩,f.rel,f.em⟩
theorem wF:∀{es:aF} {vs:aw} {A:Fr} {H:Hp} {F:Nat->al} {E0:Hp} {Q:av->Hp->Prop},FrF W E0 N s A σ H F->evals G (Ip.run G n) A.sl es=.ok vs->(∀ws H' F',FrF W E0 N s (setA es vs A) σ H' F'->Dens W (hid (aP N F') H') ws (vs.map (·.2))->Q ws H')->gw W G (Ip.run G n) es E σ H Q
 | [],vs,A,H,F,E0,Q,f,q,h=>by
  rw[de] at q;cases q;exact h [] H F f .nil
 | e::es,vs,A,H,F,E0,Q,f,q,h=>by
  rw[bG] at q;cases q1:Ip.eval G (Ip.run G n) A.sl e with
  | bad=>rw[q1] at q; cases q
  | exc c fs=>rw[q1] at q; cases q
  | ok x=>
   rw[q1] at q;dsimp only[Ip.R.bind] at q;cases q2:evals G (Ip.run G n) A.sl es with
   | bad=>rw[q2] at q; cases q
   | exc c fs=>rw[q2] at q; cases q
   | ok xs=>
    rw[q2] at q;cases q;refine iI f ?_;rw[q1];intro v H1 fv;obtain⟨F1,f1,d1⟩:=fv.drop;have q3:evals G (Ip.run G n) (Ip.settle e.names A x).sl es=.ok xs:=by rw[v3]; exact q2
    refine wF f1.keepE q3 λws H2 F2 f2 dw=>h (v::ws) H2 F2 (f2.weaken λb u z=>aU.mpr ⟨λ⟨j,y⟩=>?_,f1.sub b u z⟩) (.cons (d1.mono λb u z=>?_) dw)
    .rw[(f1.fr j b y).1] at z; cases z
    .obtain⟨z1,z2⟩:=aU.mp z;have z3:hid (λb=>∃j,b∈F1 j) H1 b=some u:=aU.mpr ⟨λy=>z1 (.inr y),z2⟩;refine aU.mpr ⟨λy=>?_,f2.sub b u z3⟩;rcases y with y | ⟨j,y⟩
     .exact z1 (.inl y)
     .rw[(f2.fr j b y).1] at z3; cases z3
def CK (P:dJ G f (m.length+1)=some r)(h:bM W G n io E (.byref f x m) Z σ H):cG (eL (fD W G n f r) [] E (ci (cu x) (gw W G (Ip.run G n) m E))) Z σ H:=by
 obtain⟨E0,N,s,A,F,hp,M,h⟩:=h;obtain⟨_,J,_⟩:=vt P;rw[Ip.qW,P] at h;dsimp only at h;unfold cG eL ci;cases q:evals G (Ip.run G n) A.sl m with
 | bad=>rw[q] at h; exact h.elim
 | exc c fs=>rw[q] at h; exact h.elim
 | ok t=>
  rw[q] at h;dsimp only[Ip.R.okO] at h;cases l:(setA m t A)[x]? with
  | none=>rw[l] at h; exact h.elim
  | some o=>
   cases o with
   | none=>rw[l] at h; exact h.elim
   | some y=>
    rw[l] at h;dsimp only[Ip.iW] at h;have hs:A.sl[x]? = some (some y.2):=by rw[<-tS m t A]; unfold Ip.Fr.sl; rw[GK,l]; rfl
    obtain⟨k0,C⟩:=jZ hs;obtain⟨v0,i,_⟩:=M.rel x _ C;refine⟨v0,i,wF M q λT L g f1 dv=>?_⟩;show fD W G n f r ((v0::T)++[]) L _ _;rw[Hz];obtain⟨v1,a,Y⟩:=f1.rel x y l;rw[i] at a;cases a;have sub:Sub (hid (aP N g) L) (hid (λb=>(aP N g b/\b∉g x)\/b∈g x) L):=λb u e=>by
     obtain⟨Q,e2⟩:=aU.mp e;exact aU.mpr ⟨λz=>z.elim (λw=>Q w.1) λw=>Q (.inr ⟨x,w⟩),e2⟩
    refine .inr ⟨J,λb=>aP N g b/\b∉g x,y,t,v0,T,g x,rfl,λb z=>z.1.elim (f1.nok b) λ⟨j,q⟩=>f1.dom q,f1.nd x,λb p z=>z.2 p,Y.mono sub λb _ u e=>e,dv.mono sub,?_⟩;cases I:Ip.run G n f (y::t) with
    | bad=>rw[I] at h; exact h
    | exc c fs outs=>rw[I] at h; exact h.elim
    | ret k d outs=>
     rw[I] at h;cases d <;> try (exact h.elim)
     rcases outs with _ | ⟨z,_ | _⟩
     .exact h.elim
     rotate_right
     .exact h.elim
     .
      intro v U fp g1 nd hf B hv;dsimp only[Ip.kL] at h;by_cases p:D.fb z.1 z.2=true
      .rw[if_pos p] at h;exact h σ U _ (f1.chg (di l).1 i nd g1 hf (λb w=>⟨.inl w,λq=>(f1.fr x b q).2 w⟩) B p)
      .rw[if_neg p] at h; exact h.elim
theorem OwnL.pick:∀{x:av} {y:ax} {m:al} {i:Nat} {d:D},OwnL (Own W S H k) x y m->m.Nodup->y[i]? = some d ->
  ∃w f1,x[i]? = some w/\Own W S H k w d f1/\f1.Nodup/\(∀b∈f1,b∈m)/\∀j l p,Sub S j->(∀b∈m,b∉f1->∀u,H b=some u->l b=some u)->Own W j l k w p f1->OwnL (Own W j l k) x (y.set i p) m:=by
 intro _ _ _ i d hZ t h;cases hZ with
 | nil=>simp at h
 | @cons w _ M _ _ Q B q=>
  cases i with
  | zero=>
   simp at h;subst h;obtain⟨L,I,C⟩:=GU.mp t;refine⟨w,M,rfl,B,L,λb c=>ev _ c,λj l p hs c r=>?_⟩;rw[List.set_cons_zero];exact .cons r (q.imp λv d f J o=>o.mono hs λb a u e=>c b (cx _ (J b a)) (λz=>C b z b (J b a) rfl) u e)
  | succ i=>
   obtain⟨L,I,C⟩:=GU.mp t;obtain⟨w,f1,T,Y,Z,P,U⟩:=q.pick (i:=i) I (by simpa using h);refine⟨w,f1,by simpa using T,Y,Z,λb c=>cx _ (P b c),λj l p hs c r=>?_⟩;rw[List.set_cons_succ];exact .cons (B.mono hs λb a u e=>c b (ev _ a) (λz=>C b a b (P b z) rfl) u e) (U j l p hs (λb a=>c b (cx _ a)) r)
def kh (H:Hp):aj->V->Addr->Prop
 | [],v,a=>v=.ref a
 | n::c,v,a=>∃l b w,v=.ref l/\H l=some (.lst b)/\b[n]? = some w/\kh H c w a
def vO (h:a.all D.isI=true):D.flats a=true:=by
 rw[Ip.oS,List.all_eq_true];intro d hd;have:=dU h d hd;cases d <;> first | rfl | cases this
theorem Own.nest {S:Hp}{rm:Bool}{c:Int}:∀{ns:aj} {k:Nat} {v:V} {d y:D} {fp:al},Own W S H k v d fp->ns.length<k->fp.Nodup->Ip.df rm c ns d=some y ->
  ∃a B j t,kh H ns v a/\a∈fp/\H a=some (.lst B)/\Dens W S B j/\d9 rm c j=some t/\∀m r g,Sub S m->(∀b∈fp,b≠a->∀u,H b=some u->r b=some u)->r a=some (.lst g)->t.all D.isI=true->Dens W m g t->Own W m r k v y fp
 | [],0,_,_,_,_,_,C,_,_=>by simp at C
 | _::_,0,_,_,_,_,_,C,_,_=>by simp at C
 | [],k+1,v,d,y,fp,o,_,M,h=>by
  cases d <;> try (cases h; done)
  rename_i j;obtain⟨t,e,rfl⟩:=cM (show (d9 rm c j).map _=some y from h);obtain⟨a,B,Z,rfl,J,Q,p⟩:=o;have hy:j.all D.isI=true:=by
   unfold d9 at e;by_cases c:j.all D.isI=true
   .exact c
   .rw[if_neg c] at e; cases e
  obtain⟨z1,z2⟩:=OwnL.flat_inv (λv d f hd o=>Own.flat_inv hd o) (vO hy) Q;subst z1;refine⟨a,B,j,t,rfl,by rw[p]; exact bP,J,z2,e,λm r g hs I T P L=>⟨a,g,[],rfl,T,OwnL.flat (λv d hd q=>Own.flat hd q) (vO P) L,p⟩⟩
 | i::ns,k+1,v,d,y,fp,o,C,M,h=>by
  cases d <;> try (cases h; done)
  rename_i ds;obtain⟨d1,e1,r1⟩:=cn (show (ds[i]?).bind _=some y from h);obtain⟨d2,r2,rfl⟩:=cM r1;obtain⟨l,Y,Z,rfl,J,Q,p⟩:=o;rw[p] at M;obtain⟨lq,U⟩:=G2.mp M;obtain⟨w,f1,k1,k2,k3,k4,k5⟩:=Q.pick U e1;obtain⟨a,B,j,t,m1,m2,m3,m4,m5,m6⟩:=Own.nest k2 (by simpa using C) k3 r2;have am:=k4 a m2;refine⟨a,B,j,t,⟨l,Y,w,rfl,J,k1,m1⟩,by rw[p]; exact bK _ am,m3,m4,m5,λm r g hs I T P L=>?_⟩;rw[p] at I;refine⟨l,Y,Z,rfl,I l bP (λz=>lq (z ▸ am)) _ J,k5 m r d2 hs (λb x nb=>I b (bK _ x) λz=>nb (z ▸ m2)) (m6 m r g hs (λb x=>I b (bK _ (k4 b x))) T P L),p⟩
def iF (rm:Bool)(c:Int)(b a:av):Prop:=if rm=true then b.all isIntV=true/\∃j,(b.findIdx? λz=>eqV z (.int c))=some j/\a=b.eraseIdx j else b.length<sizeLine/\a=b++[.int c]
theorem qN:∀{b:av} {a:ax},Dens W S b a->a.all D.isI=true->Dens W e b a
 | _,_,.nil,_=>.nil
 | _,_,.cons (d:=d) c t,h=>by
  rw[List.all_cons,tw] at h;cases d <;> first | (cases h.1; done) | skip
  rw[c.int_inv];exact .cons .int (qN t h.2)
def yA {rm:Bool}{c:Int}{ys zs:ax}{ws:av}{S:Hp}(dw:Dens W S ws ys)(h:d9 rm c ys=some zs):∃ws',iF rm c ws ws'/\zs.all D.isI=true/\∀S',Dens W S' ws' zs:=by
 unfold d9 at h;by_cases a:ys.all D.isI=true
 rotate_left
 .rw[if_neg a] at h; cases h
 rw[if_pos a] at h;obtain⟨p,o⟩:=dw.isI a;cases rm with
 | true=>
  rw[if_pos rfl] at h;obtain⟨j,e,rfl⟩:=cM h;refine⟨ws.eraseIdx j,?_,List.all_eq_true.mpr λd hd=>dU a d (List.mem_of_mem_eraseIdx hd),λS'=>(qN dw a).erase j⟩;unfold iF;rw[if_pos rfl];exact⟨p,j,(Dens.find (d:=.int c) .int rfl dw o).trans e,rfl⟩
 | false=>
  rw[if_neg (by simp)] at h;by_cases k:ys.length<SL
  .rw[if_pos k] at h;cases h;refine⟨ws++[.int c],?_,by rw[List.all_append,a]; rfl,λS'=>(qN dw a).append (.cons .int .nil)⟩;unfold iF;rw[if_neg (by simp),dw.length];exact⟨eD k (iE (bA _)),rfl⟩
  .rw[if_neg k] at h; cases h
def Ea (h:natO o=some n):∃k m,o=some (some (k,.int m))/\0<=m/\m.toNat=n:=by
 rcases o with _ | _ | ⟨k,d⟩ <;> try (cases h; done)
 cases d <;> try (cases h; done)
 rename_i m;change (if 0<=m then some m.toNat else none)=_ at h;by_cases e:0<=m
 .rw[if_pos e] at h; exact⟨k,m,rfl,e,cm h⟩
 .rw[if_neg e] at h; cases h
def yz (h:intF o=some m):∃k,o=some (some (k,.int m)):=by
 unfold intF at h;split at h
 .cases h; exact⟨_,rfl⟩
 .cases h
theorem FrF.int (f:FrF W E0 N s A σ H F){i k:Nat}{m:Int}(h:A[i]? = some (some (k,.int m))):σ[i]? = some (some (.int m)):=by
 obtain⟨v,e,o⟩:=f.rel i _ h;rw[e,(o.den bN λ_ _ _ e=>e:Den W H v (.int m)).int_inv]
def gU (K:bh):TE->aj->TE
 | t,[]=>t
 | t,i::is=>gU K (jg (kQ K) t (cu i)) is
theorem vQ {K:bh}(f:FrF W E0 N s A σ H F){a:Addr}{Q:VK}(g:Q (.ref a) H):∀{is b:aj} {v:V} {t:TE},natsO A is=some b->kh H b v a->(∀R:VK,R v H->t σ H R)->gU K t is σ H Q
 | [],_,v,t,h,p,d=>by
  cases h;cases (show v=.ref a from p);exact d _ g
 | i::is,_,v,t,h,p,d=>by
  obtain⟨n,u,q⟩:=cn (show (natO A[i]?).bind _=some _ from h);obtain⟨b,x,rfl⟩:=cM q;obtain⟨k,m,o,j,rfl⟩:=Ea u;obtain⟨l,e,w,rfl,g1,g2,g3⟩:=p;show gU K (jg (kQ K) t (cu i)) is σ H Q;refine vQ f g x g3 λR r=>d _ ⟨.int m,f.int o,l,e,m,w,rfl,rfl,.inl (.inl g1),?_,r⟩;have y:m.toNat<e.length:=(di g2).1;have c:m<e.length:=by omega
  unfold ki ka;rw[if_pos j,if_pos c];exact g2
def uZ {x j:Nat}{is:aj}{rm:Bool}{J:Ends}(h:bM W G n io E (.nest x is rm j) J σ H):∃a w c g,(∀Q:VK,Q (.ref a) H->gU X.K (cu x) is σ H Q)/\H a=some (.lst w)/\σ[j]? = some (some (.int c))/\iF rm c w g/\J.nx σ (upd H a (.lst g)):=by
 obtain⟨E0,N,s,A,F,hp,f,h⟩:=h;rw[Ip.uo] at h;have f:=f.grow (Sub.refl H) (fp:=[]) λb z=>by simp at z
 have fr:∀b∈([]:al),E0 b=none/\¬N b:=λb z=>by simp at z
 cases q:A[x]? with
 | none=>rw[q] at h; exact h.elim
 | some o=>
  cases o with
  | none=>rw[q] at h; exact h.elim
  | some z=>
   obtain⟨k,d⟩:=z;rw[q] at h;dsimp only[Ip.fY] at h;by_cases B:is.length<k
   rotate_left
   .rw[if_neg B] at h; exact h.elim
   rw[if_pos B] at h;cases r:natsO A is with
   | none=>rw[r] at h; exact h.elim
   | some m=>
    cases p:intF A[j]? with
    | none=>rw[r,p] at h; exact h.elim
    | some c=>
     rw[r,p] at h;dsimp only[Option.bind] at h;cases C:Ip.df rm c m d with
     | none=>rw[C] at h; exact h.elim
     | some d'=>
      rw[C] at h;obtain⟨kj,P⟩:=yz p;obtain⟨v,t,ow⟩:=f.rel x _ q;have hl:∀{is m:aj},natsO A is=some m->m.length=is.length:=by
       intro is;induction is with
       | nil=>intro m h; cases h; rfl
       | cons i is U=>
        intro m h;obtain⟨n,_,r1⟩:=cn (show (natO A[i]?).bind _=some _ from h);obtain⟨Y,p,rfl⟩:=cM r1;rw[List.length_cons,List.length_cons,U p]
      obtain⟨a,w,ys,zs,m1,L,m3,m4,m5,T⟩:=ow.nest (by rw[hl r]; exact B) (f.nd x) C;obtain⟨g,M,Z,c3⟩:=yA m4 m5;refine⟨a,w,c,g,λQ hq=>vQ f hq r m1 λR hr=>⟨v,t,hr⟩,m3,f.int P,M,?_⟩;have l:∀b,b≠a->∀u,H b=some u->(L2.upd H a (.lst g)) b=some u:=λb I u e=>by rw[bE I]; exact e
      have sub:Sub (hid (aP (λb=>N b\/b∈([]:al)) F) H) (hid (aP N λj=>if j=x then F x else F j) (L2.upd H a (.lst g))):=λb u e=>by
       obtain⟨g1,g2⟩:=aU.mp e;refine aU.mpr ⟨λy=>?_,l b (λy=>g1 (.inr ⟨x,y ▸ L⟩)) u g2⟩;rcases y with y | ⟨j,y⟩
       .exact g1 (.inl (.inl y))
       .by_cases z:j=x
        .simp only[if_pos z] at y; exact g1 (.inr ⟨x,y⟩)
        .simp only[if_neg z] at y; exact g1 (.inr ⟨j,y⟩)
      exact h _ _ _ (f.upd (fx:=F x) (y:=(k,d')) fr L (di q).1 t (f.nd x) (λb hb=>.inl hb) l (by rw[bT]; simp) (T _ _ g sub (λb _ I u e=>l b I u e) bT Z (c3 _)))
end
structure GT (W:Wd)(G:Pg)(T:Tb)(mg:Str->aA):Prop where
 db:(T.wb == ("__debug__" : Str))=false
 wb:∃Wa tlW,mg T.wb=some (.ref Wa)/\XInit W.K Wa/\XO W.K Wa tlW/\∀c c' C fs,T.cls.lookup T.wb=some c->W.xA c'=some C->aZ G (.exc c' fs) (.cls c)=true->∃tl,XO W.K C tl/\Wa∈C::tl
 bare:∀x c,T.bare.lookup x=some c->(x == ("__debug__" : Str))=false/\∃C tl,mg x=some (.ref C)/\W.xA c=some C/\XC W.K C (.builtin "ValueError.__init__") tl/\PySem.W.keepIn W.K (.ref C)=true
structure Gs (W:Wd)(G:Pg)(T:Tb)(n:Nat)(E:St->XK)(sc:Scope)(N:ar)(X:Cx):Prop where
 gd:Gd W G T n E sc N X
 gt:GT W G T X.mg
 rais:mM X E
 own:PassesOwn (model X.prog X.w) X.A X.env X.xe
 stk:∃L outer,X.stack=X.env::outer/\X.env.frame=some L
 scq:X.env.scope=sc
section
variable {W:Wd}{G:Pg}{T:Tb}{n:Nat}{io:aj}{m:Nat}{E:St->XK}{r:Scope}{N:ar}{X:Cx}
def kF {st:Stmt}{i:Nat}:PS X st (bM W G n io E (.set i .bad)):=λa s σ H b I z=>by
 obtain⟨_,_,_,_,_,_,_,h⟩:=z;rw[Ip.lC,gC] at h; exact h.elim
def E7 {st:Stmt}:PS X st (bM W G n io E (.ex .bad)):=λa s σ H b I z=>by
 obtain⟨_,_,_,_,_,_,_,h⟩:=z;rw[Ip.oG,gC] at h; exact h.elim
def ut e:(∃a b c d,e=.ListComp a b c d)\/(∀T r N m,cE T r N m e=.bad)\/∀t l f,swapsWith e t l f=pure false:=by
 cases e <;> first
  | exact .inl ⟨_,_,_,_,rfl⟩
  | exact .inr (.inr λ_ _ _=>rfl)
  | (refine .inr (.inl λT r N m=>?_); cases m <;> rfl)
def Df (g:Gs W G T n E r N X) x p e pos i (P:bx r x=true)(M:pos? x N=some i):PS X (.Assign [.Name x p] e pos) (bM W G n io E (.set i (cE T r N m e))):=by
 obtain⟨v,o⟩:=g.gd.loc x P;have w:X.N.Nodup:=by rw[g.gd.nm]; exact g.gd.nd
 have u:X.N[i]? = some x:=by rw[g.gd.nm]; exact pos?_get M
 rcases ut e with ⟨F,C,d,j,rfl⟩ | z | hs
 .have f:∃b,swapsWith (.ListComp F C d j) (some (.Name x p)) pos.line X.env=pure b:=⟨_,rfl⟩
  obtain⟨b,f⟩:=f;cases b with
  | false=>exact (rC w u v ((e8 m).e g.gd _) f o).mono λA σ H h=>qJ h
  | true=>
   cases m with
   | zero=>exact kF
   | succ m=>
    have Q:=e8 (W:=W) (G:=G) (T:=T) (n:=n) m;match C with
    | []=>exact kF
    | ⟨_,_,_,_⟩::_::_=>exact kF
    | [⟨J,iter,l,as⟩]=>
     simp only[Ip.tY];by_cases h:(Ip.dm r N (Ip.aX d) (Ip.bm N d) d&&as == 0&&decide (l.length<=1))=true
     rotate_left
     .rw[if_neg h]; exact kF
     rw[if_pos h];simp only[tw,GN,GS] at h;obtain⟨⟨z,has⟩,y⟩:=h;subst has;cases L:cY d (Ip.aX d) J with
     | none=>exact kF
     | some t=>
      by_cases k:(en (cI T r N m iter).1 t&&(Ip.dg t).all (λi=>(Ip.bm N d)[i]? == some none))=true
      rotate_left
      .simp only[k]; exact kF
      simp only[k,if_true];rw[tw] at k;rcases rR iter with ⟨a,b,c,rfl⟩ | hs
      .rintro B s σ H A I ⟨_,_,_,_,_,_,_,q⟩;rw[Ip.lC,Ip.lp,sk,bG,gC] at q;exact q.elim
      .have j:=vy (e:=F) Q g.gd z y L k.1 k.2;exact (Cy g.gd.calm j.hS w u v j.hi j.hg j.ht j.he f o (hs X.env)).mono λA σ H h=>we g.gd.K j.hx (qJ h)
 .rw[z]; exact kF
 .exact (rC w u v ((e8 m).e g.gd e) (hs _ _ _) o).mono λA σ H h=>qJ h
def xf (g:Gs W G T n E r N X) e pos (i:∀a b c d,e≠.ListComp a b c d):PS X (.Expr e pos) (bM W G n io E (.ex (cE T r N m e))):=by
 rcases ut e with ⟨a,b,c,d,rfl⟩ | f | hs
 .exact absurd rfl (i a b c d)
 .rw[f]; exact E7
 .exact (jn ((e8 m).e g.gd e) (hs _ _ _)).mono λj σ H h=>sx h
def uY e l a:swapsWith e (some (.Attribute o f p)) l a=pure false:=by
 cases e <;> rfl
def DM (g:Gs W G T n E r N X) c k b e pos is (d:Ip.fO e=true)(a:cY r N (.Tuple c k b)=some (.many is)):PS X (.Assign [.Tuple c k b] e pos) (bM W G n io E (.setT is (cE T r N m e))):=by
 cases e with
 | Call f args i l=>exact (vw ((e8 m).e g.gd _) (oR g.gd a)).mono λj σ H h=>tJ g.gd.K h
 | Name x p=>exact (vw ((e8 m).e g.gd _) (oR g.gd a)).mono λj σ H h=>tJ g.gd.K h
 | _=>cases d
def EC (g:Gs W G T n E r N X) x d f ap e pos k j (p:bb r x=true)(a:aQ x=true)(t:pos? x N=some k)(y:pos? f T.att=some j)(u:T.fl.contains j=true) :
  PS X (.Assign [.Attribute (.Name x d) f ap] e pos) (bM W G n io E (.sfld k j (cE T r N m e))):=by
 unfold aQ at a;simp only[tw,Iz] at a;have o:X.N[k]? = some x:=by rw[g.gd.nm]; exact pos?_get t
 have po:=oE (pos:=d) o (g.gd.vis x p) a.1 a.2;have i:=(e8 m).e g.gd e;have v:=F7 (f:=f) (pos:=pos) (pos':=ap) po i (uY e _ _);have w:=A7 (m:=f) (pos:=pos) (pos':=ap) po i (uY e _ _);intro b s σ H l I h;have c:W.att[j]? = some f:=by rw[g.gd.gf.att]; exact pos?_get y
 rcases CO g.gd.K g.gd.gf.cf (by simpa using u) c h with q | q
 .exact v b s σ H l I q
 .exact w b s σ H l I q
end
section
variable {W:Wd}{G:Pg}{T:Tb}{n:Nat}{io:aj}{m:Nat}{E:St->XK}{sc:Scope}{N:ar}{X:Cx}
def okN (h:aQ x=true):(x == ("__debug__" : Str))=false/\(x == ("__classdict__" : Str))=false:=by
 unfold aQ at h;simp only[tw,Iz] at h;exact h
def fN (g:Gs W G T n E sc N X)(c:bb sc x=true)(a:aQ x=true)(b:pos? x N=some i):PE X (.Name x p) (cu i):=
 oE (by rw[g.gd.nm]; exact pos?_get b) (g.gd.vis x c) (okN a).1 (okN a).2
def DN (g:Gs W G T n E sc N X) e pos (h:¬pj (cE T sc N m e)=true):PS X (.Return (some e) pos) (bM W G n io E (.ret (cE T sc N m e))):=
 (sY ((e8 m).e g.gd e)).mono λa σ H=>vc λi z=>h (by rw[z]; rfl)
def Cb (g:Gs W G T n E sc N X) x p pos i (c:bb sc x=true)(a:aQ x=true)(b:pos? x N=some i):PS X (.Return (some (.Name x p)) pos) (bM W G n io E (.ret (.var i))):=
 (sY (fN g c a b)).mono λd σ H h=>z9 h
def zy pos:PS X (.Return none pos) (bM W G n io E (.ret (.cst .non))):=
 zC.mono λe σ H h=>by
  obtain⟨b,a,d,c,h⟩:=vc (λi=>by simp) h;rw[Ip.kT] at h;exact h _ _ (Res.of_flat (Sub.refl _) rfl .non)
def sH (c:noStar (e::a)=true)(f:a.length<29):((backTo d (starEach (e::a) b)).all (λx=>!x.1)&&(backToKw d (keywordEach [] b)).all (λx=>x.1.isSome)
   && decide ((e::a).length+([]:List Keyword).length+(if ([]:List Keyword).isEmpty then 0 else 1)<30))=true:=by
 rw[pb c];show (true&&true&&decide (a.length+1+0+0<30))=true;rw[GZ (by omega)]; rfl
def xT (g:Gs W G T n E sc N X) x j mp d pos e i (l:bb sc x=true)(a:aQ x=true)(k:pos? x N=some i)(b:noStar [e]=true)(f:(mp.endLine == d.line)=true) :
  PS X (.Expr (.Call (.Attribute (.Name x j) "append" mp) [e] [] d) pos) (bM W G n io E (.mut i [] .append [cE T sc N m e])):=by
 have c:=(eG b).1;exact (jn (kO Hw PySem.F.slot_list_append PySem.F.type_list_append pR (fN g l a k) (gq ((e8 m).e g.gd e) ip (dC c)) rfl (sH b (by decide)) f (dC c) rfl) rfl).mono λo σ H h=>B4 g.gd.K h
def CT (g:Gs W G T n E sc N X) x j mp d pos e i (l:bb sc x=true)(a:aQ x=true)(k:pos? x N=some i)(b:noStar [e]=true)(f:(mp.endLine == d.line)=true) :
  PS X (.Expr (.Call (.Attribute (.Name x j) "extend" mp) [e] [] d) pos) (bM W G n io E (.mut i [] .extend [cE T sc N m e])):=by
 have c:=(eG b).1;exact (jn (kO Hw PySem.F.slot_list_extend PySem.F.type_list_extend AL (fN g l a k) (gq ((e8 m).e g.gd e) ip (dC c)) rfl (sH b (by decide)) f (dC c) rfl) rfl).mono λo σ H h=>E2 g.gd.K h
def yj (g:Gs W G T n E sc N X) x j d jp f pos e i k (o:bb sc x=true)(b:aQ x=true)(l:pos? x N=some i)(c:bb sc j=true)(a:aQ j=true)(p:pos? j N=some k) :
  PS X (.Assign [.Subscript (.Name x d) (.Name j jp) f] e pos) (bM W G n io E (.put i [] (.var k) (cE T sc N m e))):=
 (EF (fN g o b l) (fN g c a p) ((e8 m).e g.gd e) (by cases e <;> rfl)).mono λq σ H h=>CN h
def ll (h:cO sc x=true):bb sc x=true/\aQ x=true:=H0.mp h
def As (g:Gs W G T n E sc N X)(p:Pth b x is)(z:cO sc x=true)(f:∀i∈is,cO sc i=true)(s:pos? x N=some k)(d:gz N is=some l):PE X b (gU X.K (cu k) l):=by
 obtain⟨v1,t⟩:=ll z;cases p with
 | @one _ i=>
  obtain⟨a,e,o⟩:=cn (show (pos? i N).bind _=some l from d);cases o;obtain⟨r,h⟩:=ll (f i (by simp));exact oI pk (fN g v1 t s) (fN g r h e) (nS λ_ _ _ _ q=>nomatch q)
 | @two _ i j=>
  obtain⟨a,e,o⟩:=cn (show (pos? i N).bind _=some l from d);obtain⟨as,v,rfl⟩:=cM o;obtain⟨c,y,A⟩:=cn (show (pos? j N).bind _=some as from v);cases A;obtain⟨r,h⟩:=ll (f i (by simp));obtain⟨u,w⟩:=ll (f j (by simp));exact oI pk (oI pk (fN g v1 t s) (fN g r h e) (nS λ_ _ _ _ q=>nomatch q)) (fN g u w y) (nS λ_ _ _ _ q=>nomatch q)
def Ad (g:Gs W G T n E sc N X){b:Expr}{x y f:Str}{is:ar}{k c:Nat}{B:aj}{rm:Bool}{A J p6 pos:Pos}(p:Pth b x is)(Y:cO sc x=true)(hi:∀i∈is,cO sc i=true)(P:cO sc y=true)(U:pos? x N=some k)(u:gz N is=some B)(C:pos? y N=some c)(I:(A.endLine == J.line)=true)(Q:(f = "append" /\ rm=false)\/(f = "remove" /\ rm=true)) :
  PS X (.Expr (.Call (.Attribute b f A) [.Name y p6] [] J) pos) (bM W G n io E (.nest k B rm c)):=by
 have r:=As g p Y hi U u;obtain⟨L,M⟩:=ll P;have hs:Ip.fK b=true:=by cases p <;> rfl
 rcases Q with ⟨rfl,rfl⟩ | ⟨rfl,rfl⟩
 .refine (jn (kO Hw PySem.F.slot_list_append PySem.F.type_list_append pR r (gq (fN g L M C) ip rfl) (lr hs) rfl I rfl rfl) rfl).mono λZ σ H h=>?_;obtain⟨a,d,e,l,t,o,s,w,q⟩:=uZ (X:=X) h;obtain⟨v,rfl⟩:=(show d.length<sizeLine/\l=d++[.int e] from w)
  exact t _ ⟨.inl ⟨rfl,d,.inl (.inl o)⟩,.int e,s,a,d,.int e,rfl,rfl,o,v,q⟩
 .refine (jn (kO Hw PySem.F.slot_list_remove PySem.F.type_list_remove DY r (gq (fN g L M C) ip rfl) (lr hs) rfl I rfl rfl) rfl).mono λZ σ H h=>?_;obtain⟨a,d,e,l,t,o,s,w,q⟩:=uZ (X:=X) h;obtain⟨v,j,h7,rfl⟩:=(show d.all isIntV=true/\∃j,(d.findIdx? λz=>eqV z (.int e))=some j/\l=d.eraseIdx j from w)
  exact t _ ⟨.inl ⟨rfl,d,.inl (.inl o)⟩,.int e,s,a,d,e,j,rfl,rfl,o,v,h7,q⟩
theorem ua (g:Gs W G T n E sc N X):∀{as:au},noStar as=true->PA X as (gw W G (Ip.run G n) (as.map (cE T sc N m)) E)
 | [],_=>ip
 | e::as,h=>by
  obtain⟨a,b⟩:=eG h;exact gq ((e8 m).e g.gd e) (ua g b) (dC a)
def Cw (g:Gs W G T n E sc N X)(u:T.fns.lookup f=some k)(y:bi sc f=true)(U:cO sc x=true)(l:noStar as=true)(A:pos? x N=some i):PS X (.Expr (.Call (.Name f p) (.Name x p1::as) [] p2) pos) (bM W G n io E (.byref k i (as.map (cE T sc N m)))):=by
 obtain⟨c,F,a,r,z,Q,C,L,fo,v⟩:=g.gd.gf.fns f k u;obtain⟨v1,J⟩:=ll U;cases q:dJ G k (as.length+1) with
 | none=>
  rintro o s σ H Y I ⟨_,_,_,_,_,_,_,h⟩;rw[Ip.qW,GH,q] at h;exact h.elim
 | some F'=>
  obtain⟨j,M,b⟩:=vt q;rw[r] at j;cases j;obtain⟨ds,d,P,t,hd⟩:=v (as.length+1) (by omega) (by omega);have Z:d=[]:=by
   have:=hd λ_=>none;unfold cD at this;rw[b,Nat.sub_self,Nat.sub_zero,List.drop_length] at this;cases this;rfl
  subst Z;have B:dJ G k ((as.map (cE T sc N m)).length+1)=some F:=by rw[GH]; exact q
  have e:FnOk X.prog X.w X.K X.mg X.base (dM X.prog X.w) (rm n) a C L (fD W G n k F):=g.gd.K ▸ fo;exact (jn (tT e (g.gd.room.mono (HA (rm n))) (g.gd.gl f y) z (g.gd.K ▸ Q) (g.gd.K ▸ P) t g.gd.pass (gq (fN g v1 J A) (ua g l) rfl) c rfl (jV l)) rfl).mono λY σ H h=>CK B h
def EQ (g:Gs W G T n E sc N X) x y r mp l pos k e i j (t:bb sc x=true)(b:aQ x=true)(s:pos? x N=some i)(c:bb sc y=true)(a:aQ y=true)(u:pos? y N=some j)(d:noStar [e,.Name y k]=true)(q:(mp.endLine == l.line)=true) :
  PS X (.Expr (.Call (.Attribute (.Name x r) "insert" mp) [e,.Name y k] [] l) pos) (bM W G n io E (.mut i [] .insert [cE T sc N m e,.var j])):=by
 obtain⟨f,p⟩:=eG d;have o:=(eG p).1;exact (jn (kO Hw PySem.F.slot_list_insert PySem.F.type_list_insert D9 (fN g t b s) (gq ((e8 m).e g.gd e) (gq (fN g c a u) ip (dC o)) (dC f)) rfl (sH d (by simp)) q (dC f) rfl) rfl).mono λv σ H h=>Bh h
def zu (g:Gs W G T n E sc N X) j mp c pos e a (d:bi sc T.wb=true)(b:noStar (e::a)=true)(p:a.length<29)(i:mp.endLine=c.line) :
  PS X (.Expr (.Call (.Attribute (.Name T.wb j) "__init__" mp) (e::a) [] c) pos) (bM W G n io E (.xinit ((e::a).map (cE T sc N m)))):=by
 obtain⟨r,k,l,XI,s,_⟩:=g.gt.wb;obtain⟨o,f⟩:=eG b;exact (jn (Cg (g.gd.K ▸ XI) (g.gd.gl _ d) l ((e8 m).args g.gd (e::a)) g.gt.db (dC o) (jV f) (vx rfl b (by rw[List.length_cons]; omega) i)) rfl).mono λq σ H h=>
  Do g.gd.K g.gd.gf.cf (by rw[GH,List.length_cons]; omega) h
def xE (g:Gs W G T n E sc N X) x args p a pos c (d:bi sc x=true)(e:noStar args=true)(b:T.cls.lookup x=some c):PS X (.Raise (some (.Call (.Name x p) args [] a)) none pos) (bM W G n io E (.rais c (args.map (cE T sc N m)))):=
 (tF g.gd.calm g.rais (vr (e8 m) g.gd x args p a c d b e)).mono λf σ H h=>BL g.gd.K g.gd.gf.cf h
def CG (g:Gs W G T n E sc N X) x p v pos c (o:bi sc x=true)(s:T.bare.lookup x=some c):PS X (.Raise (some (.Call (.Name x p) [] [] v)) none pos) (bM W G n io E (.raisV c)):=by
 obtain⟨w,C,t,q,k,d,r⟩:=g.gt.bare x c s;refine (tF g.gd.calm g.rais (Fy (g.gd.K ▸ d) (g.gd.K ▸ r) (g.gd.gl _ o) q w)).mono λy σ H m=>?_;obtain⟨E0,N,l,A,F,_,f,h⟩:=m;rw[Ip.ux] at h;intro a j;refine⟨a,C,t,[],rfl,bT,g.gd.K ▸ d.toXO,h a σ _ (f.excIn (ns:=[]) ⟨λb u e=>?_,j,C,[],bT,k,.nil⟩)⟩;have i:b≠a:=λz=>by rw[z,j] at e; cases e
 rw[bE i,bE i]; exact e
def jk (W:Wd)(G:Pg)(T:Tb)(n m:Nat):Prop:=∀{io:aj} {E:St->XK} {sc:Scope} {N:ar} {X:Cx},Gs W G T n E sc N X->∀st,PS X st (bM W G n io E (cS T sc N m st))
theorem lI (b:jk W G T n m)(g:Gs W G T n E sc N X):∀a:aG,PSs X a (eB W G n io E (a.map (cS T sc N m)))
 | []=>AV
 | st::a=>y4 (b g st) (lI b g a)
def qq (d:jk W G T n m)(g:Gs W G T n E sc N X) c a b pos:PS X (.If c a b pos) (bM W G n io E (.iff (Ip.cT T sc N m c) (a.map (cS T sc N m)) (b.map (cS T sc N m)))):=
 (yE ((e8 m).t g.gd c) (lI d g a) (lI d g b)).mono λe σ H h=>FO h
def An {st:Stmt}{c:Tg}{d:Wk}{b:List Ip.S}:PS X st (bM W G n io E (.fo c d [.bad] b)):=λa s σ H e I z=>by
 obtain⟨_,_,_,_,_,_,_,h⟩:=z;rw[Ip.ri,bG,gC] at h; exact h.elim
def Bn (k:jk W G T n m)(g:Gs W G T n E sc N X) e d b pos t (f:cY sc N e=some t)(j:en (cI T sc N m d).1 t=true) :
  PS X (.For e d b [] pos) (bM W G n io E (.fo t (cI T sc N m d).1 (cI T sc N m d).2 (b.map (cS T sc N m)))):=by
 rcases rR d with ⟨a,o,c,rfl⟩ | hs
 .rw[sk]; exact An
 .exact (Am g.own g.gd.calm ((e8 m).i g.gd e d (uh f j)) (oR g.gd f) (lI k g b) (hs X.env)).mono λl σ H h=>Dg g.gd.K h
def xZ (z:jk W G T n m)(g:Gs W G T n E sc N X) b cp Y F U ap pos e x k i j (Q:bi sc T.wb=true)(M:T.cls.lookup T.wb=some k)(hi:pos? e N=some i)(L:pos? x N=some j)(v:bx sc x=true)(y:sc.names.lookup e=some .local)(d:aQ e=true) :
  PS X (.Try b [.ExceptHandler (some (.Name T.wb cp)) (some e) [.Assign [.Name x Y] (.Name e F) ap] U] [] [] pos) (bM W G n io E (.tryE (b.map (cS T sc N m)) k i j)):=by
 obtain⟨Wa,a0,hm,XI,I,q⟩:=g.gt.wb;have s:X.N.Nodup:=by rw[g.gd.nm]; exact g.gd.nd
 have f:X.N[i]? = some e:=by rw[g.gd.nm]; exact pos?_get hi
 have o:X.N[j]? = some x:=by rw[g.gd.nm]; exact pos?_get L
 have c:X.env.scope.names.lookup e=some .local:=by rw[g.scq]; exact y
 obtain⟨A,B⟩:=g.gd.loc x v;refine (Bj (tb:=λl=>eB W G n io l (b.map (cS T sc N m))) (ts:=g9 (cu i) (dW j)) s f c g.stk (g.gd.K ▸ I) (g.gd.gl _ Q) hm (λt r l w P po=>?_) (λa=>?_) g.gt.db).mono λDn σ H h=>Bc (λu C fs Z J=>g.gd.K ▸ q k u C fs M Z J) h
 .refine lI (X:=X.tryCx t r) z ?_ b;have p:Gd W G T n l sc N (X.tryCx t r):=⟨g.gd.gf,g.gd.K,g.gd.vis,g.gd.loc,g.gd.gl,g.gd.fr,g.gd.nm,g.gd.nd,g.gd.calm,w,g.gd.room⟩
  exact⟨p,g.gt,P,po,g.stk,g.scq⟩
 .exact y1 (rC (X:=X.markCx a) s o A (oE (X:=X.markCx a) f (.inl c) (okN d).1 (okN d).2) rfl B)
def ps?_or:ps? x N f=.bad\/∃i,pos? x N=some i/\ps? x N f=f i:=by
 unfold ps?;cases pos? x N with
 | none=>exact .inl rfl
 | some i=>exact .inr ⟨i,rfl,rfl⟩
def pc?_or:pc? T x f=.bad\/∃i,T.cls.lookup x=some i/\pc? T x f=f i:=by
 unfold pc?;cases T.cls.lookup x with
 | none=>exact .inl rfl
 | some i=>exact .inr ⟨i,rfl,rfl⟩
def pq {st:Stmt}{x:Str}{N:ar}{f:Nat->Ip.S}(h:∀i,pos? x N=some i->PS X st (bM W G n io E (f i))):PS X st (bM W G n io E (ps? x N f)):=by
 rcases ps?_or (x:=x) (N:=N) (f:=f) with q | ⟨i,a,q⟩
 .rw[q]; exact cA
 .rw[q]; exact h i a
def vD {st:Stmt}{x:Str}{f:Nat->Ip.S}(h:∀i,T.cls.lookup x=some i->PS X st (bM W G n io E (f i))):PS X st (bM W G n io E (pc? T x f)):=by
 rcases pc?_or (T:=T) (x:=x) (f:=f) with q | ⟨i,a,q⟩
 .rw[q]; exact cA
 .rw[q]; exact h i a
def Ew (g:Gs W G T n E sc N X) c e pos:PS X (.Assign c e pos) (bM W G n io E (cS T sc N (m+1) (.Assign c e pos))):=by
 rw[Ip.CD];cases c with
 | nil=>exact cA
 | cons t r=>
  unfold Ip.ky;dsimp only;by_cases b:r.isEmpty=true
  rotate_left
  .rw[if_neg b]; exact cA
  rw[if_pos b];obtain rfl:=HN.mp b;cases s:bt t with
  | some x=>
   obtain⟨p,rfl⟩:=Ip.fF s;dsimp only;by_cases a:bx sc x=true
   .rw[if_pos a]; exact pq λi I=>Df g _ _ e pos i a I
   .rw[if_neg a]; exact cA
  | none=>
   dsimp only;cases J:Ip.gK t with
   | some q=>
    obtain⟨x,j⟩:=q;obtain⟨p,v,P,rfl⟩:=Ip.qP J;dsimp only;by_cases a:(bb sc x&&aQ x&&bb sc j&&aQ j)=true
    .rw[if_pos a];simp only[tw] at a;obtain⟨⟨⟨C,w⟩,z⟩,A⟩:=a;refine pq λk l=>?_;refine pq λj h=>?_;exact yj g _ _ _ _ _ pos e k j C w l z A h
    .rw[if_neg a]; exact cA
   | none=>
    dsimp only;cases y:Ip.ke t with
    | none=>
     dsimp only;cases B:Ip.kc t with
     | none=>exact cA
     | some u=>
      obtain⟨L,k,M⟩:=u;obtain rfl:=Ip.zA B;dsimp only;by_cases o:Ip.fO e=true
      rotate_left
      .rw[if_neg o]; exact cA
      rw[if_pos o];split
      .rename_i H;exact DM g _ _ _ e pos _ o H
      .exact cA
    | some F=>
     obtain⟨x,f⟩:=F;obtain⟨p,v,rfl⟩:=Ip.Ag y;dsimp only;by_cases a:(bb sc x&&aQ x)=true
     rotate_left
     .rw[if_neg a]; exact cA
     rw[if_pos a];rw[tw] at a;refine pq λk l=>?_;refine pq λj h=>?_;by_cases d:T.fl.contains j=true
     .simp only[d,if_true];exact EC g _ _ _ _ e pos k j a.1 a.2 l h d
     .simp only[d]; exact cA
def DZ (g:Gs W G T n E sc N X) e pos:PS X (.Expr e pos) (bM W G n io E (cS T sc N (m+1) (.Expr e pos))):=by
 rw[Ip.EA];unfold Ip.jT;cases H:Ip.ku e with
 | some t=>
  obtain⟨x,mm,mp,args,cp⟩:=t;obtain⟨xp,rfl⟩:=Ip.zU H;dsimp only;split
  .rename_i d;simp only[tw,GN] at d;obtain⟨⟨j,l⟩,rfl⟩:=d;unfold Ip.mi;split
   .split
    .rename_i a hd;rw[tw] at hd;refine pq λk h=>?_;exact xT g _ _ _ _ _ _ _ j l h hd.1 hd.2
    .exact cA
   .exact cA
  .split
   .rename_i d;simp only[tw,GN] at d;obtain⟨⟨j,l⟩,rfl⟩:=d;unfold Ip.nh;split
    .split
     .rename_i hd;rw[tw] at hd;refine pq λk h=>?_;exact CT g _ _ _ _ _ _ _ j l h hd.1 hd.2
     .exact cA
    .exact cA
   split
   .rename_i d;simp only[tw,GN] at d;obtain⟨⟨j,l⟩,rfl⟩:=d;unfold Ip.mU;split
    .rename_i a b;cases v:bt b with
     | none=>exact cA
     | some y=>
      dsimp only;obtain⟨Y,rfl⟩:=Ip.fF v;split
      .rename_i hd;simp only[tw] at hd;refine pq λk h=>?_;refine pq λZ q=>?_;exact EQ g _ _ _ _ _ _ _ _ _ _ j l h hd.1.2 hd.2 q hd.1.1.1 hd.1.1.2
      .exact cA
    .exact cA
   split
   .rename_i d;unfold Ip.v6 at d;simp only[tw,GN] at d;obtain⟨⟨j,rfl⟩,rfl⟩:=d;unfold Ip.mP;split
    .exact cA
    .split
     .rename_i hd;simp only[tw,GN,GS] at hd;exact zu g _ _ _ _ _ _ j hd.1.1 hd.1.2 hd.2
     .exact cA
   .exact xf g _ pos λ_ _ _ _ z=>by cases z
 | none=>
  dsimp only;by_cases o:Ip.l9 e=true
  .rw[if_pos o]; exact cA
  rw[if_neg o];cases M:Ip.pe sc e with
  | some t=>
   obtain⟨x,is,rm,y⟩:=t;dsimp only;obtain⟨b,f,P,p5,p6,rfl,B,v1,r,C,s,u⟩:=Ip.zn M;unfold Ip.uN;refine pq λk h=>?_;refine pq λc d=>?_;cases I:gz N is with
   | none=>exact cA
   | some Q=>exact Ad g B v1 r C h I d s u
  | none=>
   dsimp only;cases J:Ip.iO T sc e with
   | none=>exact xf g e pos λ_ _ _ _ z=>o (by rw[z]; rfl)
   | some t=>
    obtain⟨k,x,as⟩:=t;dsimp only;obtain⟨f,p,U,p2,rfl,h,w,A,F⟩:=Ip.Ao T J;exact pq λi L=>Cw g h w A F L
def Ce (g:Gs W G T n E sc N X) o pos:PS X (.Return o pos) (bM W G n io E (cS T sc N (m+1) (.Return o pos))):=by
 rw[Ip.Eb];cases o with
 | none=>exact zy pos
 | some e=>
  unfold Ip.jR;dsimp only;cases c:bt e with
  | some x=>
   obtain⟨p,rfl⟩:=Ip.fF c;dsimp only;by_cases a:(bb sc x&&aQ x)=true
   .rw[if_pos a];rw[tw] at a;refine pq λk d=>?_;exact Cb g _ _ pos k a.1 a.2 d
   .rw[if_neg a]; exact cA
  | none=>
   dsimp only;by_cases b:pj (cE T sc N m e)=true
   .rw[if_pos b]; exact cA
   .rw[if_neg b]; exact DN g e pos b
def EO (f:jk W G T n m)(g:Gs W G T n E sc N X) c d b a pos:PS X (.For c d b a pos) (bM W G n io E (cS T sc N (m+1) (.For c d b a pos))):=by
 dsimp only[Ip.EG,Ip.j6];split
 .exact cA
 .split
  .rename_i h;split
   .rename_i e;exact Bn f g c d b pos _ h e
   .exact cA
  .exact cA
def xY (g:Gs W G T n E sc N X) e c pos:PS X (.Raise e c pos) (bM W G n io E (cS T sc N (m+1) (.Raise e c pos))):=by
 rw[Ip.EJ];cases c with
 | some _=>exact cA
 | none=>
  cases e with
  | none=>exact cA
  | some e=>
   unfold Ip.ko;dsimp only;cases q:Ip.iP e with
   | none=>exact cA
   | some t=>
    obtain⟨x,args⟩:=t;obtain⟨f,h,rfl⟩:=Ip.uq q;dsimp only;by_cases a:(bi sc x&&noStar args)=true
    .rw[if_pos a];rw[tw] at a;cases b:T.bare.lookup x with
     | none=>
      refine vD λk d=>?_;exact xE g _ _ _ _ pos k a.1 a.2 d
     | some k=>
      cases args with
      | nil=>exact CG g _ _ _ pos k a.1 b
      | cons _ _=>exact cA
    .rw[if_neg a]; exact cA
def Ey (f:jk W G T n m)(g:Gs W G T n E sc N X) b hs a fin pos:PS X (.Try b hs a fin pos) (bM W G n io E (cS T sc N (m+1) (.Try b hs a fin pos))):=by
 rw[Ip.xI];unfold Ip.kq;cases q:Ip.iQ hs with
 | none=>exact cA
 | some t=>
  obtain⟨c,e,x,y⟩:=t;obtain⟨A,B,C,z,F,rfl⟩:=Ip.yZ q;simp only;split
  .rename_i d;obtain⟨s,w,d⟩:=d;obtain rfl:=HN.mp s;obtain rfl:=HN.mp w;simp only[tw,GN] at d;obtain⟨⟨⟨⟨⟨r,rfl⟩,rfl⟩,p⟩,h⟩,u⟩:=d;refine vD λk o=>?_;refine pq λi v=>?_;refine pq λj l=>?_;exact xZ f g b _ _ _ _ _ pos _ _ k i j r o v l h u p
  .exact cA
theorem wK W G T n:∀m,jk W G T n m
 | 0=>λg st=>by exact cA
 | m+1=>λg st=>by
  have f:jk W G T n m:=wK W G T n m;cases st with
  | Assign h e pos=>exact Ew g h e pos
  | Expr e pos=>exact DZ g e pos
  | Return o pos=>exact Ce g o pos
  | If c a b pos=>exact qq f g c a b pos
  | For i j b d pos=>exact EO f g i j b d pos
  | Raise e c pos=>exact xY g e c pos
  | Try b hs d fin pos=>exact Ey f g b hs d fin pos
  | _=>exact cA
end
section
variable {W:Wd}{G:Pg}{T:Tb}{n:Nat}{P:Program}{w:World}{mg:Str->aA}{base:Heap}
theorem pz:∀{a:av} {b:ax} {i:Nat} {d:D},Dens W S a b->b[i]? = some d->∃v,a[i]? = some v/\Den W S v d
 | _,_,_,_,.nil,h=>by simp at h
 | _,_,0,_,.cons h _,e=>by
  simp only[List.getElem?_cons_zero,HF] at e;subst e;exact⟨_,rfl,h⟩
 | _,_,i+1,_,.cons _ q,e=>by
  dsimp only[List.getElem?_cons_succ] at e ⊢;exact pz q e
def tQ (h:(bn F b)[i]? = some (some x)):∃y,b[i]? = some y/\x=if F.io.contains i then y else (0,y.2):=by
 unfold bn at h;by_cases a:i<b.length
 .rw[HR (by rw[JF]; exact a),Hk,GJ a] at h;simp only[Option.map_some,HF] at h;refine⟨b[i],GJ a,?_⟩;by_cases c:F.io.contains i=true
  .rw[if_pos c] at h ⊢; exact (cm h).symm
  .rw[if_neg c] at h ⊢; exact (cm h).symm
 .rw[List.getElem?_append_right (by rw[JF]; omega)] at h;have:=GV h;rw[List.mem_replicate] at this;cases this.2
def wt (h:a.length=F.np)(b:F.np<=F.ns):(bn F a).length=F.ns:=by
 unfold bn;rw[GQ,JF,Jh];omega
def oP {N:ar}{a:av}{i:Nat}{v:V}(h:a[i]? = some v):(start N a)[i]? = some (some v):=by
 unfold start;have b:i<a.length:=(di h).1;rw[HR (by rw[GH]; exact b),GK,h]; rfl
def Dy (h:a.length<=N.length):(start N a).length=N.length:=by
 unfold start;rw[GQ,GH,Jh]; omega
def Cj:aP M (λ_=>[])=M:=funext λb=>propext ⟨λz=>z.elim id λ⟨_,y⟩=>by simp at y,.inl⟩
def FP:Own W S H 99 .non .non []:=⟨rfl,.non⟩
def Dq (h:Own W S H k v .non a):v=.non:=by
 cases k with
 | zero=>obtain⟨_,h⟩:=h; cases h; rfl
 | succ k=>obtain⟨_,h⟩:=h; cases h; rfl
def FrX.out {E0:Hp}{N:Addr->Prop}{a:List (Nat×V)}{A:Fr}{σ:St}{H:Hp}{c:Nat}{d:List aH}{e:Addr}(h:FrX W E0 N a A σ H c d e):ExcR W E0 N H c d e:=by
 obtain⟨F,f,g,C,i,l,j,k⟩:=h;exact⟨f.sub,g.1,C,i,l,j,k.mono λb u z=>aU.mpr ⟨λy=>(aU.mp z).1 (.inl y),(aU.mp z).2⟩⟩
theorem Fh (h:match Ip.fin [] o with
  | .ret k d []=>∀v a,Res W H N a (k,d) v->Q v a
  | .exc c g []=>∀e a,ExcR W H N a c g e->E (.ref e) none a
  | _=>False):PostS W H N [] (λ_=>E) { nx:=λ_ a=>Q .non a,rt:=Q } o:=by
 cases o with
 | nx A=>exact λσ a F f=>h .non a ⟨f.sub,[],.nil,λ_ z=>by simp at z,FP⟩
 | ret k d A=>
  rintro v σ a ⟨l,F,f,m,j,o⟩;refine h v a ⟨f.sub,l,m,λb i=>(j b i).1,o.mono (λb u z=>?_) λ_ _ _ e=>e⟩;exact aU.mpr ⟨λy=>(aU.mp z).1 (.inl y),(aU.mp z).2⟩
 | exc c g A=>exact λe σ a x=>h e a x.out
 | bad=>exact h.elim
theorem xy {H:Hp}{N:Addr->Prop}{g:al}{v0:V}{o:Ip.O}{Q:VK}{E:XK}(h:match Ip.fin [0] o with
  | .ret k d [y]=>∀v a (i:al),Sub (hid (λb=>b∈g) H) a->i.Nodup->(∀b∈i,hid (λb=>b∈g) H b=none)->Own W (hid (λb=>N b\/b∈i) a) a y.1 v0 y.2 i->(d=.non->v=.non)->Q v a
  | .exc c t _=>∀e a,ExcR W (hid (λb=>b∈g) H) N a c t e->E (.ref e) none a
  | _=>False):PostS W (hid (λb=>b∈g) H) N [(0,v0)] (λ_=>E) { nx:=λ_ a=>Q .non a,rt:=Q } o:=by
 have key:∀{j:Addr->Prop} {A:Fr} {σ:St} {a:Hp} {F:Nat->al} {y:KD},FrF W (hid (λb=>b∈g) H) j [(0,v0)] A σ a F->(∀b,N b->j b)->A[0]? = some (some y)->Sub (hid (λb=>b∈g) H) a/\(F 0).Nodup/\(∀b∈F 0,hid (λb=>b∈g) H b=none)/\Own W (hid (λb=>N b\/b∈F 0) a) a y.1 v0 y.2 (F 0):=by
  intro j A σ a F y f B J;obtain⟨v,L,C⟩:=f.rel 0 y J;have s:=f.pn (0,v0) (by simp);rw[L] at s;cases s;refine⟨f.sub,f.nd 0,λb I=>(f.fr 0 b I).1,C.mono (λb u z=>?_) λ_ _ _ e=>e⟩;refine aU.mpr ⟨λy=>(aU.mp z).1 ?_,(aU.mp z).2⟩;exact y.elim (λq=>.inl (B b q)) λq=>.inr ⟨0,q⟩
 cases o with
 | nx A=>
  intro σ a F f;dsimp only[Ip.fin,Ip.outs] at h;cases q:A[0]? with
  | none=>rw[q] at h; exact h.elim
  | some o=>
   cases o with
   | none=>rw[q] at h; exact h.elim
   | some y=>
    rw[q] at h;obtain⟨l,m,r,p⟩:=key f (λ_ z=>z) q;exact h .non a _ l m r p λ_=>rfl
 | ret k d A=>
  rintro v σ a ⟨i,F,f,M,U,o⟩;dsimp only[Ip.fin,Ip.outs] at h;cases q:A[0]? with
  | none=>rw[q] at h; exact h.elim
  | some o=>
   cases o with
   | none=>rw[q] at h; exact h.elim
   | some y=>
    rw[q] at h;obtain⟨l,m,r,p⟩:=key f (λ_ z=>.inl z) q;refine h v a _ l m r p λz=>?_;subst z;exact Dq o
 | exc c t A=>
  intro e σ a x;dsimp only[Ip.fin,Ip.outs] at h;cases q:A[0]? with
  | none=>rw[q] at h; exact h.elim
  | some o=>
   cases o with
   | none=>rw[q] at h; exact h.elim
   | some y=>rw[q] at h; exact h e a x.out
 | bad=>exact h.elim
def zJ {k:Nat}{F:Fn}{N:ar}{vs:av}{H:Hp}{Q:VK}{E:XK}(hF:G.fn k=some F)(hns:F.ns=N.length)(hnp:F.np<=F.ns)(h:fD W G (n+1) k F vs H Q E) :
  eB W G n F.io (λ_=>E) F.body { nx:=λ_ H'=>Q .non H',rt:=Q } (start N vs) H:=by
 have hlen:=rX hF h;have hsl:(start N vs).length=N.length:=Dy (by omega);rcases h with ⟨hio,M,xs,hM,dv,h⟩ | ⟨hio,M,x0,xs,v0,ws,f0,rfl,hM,nd,dj,ow,dv,h⟩
 .have hx:xs.length=F.np:=by rw[dv.length,GH] at hlen; exact hlen
  rw[Ip.qY hF hx,hio] at h;refine⟨H,M,[],bn F xs,λ_=>[],λp hp=>by simp at hp,⟨λ_ _ e=>e,hM,by rw[hsl,wt hx hnp,hns],λp hp=>by simp at hp,λ_=>.nil,λi j b hb=>by simp at hb,λi b hb=>by simp at hb,λi x e=>?_,λ_ _=>rfl⟩,?_⟩
  .obtain⟨y,e1,e2⟩:=tQ e;rw[hio] at e2;dsimp only[List.contains_nil,Bool.false_eq_true,if_false] at e2;obtain⟨v,e3,e4⟩:=pz (i:=i) (d:=y.2) dv (by rw[GK,e1]; rfl);refine⟨v,oP e3,?_⟩;rw[Cj,e2];exact⟨rfl,e4⟩
  .rw[hio];exact Fh h
 .have hx:(x0::xs).length=F.np:=by rw[List.length_cons,dv.length,GH] at hlen; rw[List.length_cons]; exact hlen
  rw[Ip.qY hF hx,hio] at h;have hh:aP M (λi=>if i=0 then f0 else [])=λb=>M b\/b∈f0:=funext λb=>propext ⟨λz=>z.imp id λ⟨j,y⟩=>by
   by_cases q:j=0
   .simpa[q] using y
   .simp[q] at y,λz=>z.imp id λy=>⟨0,by simpa using y⟩⟩
  refine⟨hid (λb=>b∈f0) H,M,[(0,v0)],bn F (x0::xs),λi=>if i=0 then f0 else [],λp hp=>by simp at hp; rw[hp,hio]; simp,⟨λb u e=>(aU.mp e).2,hM,by rw[hsl,wt hx hnp,hns],λp hp=>?_,λi=>?_,λi j b h1 h2=>?_,λi b hb=>?_,λi x e=>?_,λi hi=>?_⟩,?_⟩
  .simp only[GI] at hp;rw[hp];exact oP rfl
  .split
   .exact nd
   .exact .nil
  .split at h1
   .split at h2
    .omega
    .simp at h2
   .simp at h1
  .split at hb
   .exact⟨by unfold hid; exact if_pos hb,dj b hb⟩
   .simp at hb
  .obtain⟨y,e1,e2⟩:=tQ e;rw[hio] at e2;rw[hh];cases i with
   | zero=>
    simp only[List.getElem?_cons_zero,HF] at e1;subst e1;rw[if_pos (by simp)] at e2;subst e2;exact⟨v0,oP rfl,by simpa using ow⟩
   | succ i=>
    dsimp only[List.getElem?_cons_succ] at e1;rw[if_neg (by simp)] at e2;obtain⟨v,e3,e4⟩:=pz (i:=i) (d:=y.2) dv (by rw[GK,e1]; rfl);refine⟨v,oP (by simpa using e3),?_⟩;rw[e2];exact⟨by simp,e4⟩
  .split
   .rename_i z;subst z;exact absurd (show (bn F (x0::xs))[0]? = some (some x0) by simp[bn,hio]) (hi x0)
   .rfl
  .rw[hio];exact xy h
structure FunD (K:bh)(x qual:Str)(st:Stmt)(f:Addr)(fd:FuncData):Prop where
 ex:∃(oc:Value) (od:aE) (dV kV doc pm:Value) (an:aE) (cdv ct:Value) (osl:Array aA),
  fd=PySem.W.fnOf x qual (aO st) (aS st) (bW st) dV kV doc pm an cdv ct/\K.lookup f=some ⟨oc,od,.func fd,osl⟩/\PySem.W.codeIn K cdv qual=true
def FunD.okX {N:ar}{x qual:Str}{st:Stmt}{f:Addr}{fd:FuncData}{ps:ar}{k:Nat}{sp:Sp}{K:bh}(F:FunD K x qual st f fd)(S:FnScope N ps (bW st))(len:∀vs H Q E,sp vs H Q E->vs.length=ps.length)
  (hbody:∀(cdv:Value) (A:Around) (outer:List Env) (s:Shared) (H:Hp) (vs:av) (Q:VK) (E:XK),Room k (A.deeper (envOfC qual (bW st) s.heap.objs.size f cdv))->sp vs H Q E ->
   ∃t,PSs (eO (dM P w) P w K mg base N qual (bW st) f cdv A outer s H E) (aS st) t/\t { nx:=λ_ H'=>Q .non H',rt:=Q } (start N vs) H):FnOk P w K mg base (dM P w) (k+1) f fd ps sp:=by
 obtain⟨z,u,y,kV,o,pm,B,cdv,v,q,rfl,r,h⟩:=F.ex;exact va r h S len λA outer s H vs Q E p g=>hbody cdv A outer s H vs Q E p g
structure DefAt (W:Wd)(T:Tb)(F:Fn)(a:Addr):Prop where
 ex:∃(x qual:Str) (st:Stmt) (fd:FuncData) (ps:ar) (io:aj),FunD W.K x qual st a fd/\FnScope (fk (aO st) (bW st)) ps (bW st)/\cF T io st=some F/\F.np=ps.length /\
  ∀m,m<=F.np->F.np - m<=F.dfl.length->∃(ds:ao) (dvs:av),Binds W.K fd ps ds/\Vals dvs ds/\∀S,Dens W S dvs (cD F m)
def xS {io:aj}{st:Stmt}{F:Fn}(h:cF T io st=some F):F.io=io/\F.ns=(fk (aO st) (bW st)).length/\F.np=(aO st).args.length/\F.body=(aS st).map (cS T (bW st) (fk (aO st) (bW st)) 60):=by
 cases st <;> try (cases h; done)
 rename_i d _ _ _ _ _ _;cases d <;> try (cases h; done)
 obtain⟨b,_,a⟩:=cM h;subst a;exact⟨rfl,rfl,rfl,rfl⟩
def Ac:a.args.length<=(fk a sc).length:=by
 unfold fk;rw[GQ,GH]; omega
def sU {k:Nat}{F:Fn}{a:Addr}{x qual:Str}{st:Stmt}{fd:FuncData}{ps:ar}{io:aj}(hF:G.fn k=some F)(g:∀m,n=m+1->GF W G T m P w mg base)(gt:GT W G T mg)(fu:FunD W.K x qual st a fd)(S:FnScope (fk (aO st) (bW st)) ps (bW st))(hc:cF T io st=some F)(hnp:F.np=ps.length) :
  FnOk P w W.K mg base (dM P w) (rm n) a fd ps (fD W G n k F):=by
 obtain⟨C,t,v,B⟩:=xS hc;cases n with
 | zero=>
  refine fu.okX (k:=0) S (λi H Q E h=>by rw[rX hF h,hnp]) λj A c s H i Q E o h=>?_;rcases h with ⟨_,_,_,_,_,q⟩ | ⟨_,_,_,_,_,_,_,_,_,_,_,_,_,q⟩
  .exact q.elim
  .exact q.elim
 | succ n=>
  refine fu.okX (k:=3 * n+3) S (λi H Q E h=>by rw[rX hF h,hnp]) λj A c s H i Q E o h=>?_;refine⟨_,lI (io:=F.io) (E:=λ_=>E) (wK W G T n 60) (sc:=bW st) (N:=fk (aO st) (bW st)) ?_ (aS st),?_⟩
  .refine⟨⟨g n rfl,rfl,λy b=>?_,λy b=>?_,λy b=>?_,λy b=>b,rfl,S.nd,rfl,passF,o.mono (by unfold rm; omega)⟩,gt,ks,PassesOwn.leaving,⟨_,_,rfl,rfl⟩,rfl⟩
   .unfold bb at b;simp only[G6,GN] at b;exact b.elim (λz=>z.elim .inl λz=>.inr (.inl z)) λz=>.inr (.inr z)
   .unfold bx at b;simp only[G6,GN] at b;exact⟨b,.inl rfl⟩
   .unfold bi at b;simp only[GN] at b;exact b
  .rw[<-B];exact zJ hF t (by rw[v,t]; exact Ac) h
def rB (h:G.fn k=some F)(g:∀m,n=m+1->GF W G T m P w mg base)(gt:GT W G T mg)(d:DefAt W T F a):FI W G n P w mg base k F a:=by
 obtain⟨x,e,st,j,l,io,i,S,f,c,b⟩:=d.ex;exact⟨j,l,sU h g gt i S f c,b⟩
end
structure GF0 (W:Wd)(G:Pg)(T:Tb)(mg:Str->aA):Prop where
 cf:CF W T.fl
 att:W.att=T.att
 blt:∀x v,(x,v)∈cy->mg x=none/\bootBuiltins x=some v
 cst:∀x d,T.cst.lookup x=some d->(x == ("__debug__" : Str))=false/\∃u v,mg x=some u/\RelV v u/\d.flat=true/\∀S,Den W S v d
 fns:∀x k,T.fns.lookup x=some k->(x == ("__debug__" : Str))=false/\∃F a,G.fn k=some F/\mg x=some (.ref a)/\PySem.W.keepIn W.K (.ref a)=true/\DefAt W T F a
 cls:∀x c,T.cls.lookup x=some c->(x == ("__debug__" : Str))=false/\∃C,mg x=some (.ref C)/\∀Cl' f F,G.cl c=some Cl'->Cl'.init=some f->G.fn f=some F ->
  ∃a,DefAt W T F a/\if Cl'.isx=true then W.xA c=some C/\PySem.W.keepIn W.K (.ref C)=true/\∃tl,XC W.K C (.ref a) tl else W.iA c=some C/\Mk W.K C a
 meth:∀c Cl' m f F,G.cl c=some Cl'->Cl'.meths.lookup m=some f->G.fn f=some F->∀nm,W.att[m]? = some nm->∃C a,W.iA c=some C/\Meth W.K C nm a/\DefAt W T F a
 isB:∀x t,jS.lookup x=some t->mg x=none/\x ≠ "__name__" /\ (x == ("__debug__" : Str))=false/\∃nm,bootBuiltins x=some (.type nm)/\cg W G t (.type nm)
 isC:∀x c,T.cls.lookup x=some c->∃C,mg x=some (.ref C)/\cg W G (.cls c) (.ref C)
def FN (b:GF0 W G T o)(gt:GT W G T o):∀n,GF W G T n P w o base:=by
 have step:∀n,(∀m,n=m+1->GF W G T m P w o base)->GF W G T n P w o base:=λn i=>
  ⟨b.cf,b.att,b.blt,b.cst,λx k h=>by
   obtain⟨g,F,a,e,j,q,s⟩:=b.fns x k h;exact⟨g,F,a,e,j,q,rB e i gt s⟩,λx c h=>by
   obtain⟨g,C,e,j⟩:=b.cls x c h;refine⟨g,C,e,λd f F p r l=>?_⟩;obtain⟨a,q,s⟩:=j d f F p r l;exact⟨a,rB l i gt q,s⟩,λc d m f F p r l t u=>by
   obtain⟨C,a,g,e,j⟩:=b.meth c d m f F p r l t u;exact⟨C,a,g,e,rB l i gt j⟩,b.isB,b.isC⟩
 intro n;induction n with
 | zero=>exact step 0 λm h=>by cases h
 | succ n i=>exact step (n+1) λm h=>by cases h; exact i
section
variable {W:Wd}{T:Tb}{F:Fn}{f:Addr}{x g:Str}{st:Stmt}{C w kV s pm q A:Value}{I B:aE}{t:Array aA}{ps:ar}{io:aj}
def zq (l:W.K.lookup f=some ⟨C,I,.func (PySem.W.fnOf x g (aO st) (aS st) (bW st) w kV s pm B q A),t⟩)(c:PySem.W.codeIn W.K q g=true)
  (S:FnScope (fk (aO st) (bW st)) ps (bW st))(d:cF T io st=some F)(a:F.np=ps.length)(hd:F.dfl=[])
  (e:∀b:ao,b.length=ps.length->bindArgs (PySem.W.fnOf x g (aO st) (aS st) (bW st) w kV s pm B q A) ⟨b,[]⟩=pure (ps.zip b)):DefAt W T F f:=by
 refine⟨x,g,st,_,ps,io,⟨C,I,w,kV,s,pm,B,q,A,t,rfl,l,c⟩,S,d,a,λm h i=>⟨[],[],Binds.all e,.nil,λS=>?_⟩⟩;unfold cD;rw[hd];simp;exact .nil
def BF (l:W.K.lookup f=some ⟨C,I,.func (PySem.W.fnOf x g (aO st) (aS st) (bW st) w kV s pm B q A),t⟩)(c:PySem.W.codeIn W.K q g=true)
  (S:FnScope (fk (aO st) (bW st)) ps (bW st))(j:cF T io st=some F)(b:F.np=ps.length)(hd:F.dfl=[d])(r:RelV v u)(k:∀S,Den W S v d)
  (h:Binds W.K (PySem.W.fnOf x g (aO st) (aS st) (bW st) w kV s pm B q A) ps [])(a:Binds W.K (PySem.W.fnOf x g (aO st) (aS st) (bW st) w kV s pm B q A) ps [u]):DefAt W T F f:=by
 refine⟨x,g,st,_,ps,io,⟨C,I,w,kV,s,pm,B,q,A,t,rfl,l,c⟩,S,j,b,λm n i=>?_⟩;unfold cD;rw[hd] at i ⊢;by_cases e:F.np - m=0
 .refine⟨[],[],h,.nil,λS=>?_⟩;rw[e];exact .nil
 .have:F.np - m=1:=by simp at i; omega
  refine⟨[u],[v],a,.cons r .nil,λS=>?_⟩;rw[this];exact .cons (k S) .nil
theorem mem_of_lookup:∀{l:ah},l.lookup a=some o->(a,o)∈l
 | [],h=>nomatch h
 | (y,j)::r,h=>by
  rw[List.lookup_cons] at h;cases e:a == y with
  | true=>
   rw[e] at h;rw[GN] at e;cases h;rw[e];exact bP
  | false=>rw[e] at h; exact bK _ (mem_of_lookup h)
def gy (K:bh):Sp:=λd H Q _=>∃(a:Addr) (b:ak),d=[.ref a]/\SqL K H a (b.map V.int)/\b.length<=63/\∀c,Q (.bl true) c
def Aw (r:F.io=[])(l:(W.K.all λp=>!(p.2.cls == Value.type "list"))=true)(j:∀c:List Int,c.length<=63->∃d,Ip.run G n k [(0,.lst (c.map D.int))]=.ret d (.bl true) []) :
  ∀u H Q E,gy W.K u H Q E->fD W G n k F u H Q E:=by
 rintro u H Q E ⟨a,c,e,L,J,U⟩;subst e;obtain⟨d,j⟩:=j c J;refine .inl ⟨r,λ_=>False,[(0,.lst (c.map D.int))],λ_ z=>z.elim,?_,?_⟩
 .have e:hid (λ_=>False) H=H:=funext λb=>by unfold hid; exact if_neg id
  rw[e];have y:Rd H a (.lst (c.map V.int)):=by
   rcases L with h | ⟨o,N,m,P,Y,_⟩
   .exact h
   .have:=dU l (a,o) (mem_of_lookup P);rw[Y] at this;simp at this
  refine .cons (.lst y ?_) .nil;clear j L y J;induction c with
  | nil=>exact .nil
  | cons i c M=>exact .cons .int M
 .rw[j];rintro v X ⟨_,Z,_,_,o⟩;have:v=.bl true:=by
   cases d with
   | zero=>obtain⟨_,o⟩:=o; cases o; rfl
   | succ d=>obtain⟨_,o⟩:=o; cases o; rfl
  subst this;exact U X
end
section
variable {W:Wd}{G:Pg}{T:Tb}{g:Str->aA}
def PF (W:Wd)(T:Tb)(G:Pg)(g:Str->aA)(p:Str×Nat):Prop:=(p.1 == ("__debug__" : Str))=false/\∃F a,G.fn p.2=some F/\g p.1=some (.ref a)/\PySem.W.keepIn W.K (.ref a)=true/\DefAt W T F a
def yo (W:Wd)(T:Tb)(G:Pg)(g:Str->aA)(p:Str×Nat):Prop:=(p.1 == ("__debug__" : Str))=false/\∃C,g p.1=some (.ref C)/\cg W G (.cls p.2) (.ref C)/\∀b f F,G.cl p.2=some b->b.init=some f->G.fn f=some F ->
  ∃a,DefAt W T F a/\if b.isx=true then W.xA p.2=some C/\PySem.W.keepIn W.K (.ref C)=true/\∃c,XC W.K C (.ref a) c else W.iA p.2=some C/\Mk W.K C a
def PV (W:Wd)(g:Str->aA)(p:Str×D):Prop:=(p.1 == ("__debug__" : Str))=false/\∃u v,g p.1=some u/\RelV v u/\p.2.flat=true/\∀S,Den W S v p.2
def PM (W:Wd)(T:Tb)(G:Pg)(C:Addr)(p:Nat×Nat):Prop:=∃F b a,G.fn p.2=some F/\W.att[p.1]? = some b/\Meth W.K C b a/\DefAt W T F a
theorem fA [BEq α][LawfulBEq α]:∀{l:List (α×β)},l.lookup a=some b->(a,b)∈l
 | [],h=>nomatch h
 | (y,j)::r,h=>by
  rw[List.lookup_cons] at h;cases e:a == y with
  | true=>
   rw[e] at h;rw[GN] at e;cases h;rw[e];exact bP
  | false=>rw[e] at h; exact bK _ (fA h)
def Em (cf:CF W T.fl)(att:W.att=T.att)(blt:∀p∈cy,g p.1=none/\bootBuiltins p.1=some p.2)(cst:∀p∈T.cst,PV W g p)(fns:∀p∈T.fns,PF W T G g p)(cls:∀p∈T.cls,yo W T G g p)
  (meth:∀c Cl',G.cl c=some Cl'->Cl'.meths≠[]->∃C,W.iA c=some C/\∀p∈Cl'.meths,PM W T G C p)
  (isB:∀p∈jS,g p.1=none/\p.1 ≠ "__name__" /\ (p.1 == ("__debug__" : Str))=false/\∃nm,bootBuiltins p.1=some (.type nm)/\cg W G p.2 (.type nm)):GF0 W G T g where
 cf:=cf
 att:=att
 blt:=λx v h=>blt (x,v) h
 cst:=λx d h=>cst (x,d) (fA h)
 fns:=λx k h=>fns (x,k) (fA h)
 cls:=λx c h=>by
  obtain⟨h1,C,h2,_,h3⟩:=cls (x,c) (fA h);exact⟨h1,C,h2,h3⟩
 meth:=λc Cl' m f F h1 h2 h3 nm h4=>by
  have hm:=fA h2;obtain⟨C,e1,e2⟩:=meth c Cl' h1 (λz=>by rw[z] at hm; simp at hm);obtain⟨F',nm',a,e3,e4,e5,e6⟩:=e2 (m,f) hm;rw[h3] at e3; cases e3;rw[h4] at e4; cases e4;exact⟨C,a,e1,e5,e6⟩
 isB:=λx t h=>isB (x,t) (fA h)
 isC:=λx c h=>by
  obtain⟨_,C,h2,h3,_⟩:=cls (x,c) (fA h);exact⟨C,h2,h3⟩
def yR (h0:PySem.W.kitOne W.K (.type "NoneType") cv=some (aZ G .non t))(h1:PySem.W.kitOne W.K (.type "bool") cv=some (aZ G (.bl true) t))(h2:PySem.W.kitOne W.K (.type "int") cv=some (aZ G (.int 0) t))
  (h3:PySem.W.kitOne W.K (.type "str") cv=some (aZ G (.str "") t))(h4:PySem.W.kitOne W.K (.type "list") cv=some (aZ G (.lst []) t))(h5:PySem.W.kitOne W.K (.type "tuple") cv=some (aZ G (.tup []) t))
  (h6:∀c C,W.iA c=some C->PySem.W.kitOne W.K (.ref C) cv=some (aZ G (.ins c []) t))(h7:∀c C,W.xA c=some C->PySem.W.kitOne W.K (.ref C) cv=some (aZ G (.exc c []) t)):cg W G t cv:=by
 intro d v h;cases d with
 | non=>cases h; exact h0
 | bl b=>cases h; rw[h1]; cases t <;> rfl
 | int i=>cases h; rw[h2]; cases t <;> rfl
 | str s=>cases h; rw[h3]; cases t <;> rfl
 | lst n=>cases h; rw[h4]; cases t <;> rfl
 | tup n=>cases h; rw[h5]; cases t <;> rfl
 | ins c u=>
  obtain⟨C,e,f⟩:=cM h;subst f;rw[h6 c C e]; cases t <;> rfl
 | exc c u=>
  obtain⟨C,e,f⟩:=cM h;subst f;rw[h7 c C e]; cases t <;> rfl
end
noncomputable def cX (K:bh)(b d:List (Nat×Addr))(a:ar):Wd:=⟨K,λc=>b.lookup c,λc=>d.lookup c,a⟩
def kS (h:l.length=1):∃a,l=[a]:=Hy.mp h
def kv (h:l.length=n+1):∃a r,l=a::r/\r.length=n:=by
 cases l with
 | nil=>cases h
 | cons a r=>exact⟨a,r,rfl,Nat.succ.inj h⟩
def jQ (h:l.length=2):∃a b,l=[a,b]:=by
 obtain⟨a,r,rfl,c⟩:=kv h;obtain⟨b,rfl⟩:=kS c;exact⟨a,b,rfl⟩
def mf (h:l.length=3):∃a b c,l=[a,b,c]:=by
 obtain⟨a,r,rfl,d⟩:=kv h;obtain⟨b,c,rfl⟩:=jQ d;exact⟨a,b,c,rfl⟩
def pJ (h:l.length=4):∃a b c d,l=[a,b,c,d]:=by
 obtain⟨a,r,rfl,e⟩:=kv h;obtain⟨b,c,d,rfl⟩:=mf e;exact⟨a,b,c,d,rfl⟩
section
variable {K:bh}{iL xL:List (Nat×Addr)}{att:ar}{fl:aj}{G:Pg}{T:Tb}{mg:Str->aA}
abbrev NoA (K:bh)(C:Addr)(a:ar):Prop:=(a.map λn=>PySem.W.findIn K (.ref C) n)=a.map λ_=>some none
def NoA.at (h:NoA K C ns)(a:n∈ns):NoAttr K C n:=G7.mp h n a
def za (g:att.Nodup)(d:∀p∈iL,InsC K p.2/\NoA K p.2 (oM fl att))(e:∀p∈xL,ExcC K p.2/\NoA K p.2 (oM fl att)):CF (cX K iL xL att) fl:=
 ⟨g,λc C h=>⟨(d (c,C) (fA h)).1,λf n b a=>(d (c,C) (fA h)).2.at (Ik.mpr ⟨f,b,a⟩)⟩,
  λc C h=>⟨(e (c,C) (fA h)).1,λf n b a=>(e (c,C) (fA h)).2.at (Ik.mpr ⟨f,b,a⟩)⟩⟩
abbrev ml (K:bh)(G:Pg)(t:Ip.Ty)(a:Value):Prop:=[PySem.W.kitOne K (.type "NoneType") a,PySem.W.kitOne K (.type "bool") a,PySem.W.kitOne K (.type "int") a,PySem.W.kitOne K (.type "str") a,PySem.W.kitOne K (.type "list") a,PySem.W.kitOne K (.type "tuple") a]=[some (aZ G .non t),some (aZ G (.bl true) t),some (aZ G (.int 0) t),some (aZ G (.str "") t),some (aZ G (.lst []) t),some (aZ G (.tup []) t)]
abbrev qB (K:bh)(iL:List (Nat×Addr))(G:Pg)(t:Ip.Ty)(a:Value):Prop:=(iL.map λp=>PySem.W.kitOne K (.ref p.2) a)=iL.map λp=>some (aZ G (.ins p.1 []) t)
abbrev rO (K:bh)(xL:List (Nat×Addr))(G:Pg)(t:Ip.Ty)(a:Value):Prop:=(xL.map λp=>PySem.W.kitOne K (.ref p.2) a)=xL.map λp=>some (aZ G (.exc p.1 []) t)
def zI (hb:ml K G t cv)(hi:qB K iL G t cv)(hx:rO K xL G t cv):cg (cX K iL xL att) G t cv:=by
 unfold ml at hb;injection hb with h0 hb;injection hb with h1 hb;injection hb with h2 hb;injection hb with h3 hb;injection hb with h4 hb;injection hb with h5 hb;exact yR h0 h1 h2 h3 h4 h5 (λc C h=>G7.mp hi (c,C) (fA h)) λc C h=>G7.mp hx (c,C) (fA h)
def D3 (g:(T.wb == ("__debug__" : Str))=false)(e:mg T.wb=some (.ref b))(d:XInit K b)(j:XO K b [])(h:∀p∈xL,∃a,XO K p.2 a/\b∈p.2::a)(f:∀x c,T.bare.lookup x=some c->(x == ("__debug__" : Str))=false/\∃C a,mg x=some (.ref C)/\xL.lookup c=some C/\XC K C (.builtin "ValueError.__init__") a/\PySem.W.keepIn K (.ref C)=true):GT (cX K iL xL att) G T mg:=
 ⟨g,⟨b,[],e,d,j,λc k C l _ i _=>h (k,C) (fA i)⟩,f⟩
def FnAt (K:bh)(x a:Str)(st:Stmt)(f:Addr):Prop:=∃(h:Value) (e:aE) (kV c pm:Value) (i:aE) (b g:Value) (d:Array aA),
 K.lookup f=some ⟨h,e,.func (PySem.W.fnOf x a (aO st) (aS st) (bW st) .none kV c pm i b g),d⟩/\PySem.W.codeIn K b a=true
def FnAt.mk {x a:Str}{st:Stmt}{f:Addr}{h kV d pm b g:Value}{od i:aE}{e:Array aA}(l:K.lookup f=some ⟨h,od,.func (PySem.W.fnOf x a (aO st) (aS st) (bW st) .none kV d pm i b g),e⟩)(c:PySem.W.codeIn K b a=true):FnAt K x a st f:=
 ⟨h,od,kV,d,pm,i,b,g,e,l,c⟩
def FnAtD (K:bh)(x a:Str)(st:Stmt)(v:V)(f:Addr):Prop:=∃(i:Value) (h:aE) (t:Addr) (kV c pm:Value) (k:aE) (b j:Value) (d:Array aA) (u oct:Value) (g:aE) (n:Nat) (e:Array aA),
 K.lookup f=some ⟨i,h,.func (PySem.W.fnOf x a (aO st) (aS st) (bW st) (.ref t) kV c pm k b j),d⟩/\PySem.W.codeIn K b a=true/\K.lookup t=some ⟨oct,g,.seq #[u] n,e⟩/\RelV v u
def FnAtD.mk {x a:Str}{st:Stmt}{v:V}{f t:Addr}{i kV d pm b j u oct:Value}{od k h:aE}{e g:Array aA}{n:Nat}(l:K.lookup f=some ⟨i,od,.func (PySem.W.fnOf x a (aO st) (aS st) (bW st) (.ref t) kV d pm k b j),e⟩)(c:PySem.W.codeIn K b a=true)
  (lt:K.lookup t=some ⟨oct,h,.seq #[u] n,g⟩)(r:RelV v u):FnAtD K x a st v f:=⟨i,od,t,kV,d,pm,k,b,j,e,u,oct,h,n,g,l,c,lt,r⟩
def Au {K:bh}{iL xL:List (Nat×Addr)}{P:Program}{w:World}{n:Nat}{F:Fn}{f:Addr}{st:Stmt}{x:Str}(v:GF0 (cX K iL xL att) G T mg)(gt:GT (cX K iL xL att) G T mg)(h:(K.all λp=>!(p.2.cls == Value.type "list"))=true)(C:G.fn 69=some F)(j:F.io=[])(d:FnAt K "law" "law" st f)
  (S:FnScope (fk (aO st) (bW st)) [x] (bW st))(B:cF T [] st=some F)(k:F.np=1)(t:∀(kV a pm:Value) (g:aE) (b e:Value) (u:Value),bindArgs (PySem.W.fnOf "law" "law" (aO st) (aS st) (bW st) .none kV a pm g b e) ⟨[u],[]⟩=pure [(x,u)])
  (z:∀o:ak,o.length<=63->∃E,Ip.run G n 69 [(0,.lst (o.map D.int))]=.ret E (.bl true) []) :
  ∃q:FuncData,(∀(s:Shared) (u:Value),BindsTo s q ⟨[u],[]⟩ [(x,u)])/\∀base:Heap,K.In base->base.Ns mainGlobals mg->FnOk P w K mg base (dM P w) (rm n) f q [x] (gy K):=by
 obtain⟨A,r,kV,a,pm,g,b,e,i,l,c⟩:=d;refine⟨_,λs u=>.of_eq (t kV a pm g b e u),λbase _ _=>?_⟩;have y:FunD (cX K iL xL att).K "law" "law" st f (PySem.W.fnOf "law" "law" (aO st) (aS st) (bW st) .none kV a pm g b e):=⟨A,r,.none,kV,a,pm,g,b,e,i,rfl,l,c⟩
 exact (sU (n:=n) C (λm _=>FN v gt m) gt y S B k).imp (Aw (W:=cX K iL xL att) j h z)
def XO.mk'
  (h:K.lookup C=some (excClassObj nm q C N bs (tl.map Value.ref++bU) true sn sub ab col dd k0 k1 k2 k3 k5 "ValueError.__new__")):XO K C tl:=⟨nm,q,N,bs,sn,sub,ab,col,dd,k0,k1,k2,k3,k5,h⟩
end
end L2
namespace Hd
open PySem PySem.W PySem.Calls PyProof.Rows
theorem xJ a ok stp n s t:gV a ok stp (n+1) s t=(match a t with
  | true=>some s
  | false=>match ok t with
   | false=>none
   | true=>match stp s t with
    | some (c,b)=>gV a ok stp n c b
    | none=>none):=rfl
theorem td:∀(n:Nat) (s e:SharedT) (t:Thread),gV through (stepOk a b) (stepT (denote g) p w) n s t=some e->topRun g p w a b n s.abs t=some e.abs
 | 0,_,_,_,h=>by cases h
 | n+1,s,e,t,h=>by
  rw[xJ] at h;unfold topRun;cases f:through t with
  | true=>rw[f] at h; cases h; rfl
  | false=>
   rw[f] at h;cases i:stepOk a b t with
   | false=>rw[i] at h; cases h
   | true=>
    rw[i] at h;cases hs:stepT (denote g) p w s t with
    | none=>rw[hs] at h; cases h
    | some r=>obtain⟨d,c⟩:=r; rw[hs] at h; dsimp only; rw[stepT_spec hs]; exact td n d e c h
def xO {p q:Program}{a:ar}{g:Shared->Bool}{α:Type}{i:Shared->α}{j:World->α}{N m₀:Nat}{ann:aA}{T0:Params->BT}{life:Params->Life}
  (e:opening p=plainProg p.main.scope.names)(z:Nat.ble 600 N=true)(f:∀s,fenceModules? p s=some s)
  (b:∀w:World,((boot_heap w.params).isNs mainGlobals,(boot_heap w.params).objs.size,(boot_heap w.params).nsMap mainGlobals "__annotations__")=(true,m₀,ann))
  (c:∀P,absHeap (T0 P) m₀ (life P)=boot_heap P)
  (run:∀(w:World) (os:OsState),(gV through (stepOk m₀ ann) (stepT (denote treeTable) p w) N ⟨T0 w.params,m₀,life w.params,Array.mk [],boot_drawn,boot_toks,os⟩ (topStub p)).map
   (lookG (importedModules p.main.body) (staticsOk (importedModules p.main.body)) laidKept (namesBound p) (openSeen q a (importedModules p.main.body) g true) i (boot_heap w.params))=some (true,openGood q a,j w)) :
  LeftO p q a g i j N:=λw=>by
 obtain⟨⟨h,A,d,k,os⟩,E,m⟩:=cM (boot_open e z f w);obtain⟨rfl,rfl,rfl,rfl⟩:h=boot_heap w.params/\A=Array.mk []/\d=boot_drawn/\k=boot_toks:=by simpa using m
 obtain⟨B,y,v⟩:_/\_/\_:=by simpa only[Hj] using b w
 obtain⟨st,x,C⟩:=cM (run w os);have r:=td _ _ _ _ x;have u:SharedT.abs ⟨T0 w.params,m₀,life w.params,Array.mk [],boot_drawn,boot_toks,os⟩=⟨boot_heap w.params,Array.mk [],boot_drawn,boot_toks,os⟩:=by
  show Shared.mk _ _ _ _ _=_;rw[c]
 rw[u] at r;obtain⟨o,l,n⟩:_/\_/\_:=by simpa only[lookG,Hj] using C
 have t:topFrom treeTable p w N ⟨boot_heap w.params,Array.mk [],boot_drawn,boot_toks,os⟩=some st.abs:=by
  unfold topFrom;dsimp only;rw[B,y,v];show ((topRun treeTable p w m₀ ann N _ (topStub p)).bind _)=_;rw[r];show (match staticsOk (importedModules p.main.body) (boot_heap w.params) st.abs.heap&&namesBound p st.abs.heap&&gensDone st.abs&&laidKept (boot_heap w.params) st.abs.heap with | true=>_ | false=>_)=_;rw[o]
 unfold openEnds;rw[E];show (topFrom treeTable p w N _).map _=_;rw[t];exact congrArg some (Prod.ext l n)
end Hd
namespace Hd
open PySem PySem.Spec PySem.W PyProof.Rows L2
def BW {K:Frag}{f:Addr}{c:Value}{d:aE}{a:FuncData}{b:Array aA}(l:K.lookup f=some ⟨c,d,.func a,b⟩):jW K f=some ((a.name,a.qualname,a.params,a.body),a.scope,a.globals,a.closure,a.defaults,a.builtins,codeIn K a.code a.qualname):=by
 unfold jW; rw[l]
def sQ {K:Frag}(h:jW K f=some y):∃c d a b,K.lookup f=some ⟨c,d,.func a,b⟩/\((a.name,a.qualname,a.params,a.body),a.scope,a.globals,a.closure,a.defaults,a.builtins,codeIn K a.code a.qualname)=y:=by
 unfold jW at h;cases k:K.lookup f with
 | none=>rw[k] at h; cases h
 | some o=>
  rw[k] at h;obtain⟨_,_,g,_⟩:=o;cases g <;> first | exact⟨_,_,_,_,rfl,cm h⟩ | cases h
def uv {K:Frag}{f:Addr}{x a:Str}{st:Stmt}(h:jW K f=some ((x,a,aO st,.stmts (aS st)),bW st,mainGlobals,[],.none,builtinsNs,true)):FnAt K x a st f:=by
 obtain⟨_,_,g,_,k,h⟩:=sQ h;obtain⟨u,m,p,t,o,r,q,n,s,l,j,c,b,i,d⟩:=g;simp only[Hj] at h;obtain⟨⟨rfl,rfl,rfl,rfl⟩,rfl,rfl,rfl,rfl,rfl,e⟩:=h;exact .mk k e
def Fj {K:Frag}{f t:Addr}{x a:Str}{st:Stmt}{v:V}{u:Value}(h:jW K f=some ((x,a,aO st,.stmts (aS st)),bW st,mainGlobals,[],.ref t,builtinsNs,true))(b:iK K t=some [u])(r:RelV v u):FnAtD K x a st v f:=by
 obtain⟨_,_,k,_,d,h⟩:=sQ h;obtain⟨A,q,C,B,w,y,E,s,z,e,o,i,g,m,c⟩:=k;simp only[Hj] at h;obtain⟨⟨rfl,rfl,rfl,rfl⟩,rfl,rfl,rfl,rfl,rfl,j⟩:=h;unfold iK at b;cases k:K.lookup t with
 | none=>rw[k] at b; cases b
 | some o=>
  rw[k] at b;obtain⟨_,_,g,_⟩:=o;cases g <;> try (cases b; done)
  rename_i p _;obtain⟨l⟩:=p;obtain rfl:l=[u]:=cm b;exact .mk d j k r
def u7 {K:Frag}{C:Addr}{tl:al}(h:oJ K C=some (.type "type",.ref C::(tl.map Value.ref++bU),true,false,some (.builtin "ValueError.__new__"))):XO K C tl:=by
 unfold oJ at h;cases b:K.lookup C with
 | none=>rw[b] at h; cases h
 | some o=>
  rw[b] at h;obtain⟨_,_,f,⟨l⟩⟩:=o;cases f <;> try (cases h; done)
  rename_i f;rcases l with _ | ⟨_,_ | ⟨_,_ | ⟨_,_ | ⟨_,_ | ⟨_,_ | ⟨_,_ | _⟩⟩⟩⟩⟩⟩ <;> try (cases h; done)
  obtain⟨u,g,n,v,k,p,o,j,q,e,d⟩:=f;simp only[HF,Hj] at h;obtain⟨rfl,rfl,rfl,rfl,rfl⟩:=h;exact .mk' b
theorem uX h:∀as:al,(nE as h).In h
 | []=>λa o e=>by cases e
 | a::as=>λb o e=>by
  have c:=uX h as;unfold nE at e c;rw[List.filterMap_cons] at e;cases q:h.get? a with
  | none=>rw[q] at e; exact c b o e
  | some x=>
   rw[q] at e;by_cases f:b=a
   .subst f;have:some x=some o:=by simpa[List.lookup_cons] using e
    cases this;exact q
   .have:(List.filterMap (λa=>(h.get? a).map λo=>(a,o)) as).lookup b=some o:=by
     have d:(b == a)=false:=HH.mpr f;simpa[List.lookup_cons,d] using e
    exact c b o this
noncomputable def jG {α:Type}(as:al)(q:Frag->α)(v:α):Hook where
 α:=α
 obs:=λs=>q (nE as s.heap)
 val:=λ_=>v
 says:=λ_ h=>∃K:Frag,K.In h/\q K=v
 of:=λ_ s e=>⟨_,uX s.heap as,e⟩
 keeps:=λ_ _ _ ⟨K,a,b⟩ k=>⟨K,a.keeps k,b⟩
def Cu {l:OpenLaw}{n k:Nat}{q:Program}{loose:ar}{XP:(Str->aA)->Heap->Prop}{d:DefRec}{α:Type}{as:al}{M:Frag->α}{v:α}{CX:World->gG}{sp:World->Frag->Sp}{x:Str}
  (hn:l.most=some n)(z:n<=sizeLine)(B:d.params.defaults=[])(hr:Room k callerA)
  (F:∀(w:World) (K:Frag) (j:Str->aA) (t:Addr) (h:Heap),M K=v->K.In h->h.Ns mainGlobals j->j d.name=some (.ref t) ->
   ∃I:FuncData,(∀(s:Shared) (u:Value),BindsTo s I ⟨[u],[]⟩ [(x,u)]) /\
    ∀base:Heap,K.In base->base.Ns mainGlobals j->FnOk l.prog w K j base (CX w) k t I [x] (sp w K))
  (A:∀(w:World) (K:Frag) (H:Hp) (a:Addr) (r:ak),r.length<=n->iS H->SqL K H a (r.map V.int)->sp w K [.ref a] H (λv _=>v=.bl true) λ_ _ _=>False)
  (C:∀(w:World) (H:Hp) (s:Shared) (e:Value) (E:Shared),CX w [] H s (λ_ _ _=>False) e E->False) :
  WalkO q loose XP (Hook.says (jG as M v)) l.row.toRowW d [] (λf N=>PySem.call f N):=by
 refine Att.attach_call hn B λw L p j mb t o pm cd P a N r G Y ho hd a0 y m i c hg=>?_;obtain⟨K,J,U⟩:=Y;obtain⟨I,W,Z⟩:=F w K j t _ U J G.T.g y;exact tE J G.T.g G.T.b G.T.builtins G.T.nolimit hg m i (bC c z) hr Z W (λH X Q=>A w K H a r c X Q) λH e E=>C w H p e E
def Cn {α:Type}{p:α->Prop}{a:α}{l:List α}(h:p a)(t:∀b∈l,p b):∀b∈a::l,p b:=List.forall_mem_cons.mpr ⟨h,t⟩
def Nl {α:Type}{p:α->Prop}:∀b∈([]:List α),p b:=λ_ h=>nomatch h
section
variable {W:Wd}{T:Ip.Tb}{G:Ip.Pg}{F:Ip.Fn}{ps:ar}{io:aj}{d:Fd}{mg:Str->aA}{K:Frag}
noncomputable def uH (N ps:ar)(a:Scope):Bool:=a.kind == .function&&(a.isCoroutine == false&&(a.isGenerator == false&&(decide N.Nodup&&(N.take ps.length == ps&&(ps.all (λx=>a.names.lookup x == some .local||a.names.lookup x == some .cell)&&a.names.all λy=>y.2 != .free)))))
def se (h:uH N ps sc=true):FnScope N ps sc:=by
 simp only[uH,tw,GN,GS,List.all_eq_true,G6,bne_iff_ne] at h;obtain⟨a,i,c,f,g,e,b⟩:=h;exact⟨a,i,c,f,g,e,b⟩
def bV (h:qD W.K d=aD d)(hd:d.d=none:=by rfl)(S:FnScope (Ip.fk (aO d.st) (bW d.st)) ps (bW d.st):=by exact se (by kernel_rfl))(r:Ip.cF T io d.st=some F:=by kernel_rfl)(i:F.np=ps.length:=by rfl)(n:F.dfl=[]:=by rfl)
  (p:∀(kV a pm:Value) (j:aE) (b k:Value) (e:ao),e.length=ps.length->bindArgs (fnOf d.x d.q (aO d.st) (aS d.st) (bW d.st) .none kV a pm j b k) ⟨e,[]⟩=pure (ps.zip e):=by
   intro _ _ _ _ _ _ e g;first | (obtain⟨_,rfl⟩:=kS g; rfl) | (obtain⟨_,_,rfl⟩:=jQ g; rfl) | (obtain⟨_,_,_,rfl⟩:=mf g; rfl) | (obtain⟨_,_,_,_,rfl⟩:=pJ g; rfl)):DefAt W T F d.f:=by
 have m:=(IE h).1;rw[hd] at m;obtain⟨t,s,kV,a,pm,j,b,k,o,l,c⟩:=uv m;exact zq l c S r i n λe g=>p kV a pm j b k e g
def zi {t:Addr}{u:Value}{v:V}{dd:Ip.D}(h:qD W.K d=aD d)(hd:d.d=some (t,u))(S:FnScope (Ip.fk (aO d.st) (bW d.st)) ps (bW d.st))(E:Ip.cF T io d.st=some F)(o:F.np=ps.length)(y:F.dfl=[dd])(r:RelV v u)(A:∀S,Den W S v dd)
  (m:∀(kV a pm:Value) (i:aE) (b j:Value) {oct:Value} {g:aE} {n:Nat} {e:Array aA},W.K.lookup t=some ⟨oct,g,.seq #[u] n,e⟩->Binds W.K (fnOf d.x d.q (aO d.st) (aS d.st) (bW d.st) (.ref t) kV a pm i b j) ps [])
  (p:∀(kV a pm:Value) (i:aE) (b j:Value) {oct:Value} {g:aE} {n:Nat} {e:Array aA},W.K.lookup t=some ⟨oct,g,.seq #[u] n,e⟩->Binds W.K (fnOf d.x d.q (aO d.st) (aS d.st) (bW d.st) (.ref t) kV a pm i b j) ps [u]):DefAt W T F d.f:=by
 obtain⟨s,k⟩:=IE h;rw[hd] at s k;obtain⟨L,I,C,kV,a,pm,i,b,j,B,J,oct,g,n,e,l,c,lt,H⟩:=Fj (v:=v) s (cm k) r;obtain rfl:C=t:=by
  have z:=BW l;rw[s] at z;simp only[HF,Hj,mG,Value.ref.injEq] at z;exact z.2.2.2.2.1.symm
 have w:=k;simp only[Option.map_some,iK,lt,HF,Hr,and_true] at w;subst w;exact BF (d:=dd) (v:=v) l c S E o y r A (m kV a pm i b j lt) (p kV a pm i b j lt)
def nI (W:Wd)(T:Ip.Tb)(G:Ip.Pg)(d:Fd):Prop:=∃F,G.fn d.k=some F/\(qD W.K d=aD d->DefAt W T F d.f)
def ins_of (h:qI K a e=aI a e):nsIn K mainGlobals e.x=some (some (.ref e.C))/\InsC K e.C/\NoA K e.C a/\Mk K e.C e.d.f/\qD K e.d=aD e.d:=by
 simp only[qI,aI,Hj,Hr,and_true] at h;obtain⟨i,⟨b1,b2,b3,b4,b5,j⟩,⟨l,c,o,b⟩,⟨k,n⟩,g,m⟩:=h;exact⟨i,⟨⟨b1,b2,b3,l⟩,c,o,k,n⟩,g,⟨b4,b,b5,j⟩,m⟩
def um (h:qV K a x C=aV a C i fI)(f:isFn K fI=true\/fI=.builtin "ValueError.__init__"):nsIn K mainGlobals x=some (some (.ref C))/\XC K C fI i/\XI K C/\NoA K C a/\keepIn K (.ref C)=true:=by
 simp only[qV,aV,Hj,Hr,and_true] at h;obtain⟨k,j,b2,⟨n,e,p,b,m,c⟩,⟨l,o⟩,g⟩:=h;exact⟨k,⟨u7 j,n,f,e,p,b⟩,⟨m,c,l,o⟩,g,b2⟩
def AW (h:qT K iL xL cv=aT G iL xL t):cg (cX K iL xL att) G t cv:=
 zI (IE h).1 (IE (IE h).2).1 (IE (IE h).2).2
end
def En:∀p∈cy,bootBuiltins p.1=some p.2:=Cn rfl <| Cn rfl <| Cn rfl <| Cn rfl <| Cn rfl <| Cn rfl <| Cn rfl <| Cn rfl <| Cn rfl <| Cn rfl <| Cn rfl <| Cn rfl <| Cn rfl <| Cn rfl Nl
def Ak:∀p∈Ip.jS,p.1 ≠ "__name__" /\ (p.1 == ("__debug__" : Str))=false/\∃a,bootBuiltins p.1=some (.type a)/\(p.2,Value.type a)∈tyV:=
 Cn ⟨by decide +kernel,by decide +kernel,_,rfl,by simp[tyV]⟩ <| Cn ⟨by decide +kernel,by decide +kernel,_,rfl,by simp[tyV]⟩ <| Cn ⟨by decide +kernel,by decide +kernel,_,rfl,by simp[tyV]⟩ <| Cn ⟨by decide +kernel,by decide +kernel,_,rfl,by simp[tyV]⟩ <|
 Cn ⟨by decide +kernel,by decide +kernel,_,rfl,by simp[tyV]⟩ <| Cn ⟨by decide +kernel,by decide +kernel,_,rfl,by simp[tyV]⟩ <| Cn ⟨by decide +kernel,by decide +kernel,_,rfl,by simp[tyV]⟩ Nl
section
variable {T:Ip.Tb}{G:Ip.Pg}{mg:Str->aA}{K:Frag}{h:Heap}{B:Tl}{ns:ar}
def o8 {l:ar}(s:(l.all λx=>!(x == ("__debug__" : Str)))=true){x:Str}(a:x∈l):(x == ("__debug__" : Str))=false:=by
 have:=dU s x a;simpa using this
def yV {p:Str×Nat}(s:(B.nC.any (λe=>e.1 == p.1&&e.2.1 == p.2)||B.iC.any (λe=>e.x == p.1&&e.c == p.2)||B.xC.any (λe=>e.x == p.1&&e.c == p.2))=true) :
  (∃e∈B.nC,e.1=p.1/\e.2.1=p.2)\/(∃e∈B.iC,e.x=p.1/\e.c=p.2)\/∃e∈B.xC,e.x=p.1/\e.c=p.2:=by
 simp only[G6,Ii,tw,GN] at s;rcases s with (s | s) | s
 .exact .inl s
 .exact .inr (.inl s)
 .exact .inr (.inr s)
structure Ans (B:Tl)(ns:ar)(G:Ip.Pg)(K:Frag):Prop where
 f:∀d∈B.fL,nsIn K mainGlobals d.x=some (some (.ref d.f))/\keepIn K (.ref d.f)=true/\qD K d=aD d
 i:∀e∈B.iC,nsIn K mainGlobals e.x=some (some (.ref e.C))/\InsC K e.C/\NoA K e.C ns/\Mk K e.C e.d.f/\qD K e.d=aD e.d
 x:∀e∈B.xC,nsIn K mainGlobals e.x=some (some (.ref e.C))/\XC K e.C (.ref e.d.f) e.tl/\XI K e.C/\NoA K e.C ns/\keepIn K (.ref e.C)=true/\qD K e.d=aD e.d
 n:∀e∈B.nC,nsIn K mainGlobals e.1=some (some (.ref e.2.2))
 m:∀e∈B.mL,Meth K e.1 e.2.x e.2.f/\qD K e.2=aD e.2
 wi:XInit K B.wa
 wo:XO K B.wa []
 t:∀e∈B.ty,∀att,cg (cX K B.iL B.xL att) G e.1 e.2
 z:∀x∈zL,nsIn K mainGlobals x=some none
 c:∀c∈B.cL,nsIn K mainGlobals c.1=some (some (.int c.2.1 c.2.2))
 l:(K.all λp=>!(p.2.cls == Value.type "list"))=true
 v:∀e∈B.vC,nsIn K mainGlobals e.1=some (some (.ref e.2.2.1))/\XC K e.2.2.1 (.builtin "ValueError.__init__") e.2.2.2/\XI K e.2.2.1/\NoA K e.2.2.1 ns/\keepIn K (.ref e.2.2.1)=true
 u:∀c∈B.tL,nsIn K mainGlobals c.1=some (some (.ref c.2.1))/\iX K c.2.1=some (.type "tuple",true,some (c.2.2.map λs=>.str s.1 s.2))
def FL (e:B.q ns K=B.a ns G):Ans B ns G K:=by
 simp only[Tl.q,Tl.a,Hj] at e;obtain⟨p,r,C,z,n,⟨l,k,A,s⟩,t,H,w,j,f,g⟩:=e;refine⟨λd hd=>?_,λd hd=>ins_of (G7.mp r d hd),λd hd=>?_,λd hd=>G7.mp z d hd,λd hd=>?_,⟨l,k,A⟩,u7 s,λd hd m=>AW (G7.mp t d hd),λx o=>G7.mp H x o,λc i=>G7.mp w c i,j,λd hd=>um (G7.mp g d hd) (.inr rfl),λc i=>Hj .. ▸ G7.mp f c i⟩
 .have:=G7.mp p d hd;simpa only[Hj] using this
 .have:=G7.mp C d hd;simp only[Hj] at this;obtain⟨a,b,c⟩:=this;obtain⟨E,v,y,u,F⟩:=um a (.inl b);exact⟨E,v,y,u,F,c⟩
 .have:=G7.mp n d hd;simp only[Hj] at this;exact⟨⟨this.1,this.2.1,this.2.2.1⟩,this.2.2.2⟩
def F0 (l:List (Str×Nat)):(Ip.D.tup (l.map λs=>.str s.1)).flat=true:=by
 induction l with
 | nil=>rfl
 | cons x l a=>simpa using a
theorem wL:∀l:List (Str×Nat),Dens W S (l.map λs=>V.str s.1) (l.map λs=>Ip.D.str s.1)
 | []=>.nil
 | _::l=>.cons .str (wL l)
theorem ub:∀l:List (Str×Nat),Vals (l.map λs=>V.str s.1) (l.map λs=>Value.str s.1 s.2)
 | []=>.nil
 | _::l=>.cons ⟨_,rfl⟩ (ub l)
def yh {S:Hp}{a:Addr}{l:List (Str×Nat)}(h:iX K a=some (.type "tuple",true,some (l.map λs=>.str s.1 s.2)))(k:l.length<=6):SqT K S a (l.map λs=>V.str s.1):=by
 unfold iX at h;cases e:K.lookup a with
 | none=>rw[e] at h; cases h
 | some o=>
  rw[e] at h;simp only[Option.map_some,HF,Hj] at h;obtain⟨j,f,d⟩:=h;have hd:o.dict=none:=by
   cases i:o.dict with
   | none=>rfl
   | some x=>rw[i] at f; cases f
  cases b:o.data with
  | seq c n=>
   rw[b] at d;have g:c.toList=l.map λs=>Value.str s.1 s.2:=cm d;refine .inr ⟨o,c,n,e,j,hd,b,?_,by rw[g]; exact ub l⟩;have:c.size=l.length:=by rw[<-Array.length_toList,g,GH]
   rw[this];exact bC k (by decide)
  | _=>rw[b] at d; cases d
theorem B3 {cw:Nat}(I:List (Nat×Ip.Cl))(X:K.In h)(Gl:h.Ns mainGlobals mg)(A:Ans B (oM T.fl T.att) G K)(Y:∀c,G.cl c=I.lookup c)
  (s1:T.fns=B.fL.map λd=>(d.x,d.k))
  (s2:(T.cls.all λp=>B.nC.any (λe=>e.1 == p.1&&e.2.1 == p.2)||B.iC.any (λe=>e.x == p.1&&e.c == p.2)||B.xC.any (λe=>e.x == p.1&&e.c == p.2))=true)
  (N:((T.wb::(T.fns.map (·.1)++(T.cls.map (·.1)++T.cst.map (·.1)))).all λx=>!(x == ("__debug__" : Str)))=true)
  (s4:T.cst=B.cL.map (λc=>(c.1,Ip.D.int c.2.1))++B.tL.map λc=>(c.1,Ip.D.tup (c.2.2.map λs=>.str s.1)))(nd:T.att.Nodup)(s5:(B.tL.all λc=>decide (c.2.2.length<=6))=true)
  (a6:∀d∈B.fL,nI (cX K B.iL B.xL T.att) T G d)
  (okI:∀e∈B.iC,nI (cX K B.iL B.xL T.att) T G e.d/\B.iL.lookup e.c=some e.C/\∃Cl,G.cl e.c=some Cl/\Cl.init=some e.d.k/\Cl.isx=false)
  (a0:∀e∈B.xC,nI (cX K B.iL B.xL T.att) T G e.d/\B.xL.lookup e.c=some e.C/\∃Cl,G.cl e.c=some Cl/\Cl.init=some e.d.k/\Cl.isx=true)
  (okN:∀e∈B.nC,∃Cl,G.cl e.2.1=some Cl/\Cl.init=none)
  (Z:∀e∈B.mL,nI (cX K B.iL B.xL T.att) T G e.2)
  (sM:(I.all λp=>p.2.meths.isEmpty||(match B.iL.lookup p.1 with
   | some C=>p.2.meths.all λm=>B.mL.any λe=>e.1 == C&&(T.att[m.1]? == some e.2.x&&e.2.k == m.2)
   | none=>false))=true)
  (sW:(T.wb,cw,B.wa)∈B.nC)(sX:(B.xC.all λe=>(e.C::e.tl).contains B.wa)=true)(sB:T.bare=B.vC.map λe=>(e.1,e.2.1))(sV:(B.vC.all λe=>!(e.1 == ("__debug__" : Str))&&(B.xL.lookup e.2.1 == some e.2.2.1&&(e.2.2.1::e.2.2.2).contains B.wa))=true) :
  GF0 (cX K B.iL B.xL T.att) G T mg/\GT (cX K B.iL B.xL T.att) G T mg:=by
 have d1:∀p∈T.fns,(p.1 == ("__debug__" : Str))=false:=λp a=>o8 N (bK _ (ev _ (G4 a)));have d2:∀p∈T.cls,(p.1 == ("__debug__" : Str))=false:=λp a=>o8 N (bK _ (cx _ (ev _ (G4 a))));have d3:∀p∈T.cst,(p.1 == ("__debug__" : Str))=false:=λp a=>o8 N (bK _ (cx _ (cx _ (G4 a))));have d4:(T.wb == ("__debug__" : Str))=false:=o8 N bP;refine⟨Em ?cf rfl ?blt ?cst ?fns ?cls ?meth ?isB,D3 d4 (mg_of X Gl (A.n _ sW)) A.wi A.wo (λp a=>?_) λx c hx=>?_⟩
 case cf=>
  refine za nd (λp a=>?_) λp a=>?_
  .obtain⟨e,b,rfl⟩:=eJ a;exact⟨(A.i e b).2.1,(A.i e b).2.2.1⟩
  .rcases dL a with a | a <;> obtain⟨e,b,rfl⟩:=eJ a
   .obtain⟨_,g,j,E,_⟩:=A.x e b;exact⟨⟨⟨_,_,g⟩,j⟩,E⟩
   .obtain⟨_,g,j,E,_⟩:=A.v e b;exact⟨⟨⟨_,_,g⟩,j⟩,E⟩
 case blt=>exact λp a=>⟨mg_none_of X Gl (A.z _ (ev _ (G4 a))),En p a⟩
 case cst=>
  intro p a;have Q:=d3 p a;rw[s4] at a;rcases dL a with a | a
  .obtain⟨c,P,rfl⟩:=eJ a;exact⟨Q,_,.int c.2.1,mg_of X Gl (A.c c P),⟨_,rfl⟩,rfl,λ_=>.int⟩
  .obtain⟨c,P,rfl⟩:=eJ a;obtain⟨g,j⟩:=A.u c P;have hz:c.2.2.length<=6:=HY (dU s5 c P);exact⟨Q,_,.ref c.2.1,mg_of X Gl g,rfl,F0 _,λS=>.tup (yh j hz) (wL _)⟩
 case fns=>
  intro p a;have Q:=d1 p a;rw[s1] at a;obtain⟨d,hd,rfl⟩:=eJ a;obtain⟨F,f1,f2⟩:=a6 d hd;obtain⟨g,j,E⟩:=A.f d hd;exact⟨Q,F,d.f,f1,mg_of X Gl g,j,f2 E⟩
 case cls=>
  intro p a;refine⟨d2 p a,?_⟩;rcases yV (dU s2 p a) with ⟨e,b,w,o⟩ | ⟨e,b,w,o⟩ | ⟨e,b,w,o⟩
  .obtain⟨Cl,H,L⟩:=okN e b;refine⟨e.2.2,by rw[<-w]; exact mg_of X Gl (A.n e b),by rw[<-o]; exact A.t (.cls e.2.1,.ref e.2.2) (cx _ (ev _ (G4 (f:=λe:Str×Nat×Addr=>(Ip.Ty.cls e.2.1,Value.ref e.2.2)) b))) _,λl f F r y _=>?_⟩;rw[<-o,H] at r;cases r;rw[L] at y;cases y
  .obtain⟨⟨F',f1,f2⟩,li,Cl,H,L,U⟩:=okI e b;obtain⟨g,_,_,a4,J⟩:=A.i e b;refine⟨e.C,by rw[<-w]; exact mg_of X Gl g,by rw[<-o]; exact A.t (.cls e.c,.ref e.C) (cx _ (cx _ (ev _ (G4 (f:=λe:Ic=>(Ip.Ty.cls e.c,Value.ref e.C)) b)))) _,λl f F r y M=>?_⟩;rw[<-o,H] at r;cases r;rw[L] at y;cases y;rw[f1] at M;cases M;refine⟨e.d.f,f2 J,?_⟩;rw[U,<-o];exact⟨li,a4⟩
  .obtain⟨⟨F',f1,f2⟩,li,Cl,H,L,U⟩:=a0 e b;obtain⟨g,j,_,_,a4,J⟩:=A.x e b;refine⟨e.C,by rw[<-w]; exact mg_of X Gl g,by rw[<-o]; exact A.t (.cls e.c,.ref e.C) (cx _ (cx _ (cx _ (G4 (f:=λe:Xc=>(Ip.Ty.cls e.c,Value.ref e.C)) b)))) _,λl f F r y M=>?_⟩;rw[<-o,H] at r;cases r;rw[L] at y;cases y;rw[f1] at M;cases M;refine⟨e.d.f,f2 J,?_⟩;rw[U,<-o];exact⟨li,a4,_,j⟩
 case meth=>
  intro c l r hm;rw[Y] at r;have q:=dU sM (c,l) (fA r);have W:l.meths.isEmpty=false:=by cases hh:l.meths with | nil=>exact absurd hh hm | cons _ _=>rfl
  rw[W,JL] at q;cases hi:B.iL.lookup c with
  | none=>rw[hi] at q; cases q
  | some C=>
   rw[hi] at q;refine⟨C,hi,λp a=>?_⟩;obtain⟨e,b,w⟩:=Ii.mp (dU q p a);simp only[tw,GN] at w;obtain⟨rfl,o,q3⟩:=w;obtain⟨F,f1,f2⟩:=Z e b;obtain⟨g,j⟩:=A.m e b;exact⟨F,e.2.x,e.2.f,by rw[<-q3]; exact f1,o,g,f2 j⟩
 case isB=>
  intro p a;obtain⟨b1,b2,nm,b3,b4⟩:=Ak p a;exact⟨mg_none_of X Gl (A.z _ (cx _ (G4 a))),b1,b2,nm,b3,A.t (p.2,.type nm) (ev _ b4) _⟩
 .rcases dL a with a | a <;> obtain⟨e,b,rfl⟩:=eJ a
  .exact⟨e.tl,(A.x e b).2.1.toXO,by have:=dU sX e b; exact Ht.mp this⟩
  .exact⟨e.2.2.2,(A.v e b).2.1.toXO,Ht.mp (H0.mp (H0.mp (dU sV e b)).2).2⟩
 .rw[sB] at hx;obtain⟨e,b,q⟩:=eJ (L2.fA hx);cases q;have s:=dU sV e b;simp only[tw,GN] at s;obtain⟨g,j,_,_,J⟩:=A.v e b;exact⟨by simpa using s.1,_,_,mg_of X Gl g,s.2.1,j,J⟩
end
end Hd
namespace Ip
open PySem (Str)
def gO {α:Type}{e:α->D}{f:D->R az}{g:α->KD}{xs:List α}(h:∀x∈xs,f (e x)=.ok (some (g x))):aW f (xs.map e)=.ok (xs.map g):=by
 induction xs with
 | nil=>rfl
 | cons x xs b=>rw[GM,aW,h x HP,R.bind,b λy a=>h y (HV _ a)]; rfl
def DS {α:Type}{e:α->D}{f:D->R az}{p:α->Bool}{g:α->KD}{xs:List α}(h:∀x∈xs,f (e x)=.ok (if p x then some (g x) else none)):aW f (xs.map e)=.ok ((xs.filter p).map g):=by
 induction xs with
 | nil=>rfl
 | cons x xs a=>
  rw[GM,aW,h x HP,R.bind,a λy b=>h y (HV _ b)];by_cases q:p x=true
  .simp[q]
  .simp[q]
@[simp] theorem xV (p:α->Bool):∀a:List α,allB (a.map λx=>.bl (p x))=some (a.all p)
 | []=>rfl
 | x::a=>congrArg (Option.map (p x&&·)) (xV p a)
@[simp] theorem mN (p:α->Bool):∀xs:List α,anyB (xs.map λx=>.bl (p x))=some (xs.any p)
 | []=>rfl
 | x::xs=>congrArg (Option.map (p x||·)) (mN p xs)
@[simp] theorem tq:∀a:ak,dk (a.map .int)=some a
 | []=>rfl
 | x::a=>congrArg (Option.map (x::·)) (tq a)
@[simp] theorem Ee:∀a:ak,D.flats (a.map .int)=true
 | []=>by simp
 | x::a=>by simp[Ee a]
def De:(∀i j,D.eq (.int i) (.int j)=decide (i=j))/\(∀i j,D.eq (.str i) (.str j)=decide (i=j))/\(∀i j,D.eq (.lst i) (.lst j)=D.eqs i j)/\(∀i j,D.eq (.tup i) (.tup j)=D.eqs i j)/\D.eq .non .non=true/\(∀i,D.eq (.int i) .non=false)/\∀i,D.eq .non (.int i)=false:=by and_intros <;> intros <;> rfl
def Ds:D.eqs [] []=true/\(∀x a,D.eqs (x::a) []=false)/\(∀x a,D.eqs [] (x::a)=false)/\∀x y b a,D.eqs (x::b) (y::a)=(x.eq y&&D.eqs b a):=by and_intros <;> intros <;> rfl
@[simp] theorem Ft:∀b a:ak,D.eqs (b.map .int) (a.map .int)=decide (b=a)
 | [],[]=>by simp[Ds]
 | [],_::_=>by simp[Ds]
 | _::_,[]=>by simp[Ds]
 | x::b,y::a=>by simp[Ds,De,Ft b a]
def vM (h:∀x∈xs,x.2.flat=true):aY xs=98:=by
 have:xs.find? (λx=>!x.2.flat)=none:=by
  rw[List.find?_eq_none];intro x a;simp[h x a]
 rw[aY,this]
@[simp] theorem flat_int i:(D.int i).flat=true:=rfl
@[simp] theorem joinK_int k i xs:aY ((k,.int i)::xs)=aY xs:=n4 rfl
@[simp] theorem joinK_bl k i xs:aY ((k,.bl i)::xs)=aY xs:=n4 rfl
@[simp] theorem joinK_non k xs:aY ((k,.non)::xs)=aY xs:=n4 rfl
@[simp] theorem joinK_str k i xs:aY ((k,.str i)::xs)=aY xs:=n4 rfl
@[simp] theorem EY k i:D.fb k (.int i)=true:=by cases k <;> rfl
@[simp] theorem fb_bl k i:D.fb k (.bl i)=true:=by cases k <;> rfl
@[simp] theorem fb_non k:D.fb k .non=true:=by cases k <;> rfl
@[simp] theorem fb_str k i:D.fb k (.str i)=true:=by cases k <;> rfl
def zP (a:List α)(k:Nat):cutD a (some (k:Int)) none=a.drop k:=by
 dsimp only[cutD,dO];by_cases h:k<=a.length
 .skip
  simp only[if_pos (Int.natCast_nonneg k),Int.toNat_natCast,Nat.min_eq_left h];exact Jc (by simp)
 .have b:a.length<=k:=by omega
  simp[Nat.min_eq_right b,Je b]
@[simp] theorem wk_seq k x:dB .seq [(k,x)]=x.seq:=rfl
@[simp] theorem wk_enum k a:dB .enum [(k,.lst a)]=some (a.mapIdx λn d=>.tup [.int n,d]):=rfl
@[simp] theorem wk_zip k c a b:dB .zip [(k,.lst a),(c,.lst b)]=some ((a.zip b).map λp=>.tup [p.1,p.2]):=rfl
def wk_rng1 (h:p<=SL):dB .rng1 [(k,.int p)]=some ((List.range p).map λ(n:Nat)=>.int n):=by
 have a:p<=1000000:=h;have:cU (p:Int)=true:=eH.mpr (by omega);show (if cU (p:Int)=true then _ else none)=_;rw[if_pos this];rfl
def wk_rng2 (d : -1000000<=i/\i<=1000000)(c : -1000000<=j/\j<=1000000):dB .rng2 [(k,.int i),(k',.int j)]=some ((List.range (j - i).toNat).map λ(n:Nat)=>.int (i+n)):=by
 have a:cU i=true:=eH.mpr (by omega);have b:cU j=true:=eH.mpr (by omega);show (if cU i=true/\cU j=true then _ else none)=_;rw[if_pos ⟨a,b⟩]
def zG (h:0<n):fh n (-1)=some (n - 1):=by
 have a:¬(0:Int) <= -1:=by decide
 have b : -(n:Int) <= -1:=by omega
 simp only[fh,a,if_false,b,if_true];congr 1
 omega
theorem uE {body:D->Fr->O}{I:Fr->Prop}:∀{xs:ax} {A:Fr},I A->(∀x∈xs,∀A,I A->∃a,body x A=.nx a/\I a)->∃a,bH body xs A=.nx a/\I a
 | [],A,h,_=>⟨A,rfl,h⟩
 | x::xs,A,h,k=>by
  obtain⟨i,g,b⟩:=k x bP A h;obtain⟨f,d,c⟩:=uE (xs:=xs) b λy e=>k y (bK _ e);exact⟨f,by rw[bH,g]; exact d,c⟩
noncomputable abbrev o0 (d:D):az:=some (0,d)
def RelK:az->az->Prop
 | none,none=>True
 | some x,some y=>x.2=y.2/\y.1<=x.1
 | _,_=>False
inductive RelF:Fr->Fr->Prop
 | nil:RelF [] []
 | cons {x y:az} {A a:Fr} (h:RelK x y) (t:RelF A a):RelF (x::A) (y::a)
theorem RelK.refl:∀x:az,RelK x x
 | none=>trivial
 | some _=>⟨rfl,bA _⟩
theorem RelF.refl:∀A:Fr,RelF A A
 | []=>.nil
 | x::A=>.cons (.refl x) (.refl A)
theorem RelF.sl {A a:Fr}(h:RelF A a):A.sl=a.sl:=by
 induction h with
 | nil=>rfl
 | @cons x y A a h t b=>
  have:x.map (·.2)=y.map (·.2):=by
   cases x <;> cases y <;> first | rfl | exact h.elim | (dsimp only[Option.map]; exact congrArg some h.1)
  simp only[Fr.sl,GM] at b ⊢;rw[this,b]
def RelF.len {A a:Fr}(h:RelF A a):A.length=a.length:=by
 induction h with
 | nil=>rfl
 | cons _ _ b=>simp[b]
theorem RelF.set {A a:Fr}(h:RelF A a){x y:az}(k:RelK x y):∀i,RelF (A.set i x) (a.set i y):=by
 induction h with
 | nil=>intro i; exact .nil
 | cons q t b=>
  intro i;cases i with
  | zero=>exact .cons k t
  | succ i=>exact .cons q (b i)
def RelF.get {A a:Fr}(h:RelF A a):∀i:Nat,(A[i]? = none/\a[i]? = none)\/∃x y,A[i]? = some x/\a[i]? = some y/\RelK x y:=by
 induction h with
 | nil=>intro i; exact .inl ⟨rfl,rfl⟩
 | @cons x y _ _ q t b=>
  intro i;cases i with
  | zero=>exact .inr ⟨x,y,rfl,rfl,q⟩
  | succ i=>simpa using b i
theorem RelF.frz1 {A a:Fr}(h:RelF A a)(i:Nat):RelF (frz1 A i) (frz1 a i):=by
 dsimp only[Ip.frz1];rcases h.get i with ⟨c,b⟩ | ⟨x,y,c,b,q⟩
 .rw[c,b]; exact h
 .rw[c,b];cases x <;> cases y
  .exact h
  .exact q.elim
  .exact q.elim
  .next x y=>exact h.set (x:=some (0,x.2)) (y:=some (0,y.2)) ⟨q.1,bA _⟩ i
theorem RelF.frz {ns:aj}:∀{A a:Fr},RelF A a->RelF (frz ns A) (frz ns a):=by
 induction ns with
 | nil=>exact λh=>h
 | cons n ns b=>exact λh=>b (h.frz1 n)
theorem RelF.trans {A a b:Fr}(h:RelF A a)(k:RelF a b):RelF A b:=by
 induction h generalizing b with
 | nil=>exact k
 | @cons x y _ _ q t e=>
  cases k with
  | @cons _ z _ _ c d=>
   refine .cons ?_ (e d);cases x <;> cases y <;> cases z <;> first | trivial | exact q.elim | exact c.elim | exact⟨q.1.trans c.1,bC c.2 q.2⟩
def RelF.low1 (a:Fr)(i:Nat):RelF a (Ip.frz1 a i):=by
 dsimp only[Ip.frz1];cases e:a[i]? with
 | none=>exact .refl a
 | some x=>
  cases x with
  | none=>exact .refl a
  | some x=>
   have:a=a.set i (some x):=by
    refine (Ha λj=>?_);rw[HZ];by_cases b:i=j
    .subst b;have:=(di e).1;rw[e]; simp[this]
    .simp[b]
   conv=>lhs; rw[this]
   exact (RelF.refl a).set (x:=some x) (y:=some (0,x.2)) ⟨rfl,G3 _⟩ i
def RelF.low (b:aj):∀a:Fr,RelF a (Ip.frz b a):=by
 induction b with
 | nil=>exact .refl
 | cons n b c=>exact λa=>(RelF.low1 a n).trans (c _)
def RelF.lowA (a:Fr):RelF a (cN a):=by
 induction a with
 | nil=>exact .nil
 | cons x a b=>
  refine .cons ?_ b;cases x with
  | none=>trivial
  | some x=>exact⟨rfl,G3 _⟩
theorem RelF.zero:∀{A a:Fr},A.sl=a.sl->RelF A (cN a)
 | [],[],_=>.nil
 | [],y::a,h=>by simp[Fr.sl] at h
 | x::A,[],h=>by simp[Fr.sl] at h
 | x::A,y::a,h=>by
  simp only[Fr.sl,GM,Hr] at h;refine .cons ?_ (RelF.zero h.2);cases x <;> cases y <;> simp at h
  .trivial
  .exact⟨h.1,G3 _⟩
theorem RelF.settle {A a:Fr}(h:RelF A a)(b:aj)(x:KD):RelF (settle b A x) (Ip.frz b a):=by
 dsimp only[Ip.settle];split
 .exact h.trans (.low b a)
 .exact h.frz
def RelF.settleK {A a:Fr}(h:RelF A a)(b:aj){x:KD}(c:x.2.fb x.1=true):RelF (Ip.settle b A x) a:=by
 simp only[Ip.settle,c,if_true]; exact h
theorem RelF.excA {A a:Fr}(h:RelF A a)(b:List aH):RelF (Ip.excA A b) (cN a):=by
 dsimp only[Ip.excA];split
 .exact h.trans (.lowA a)
 .have:RelF (cN A) (cN a):=by
   induction h with
   | nil=>exact .nil
   | @cons x y _ _ q t c=>
    refine .cons ?_ c;cases x <;> cases y <;> first | trivial | exact q.elim | exact⟨q.1,bA _⟩
  exact this
section
variable (G:Pg)(f:Nat->aw->Run)(io:aj)
def Ou (a:Fr)(g:ay)(N:Fr->Prop)(V:D->Prop)(X:Nat->List aH->Fr->Prop):Prop:=∀A,RelF A a->match execs G f io A g with
 | .nx e=>∃b,RelF e b/\N b
 | .ret _ d _=>V d
 | .exc c h e=>∃b,RelF e b/\X c h b
 | _=>False
variable {G f io}{a:Fr}{g:ay}{N:Fr->Prop}{V:D->Prop}{X:Nat->List aH->Fr->Prop}
def Ou.nil (h:N a):Ou G f io a [] N V X:=λA r=>by
 dsimp only[w6]; exact⟨a,r,h⟩
def Ou.low {a':Fr}(l:RelF a a')(h:Ou G f io a' g N V X):Ou G f io a g N V X:=λA r=>h A (r.trans l)
def Ou.mono {N':Fr->Prop}{V':D->Prop}{X':Nat->List aH->Fr->Prop}(h:Ou G f io a g N V X)(n:∀a,N a->N' a)(r:∀d,V d->V' d)(x:∀c fs a,X c fs a->X' c fs a):Ou G f io a g N' V' X':=λA q=>by
 have:=h A q;revert this
 cases execs G f io A g with
 | nx A=>exact λ⟨a,i,e⟩=>⟨a,i,n a e⟩
 | ret k d A=>exact r d
 | exc c fs A=>exact λ⟨a,i,e⟩=>⟨a,i,x c fs a e⟩
 | _=>exact id
theorem Ou.step {s:S}(h:∀A,RelF A a->match exec G f io A s with
  | .nx e=>∃b,RelF e b/\Ou G f io b g N V X
  | .ret _ d _=>V d
  | .exc c i e=>∃b,RelF e b/\X c i b
  | _=>False):Ou G f io a (s::g) N V X:=λA r=>by
 have:=h A r;dsimp only[k6];revert this
 cases exec G f io A s with
 | nx e=>exact λ⟨b,l,j⟩=>j e l
 | ret k d A=>exact id
 | exc c i A=>exact id
 | _=>exact id
def okI {io:aj}{i n:Nat}(h:(!io.contains i&&Nat.blt i n)=true):io.contains i=false/\i<n:=by
 rw[tw] at h;exact⟨by simpa using h.1,Iy h.2⟩
def vN {io is:aj}{m n:Nat}(h:(m == is.length&&is.all λi=>!io.contains i&&Nat.blt i n)=true):m=is.length/\∀i∈is,io.contains i=false/\i<n:=by
 rw[tw,List.all_eq_true] at h;exact⟨by simpa using h.1,λi b=>okI (h.2 i b)⟩
theorem Ou.set {i:Nat}{e:Ex}{x:KD}(h:eval G f a.sl e=.ok x)(k:Ou G f io ((frz e.names a).set i (some (0,x.2))) g N V X)(b:(!io.contains i&&Nat.blt i a.length)=true:=by rfl):Ou G f io a (.set i e::g) N V X:=
 .step λA r=>by
  obtain⟨c,b⟩:=okI b;have l:(settle e.names A x).length=a.length:=by
   rw[<-r.len];have:=(r.settle e.names x).len;rw[this,<-(RelF.low e.names a).len,r.len]
  simp only[lC,r.sl,h,R.toO,cq,c,l,b,and_self,if_true];exact⟨_,(r.settle e.names x).set (x:=some x) (y:=some (0,x.2)) ⟨rfl,G3 _⟩ i,k⟩
def Ou.setE {i:Nat}{e:Ex}{d:D}(h:∃j,eval G f a.sl e=.ok (j,d))(k:Ou G f io ((frz e.names a).set i (some (0,d))) g N V X)(b:(!io.contains i&&Nat.blt i a.length)=true:=by rfl):Ou G f io a (.set i e::g) N V X:=by
 obtain⟨j,h⟩:=h;exact Ou.set h k b
def Ou.setK {i:Nat}{e:Ex}{x:KD}(h:eval G f a.sl e=.ok x)(d:x.2.fb x.1=true)(k:Ou G f io (a.set i (some x)) g N V X)(b:(!io.contains i&&Nat.blt i a.length)=true:=by rfl):Ou G f io a (.set i e::g) N V X:=
 .step λA r=>by
  obtain⟨c,b⟩:=okI b;have l:(settle e.names A x).length=a.length:=(r.settleK e.names d).len;simp only[lC,r.sl,h,R.toO,cq,c,l,b,and_self,if_true];exact⟨_,(r.settleK e.names d).set (.refl _) i,k⟩
theorem Ou.ex {e:Ex}{x:KD}(h:eval G f a.sl e=.ok x)(k:Ou G f io (frz e.names a) g N V X):Ou G f io a (.ex e::g) N V X:=
 .step λA r=>by
  simp only[oG,r.sl,h,R.toO];exact⟨_,r.settle e.names x,k⟩
def Ou.exX {e:Ex}{c:Nat}{fs:List aH}(h:eval G f a.sl e=.exc c fs)(k:X c fs (cN a)):Ou G f io a (.ex e::g) N V X:=
 .step λA r=>by
  simp only[oG,r.sl,h,R.toO];exact⟨_,r.excA fs,k⟩
theorem Ou.ret {e:Ex}{x:KD}(h:eval G f a.sl e=.ok x)(k:V x.2):Ou G f io a (.ret e::g) N V X:=
 .step λA r=>by
  rw[mW,r.sl,h];cases e with
  | var i=>
   rw[gc,<-r.sl] at h;rcases r.get i with ⟨b,d⟩ | ⟨c,j,b,d,q⟩
   .simp[Fr.sl,b] at h
   .cases c with
    | none=>simp[Fr.sl,b] at h
    | some c=>
     simp[Fr.sl,b] at h;subst h;rw[uc,b];exact k
  | _=>exact k
theorem Ou.iff {c:Ex}{t e:ay}{b:Bool}{j:Nat}(h:eval G f a.sl c=.ok (j,.bl b))(k:if b then Ou G f io a t (λd=>Ou G f io d g N V X) V X else Ou G f io a e (λd=>Ou G f io d g N V X) V X):Ou G f io a (.iff c t e::g) N V X:=
 .step λA r=>by
  simp only[uP,r.sl,h,R.bl,R.bind,R.toO];cases b with
  | true=>exact k A r
  | false=>exact k A r
def Ou.iffT {c:Ex}{t e:ay}{j:Nat}(h:eval G f a.sl c=.ok (j,.bl true))(k:Ou G f io a t (λa'=>Ou G f io a' g N V X) V X):Ou G f io a (.iff c t e::g) N V X:=.iff h k
def Ou.iffF {c:Ex}{t e:ay}{j:Nat}(h:eval G f a.sl c=.ok (j,.bl false))(k:Ou G f io a e (λb=>Ou G f io b g N V X) V X):Ou G f io a (.iff c t e::g) N V X:=.iff h k
def Ou.iffN {c:Ex}{t:ay}{j:Nat}(h:eval G f a.sl c=.ok (j,.bl false))(k:Ou G f io a g N V X):Ou G f io a (.iff c t []::g) N V X:=Ou.iffF h (Ou.nil k)
theorem Ou.rais {c b:Nat}{d:aF}{j:Nat}{fs:List aH}(h:eval G f a.sl (.make c d)=.ok (j+1,.exc b fs))(k:X b fs (cN a)):Ou G f io a (.rais c d::g) N V X:=
 .step λA r=>by
  simp only[wf,r.sl,h,R.toO,gi];refine⟨_,RelF.zero ?_,k⟩;rw[((r.settle (Ex.make c d).names (j+1,.exc b fs)).excA fs).sl,<-(RelF.lowA _).sl,<-(RelF.low _ a).sl]
theorem RelF.setFs {io:aj}:∀{is:aj} {ds:ax} {k:Nat} {A a:Fr},RelF A a->ds.length=is.length->(∀i∈is,io.contains i=false/\i<a.length)->∃b,setFs io is (ds.map λd=>(k,d)) A=.nx b/\RelF b (cP (λd=>(0,d)) is ds a)
 | [],[],_,A,a,r,_,_=>⟨A,rfl,r⟩
 | i::is,d::ds,k,A,a,r,n,h=>by
  have m:=h i bP;have c:i<A.length:=by rw[r.len]; exact m.2
  obtain⟨b,e,o⟩:=RelF.setFs (is:=is) (ds:=ds) (k:=k) (r.set (x:=some (k,d)) (y:=some (0,d)) ⟨rfl,G3 _⟩ i) (by simpa using n) λj l=>⟨(h j (bK _ l)).1,by simpa using (h j (bK _ l)).2⟩
  refine⟨b,?_,o⟩;simp only[GM,Ip.qx,cq,m.1,c,and_self,if_true,O.seq];exact e
theorem Ou.setT {is:aj}{e:Ex}{j:Nat}{ds:ax}(h:eval G f a.sl e=.ok (j,.tup ds))(k:Ou G f io (cP (λd=>(0,d)) is ds (frz e.names a)) g N V X)(b:(ds.length == is.length&&is.all λi=>!io.contains i&&Nat.blt i a.length)=true:=by rfl):Ou G f io a (.setT is e::g) N V X:=
 .step λA r=>by
  obtain⟨m,b⟩:=vN b;obtain⟨o,l,n⟩:=RelF.setFs (io:=io) (is:=is) (ds:=ds) (k:=0) (r.settle e.names (j,.tup ds)) m λi c=>⟨(b i c).1,by rw[<-(RelF.low e.names a).len]; exact (b i c).2⟩
  simp only[vk,r.sl,h,R.toO,gu,l];exact⟨_,n,k⟩
theorem Ou.raisV {c:Nat}(k:X c [] (cN a)):Ou G f io a (.raisV c::g) N V X:=
 .step λA r=>by
  dsimp only[ux];exact⟨_,r.excA [],k⟩
theorem Ou.fo {m:Tg}{q:Wk}{l:aF}{b:ay}{vs:aw}{xs:ax}(I:ax->Fr->Prop)(h:evals G f a.sl l=.ok vs)(z:dB q vs=some xs)(B:xs.length<=SL)(v:I xs (frz (Ex.namess l) a))
  (step:∀x r a',I (x::r) a'->∃j,(∀A,RelF A a'->∃i,bZ io m x A=.nx i/\RelF i j)/\Ou G f io j b (I r) V X)(k:∀a',I [] a'->Ou G f io a' g N V X):Ou G f io a (.fo m q l b::g) N V X:=
 .step λA r=>by
  simp only[ri,r.sl,h,R.toO,lu,z,B,if_true];have s:∀(xs:ax) (a':Fr),I xs a'->∀A,RelF A a'->match bH (fJ G f io m b) xs A with
    | .nx i=>∃a',RelF i a'/\Ou G f io a' g N V X
    | .ret _ d _=>V d
    | .exc c p i=>∃a',RelF i a'/\X c p a'
    | _=>False:=by
   intro xs;induction xs with
   | nil=>exact λa' n A r=>⟨a',r,k a' n⟩
   | cons x xs u=>
    intro a' n A r;obtain⟨j,F,y⟩:=step x xs a' n;obtain⟨i,e,C⟩:=F A r;have:=y i C;rw[bH,fJ,e];dsimp only[O.seq];revert this
    cases execs G f io i b with
    | nx o=>exact λ⟨w,t,E⟩=>u w E o t
    | ret k d o=>exact id
    | exc c p o=>exact id
    | _=>exact False.elim
  exact s xs _ v _ r.frz
def eI {i:Nat}{x:D}{a':Fr}(b:(!io.contains i&&Nat.blt i a'.length)=true):∀A,RelF A a'->∃d,bZ io (.one i) x A=.nx d/\RelF d (a'.set i (some (0,x))):=λA r=>by
 obtain⟨c,b⟩:=okI b;have:i<A.length:=by rw[r.len]; exact b
 simp only[bZ,cq,c,this,and_self,if_true];exact⟨_,rfl,r.set (.refl _) i⟩
def qK {is:aj}{c:ax}{e:Fr}(b:(c.length == is.length&&is.all λi=>!io.contains i&&Nat.blt i e.length)=true):∀A,RelF A e->∃h,bZ io (.many is) (.tup c) A=.nx h/\RelF h (cP (λd=>(0,d)) is c e):=λA r=>by
 obtain⟨j,b⟩:=vN b;dsimp only[bZ];exact RelF.setFs r j b
theorem Ou.tryE {b:ay}{c i x:Nat}(h:Ou G f io a b (λe=>Ou G f io e g N V X) V λm fs e=>aZ G (.exc m fs) (.cls c)=true/\io.contains x=false/\x<e.length/\io.contains i=false/\i≠x/\i<e.length/\Ou G f io ((e.set x (some (0,.exc m fs))).set i none) g N V X):Ou G f io a (.tryE b c i x::g) N V X:=
 .step λA r=>by
  have:=h A r;dsimp only[uz];revert this
  cases execs G f io A b with
  | nx j=>exact id
  | ret k d j=>exact id
  | exc m fs j=>
   rintro⟨e,n,p,w,t,s,q,u,v⟩;have l:x<j.length:=by rw[n.len]; exact t
   have o:i<(j.set x (some (0,.exc m fs))).length:=by rw[GX,n.len]; exact u
   simp only[iM,p,if_true,cq,w,l,and_self,O.seq,s,o,ne_eq,q,not_false_eq_true];exact⟨_,(n.set (.refl _) x).set (x:=none) (y:=none) trivial i,v⟩
  | _=>exact False.elim
end
theorem Ou.run {G:Pg}{n f:Nat}{F:Fn}{vs:aw}{V:D->Prop}(b:G.fn f=some F)(e:vs.length=F.np)(a:F.io=[])(h:Ou G (run G n) [] (bn F vs) F.body (λ_=>V .non) V λ_ _ _=>False):∃k d,Ip.run G (n+1) f vs=.ret k d []/\V d:=by
 rw[Ip.run,b];simp only[e,if_true,a];have:=h _ (.refl _);revert this
 cases execs G (Ip.run G n) [] (bn F vs) F.body with
 | nx A=>exact λ⟨_,_,h⟩=>⟨99,.non,rfl,h⟩
 | ret k d A=>exact λh=>⟨k,d,rfl,h⟩
 | exc c g A=>exact λ⟨_,_,h⟩=>h.elim
 | _=>exact False.elim
def Ou.runX {G:Pg}{n f:Nat}{F:Fn}{vs:aw}{X:Nat->List aH->Prop}(b:G.fn f=some F)(e:vs.length=F.np)(a:F.io=[])(h:Ou G (Ip.run G n) [] (bn F vs) F.body (λ_=>False) (λ_=>False) λc fs _=>X c fs):∃c fs,Ip.run G (n+1) f vs=.exc c fs []/\X c fs:=by
 rw[Ip.run,b];simp only[e,if_true,a];have:=h _ (.refl _);revert this
 cases execs G (Ip.run G n) [] (bn F vs) F.body with
 | nx A=>exact λ⟨_,_,h⟩=>h.elim
 | ret k d A=>exact False.elim
 | exc c fs A=>exact λ⟨_,_,h⟩=>⟨c,fs,rfl,h⟩
 | _=>exact False.elim
structure Pa (G:Pg):Prop where
 f0:G.fn 0=some kZ
 f1:G.fn 1=some iV
 f2:G.fn 2=some l6
 f4:G.fn 4=some lH
 f15:G.fn 15=some og
 f16:G.fn 16=some lG
 f17:G.fn 17=some gQ
 f18:G.fn 18=some lP
 f20:G.fn 20=some kH
 f21:G.fn 21=some ij
 c2:G.cl 2=some ⟨(some 4),[],[0],true⟩
 c17:G.cl 17=some ⟨(some 18),[(12,20),(13,21),(14,22)],[],false⟩
section
variable {G:Pg}(P:Pa G)
include P
noncomputable def isI:D->Bool
 | .int _=>true
 | _=>false
def sG n k d:run G (n+1) 0 [(k,d)]=.ret 99 (.bl (isI d)) []:=by
 rw[run,P.f0];cases d <;> simp[kZ,isI]
noncomputable def isB (b:Int):D->Bool
 | .int i=>decide (0<=i)&&decide (i<b)
 | _=>false
def oV n k a d b:run G (n+2) 1 [(k,d),(a,.int b)]=.ret 99 (.bl (isB b d)) []:=by
 rw[run,P.f1];cases d with
 | int i=>by_cases h:0<=i <;> simp[iV,P.f0,sG P,kZ,isI,isB,h]
 | _=>simp[iV,P.f0,sG P,kZ,isI,isB]
omit P in
noncomputable def dr (a:ak):Bool:=(a.zip (a.drop 1)).all λp=>decide (p.1<p.2)
def Gp n k a (f:a.length<=SL):run G (n+1) 15 [(k,.lst (a.map .int))]=.ret 99 (.bl (dr a)) []:=by
 rw[run,P.f15];have e:(a.map D.int).zip (a.map D.int).tail=(a.zip a.tail).map λp=>(.int p.1,.int p.2):=by
  rw[<-List.map_tail,List.zip_map]; rfl
 have c:cutD (a.map D.int) (some 1) none=(a.map D.int).drop 1:=zP _ 1;have b:a.length<=SL+1:=by omega
 simp[og,c,e,Jd,b];rw[gO (g:=λp:Int×Int=>(99,.bl (decide (p.1<p.2))))]
 .simp[Jd,Function.comp_def,dr]
 .intro x d;simp[compF]
noncomputable def cvs (a:ak):D:=.lst (a.map .int)
def FB n k f a b (d:a.length<=SL) :
  run G (n+3) 16 [(k,.lst (a.map .int)),(f,.int b)]=.ret 99 (.bl (decide (a≠[])&&(a.all λi=>decide (0<=i)&&decide (i<b))&&dr a)) []:=by
 rw[run,P.f16];have c:aW (compF G (run G (n+2)) [none,none,some (.int b)] (.one 1) [] (.call 1 [.var 1,.var 2])) (a.map .int)=.ok (a.map λi=>(99,.bl (decide (0<=i)&&decide (i<b)))):=
  gO λi _=>by simp[compF,P.f1,iV,oV P n,isB]
 have q:=Gp P (n+1) 0 a d;by_cases e:a=[]
 .subst e;simp[lG,De]
 .by_cases h:(a.all λi=>decide (0<=i)&&decide (i<b))=true
  .simp[lG,De,e,d,c,Function.comp_def,h,P.f15,og,q]
  .have g:(a.all λi=>decide (0<=i)&&decide (i<b))=false:=by simpa using h
   simp[lG,De,e,d,c,Function.comp_def,g]
noncomputable def wd (p:Int)(cs:ac):D:=.ins 17 [(9,.int p),(10,.lst (cs.map λc=>.tup (c.map .int)))]
noncomputable def aK (cs:ac):D:=.lst (cs.map λc=>.lst (c.map .int))
noncomputable def good (p:Int)(c:ak):Bool:=decide (c≠[])&&(c.all λi=>decide (0<=i)&&decide (i<p))&&dr c
def BY n k B p f (o:1<=p/\p<=6)(s:f.length<=6)(y:∀c∈f,good p c=true)(z:∀c∈f,c.length<=SL) :
  run G (n+4) 18 [(1,.ins 17 []),(k,.int p),(B,aK f)]=.ret 99 .non [(100,wd p f)]:=by
 rw[run,P.f18];have u:=sG P (n+2) 0 (.int p);have t:f.length<=SL:=bC s (by decide);have r:¬((6:Int)<f.length):=by omega
 have v:∃h,bH (fJ G (run G (n+3)) [0] (.many [3,4]) [.iff (.op .not [(.call 16 [(.var 4),(.var 1)])]) [.rais 2 [(.var 3)]] []]) ((f.map λc=>D.lst (c.map .int)).mapIdx λn d=>.tup [.int n,d])
   [some (1,.ins 17 []),some (0,.int p),some (0,aK f),none,none]=.nx h/\∃a b,h=[some (1,.ins 17 []),some (0,.int p),some (0,aK f),a,b]:=by
  refine uE (I:=λh=>∃a b,h=[some (1,.ins 17 []),some (0,.int p),some (0,aK f),a,b]) ⟨_,_,rfl⟩ ?_;rintro x m A ⟨a,b,w⟩;obtain⟨i,d,l,hd⟩:∃(i:Nat) (c:ak),c∈f/\x=.tup [.int i,.lst (c.map .int)]:=by
   rw[List.mem_mapIdx] at m;obtain⟨i,l,e⟩:=m;rw[List.getElem_map] at e;exact⟨i,_,G5 (by simpa using l),e.symm⟩
  subst w hd;have g:=y d l;rw[good] at g;have q:=FB P n 0 0 d p (z d l);rw[g] at q;refine⟨_,?_,some (0,.int i),some (0,.lst (d.map .int)),rfl⟩;simp[fJ,P.f16,lG,q]
 obtain⟨h,e,a,b,rfl⟩:=v;simp only[aK] at e;have c:aW (compF G (run G (n+3)) [none,none] (.one 1) [] (.op .tuple [.var 1])) (f.map λc=>D.lst (c.map .int))=.ok (f.map λc=>(0,.tup (c.map .int))):=
  gO λc _=>by simp[compF]
 have j:aY (f.map λc=>((0:Nat),D.tup (c.map .int)))=98:=vM λx m=>by
  obtain⟨c,_,rfl⟩:=eJ m;simp
 simp[lP,P.f0,kZ,u,isI,o.1,o.2,aK,t,r,e,c,j,wd,cJ,bg,Function.comp_def]
end
def tV {d:D}(h:d.scal=true):d.flat=true:=by cases d <;> simp at h ⊢
def CQ {d:D}(k:Nat)(h:d.scal=true):d.fb k=true:=by cases d <;> simp at h ⊢ <;> cases k <;> rfl
def wO k (h:b.all D.scal=true):D.fb k (.tup b)=true:=by
 have a:=dU h;cases k with
 | zero=>simp only[nN,o5,oS,List.all_eq_true]; exact λd hd=>tV (a d hd)
 | succ k=>simp only[nN,List.all_eq_true]; exact λd hd=>CQ k (a d hd)
def RelF.own {A a:Fr}(r:RelF A a){x k:Nat}{d:D}(h:a[x]? = some (some (k+1,d))):∃j,A[x]? = some (some (j+1,d)):=by
 rcases r.get x with ⟨_,b⟩ | ⟨y,z,i,b,q⟩
 .rw[b] at h; cases h
 .rw[b] at h;cases h;cases y with
  | none=>exact q.elim
  | some y=>
   obtain⟨j,l⟩:=y;obtain⟨e,g⟩:=q;have c:l=d:=e;have f:k+1<=j:=g;subst c;exact⟨j - 1,by rw[i]; congr 3; omega⟩
section
variable {G:Pg}{b:Nat->aw->Run}{io:aj}{a:Fr}{c:ay}{N:Fr->Prop}{V:D->Prop}{X:Nat->List aH->Fr->Prop}
theorem Ou.extend {x k j:Nat}{e:Ex}{xs ys:ax}(f:a[x]? = some (some (k+1,.lst xs)))(i:eval G b a.sl e=.ok (j,.tup ys))(hs:ys.all D.scal=true)(l:xs.length+ys.length<=SL)(h:Ou G b io (a.set x (some (1,.lst (xs++ys)))) c N V X) :
  Ou G b io a (.mut x [] .extend [e]::c) N V X:=
 .step λA r=>by
  obtain⟨n,d⟩:=r.own f;have m:cQ A[x]? = true:=by rw[d]; rfl
  have g:([(j,D.tup ys)]:aw).all (λv=>v.2.fb v.1)=true:=by simp only[List.all_cons,List.all_nil,JN]; exact wO j hs
  simp only[k8,if_true,de,bG,r.sl,i,R.bind,R.toO,eU,g,d,fe,uW,hs,l,and_self];exact⟨_,r.set (.refl _) x,h⟩
theorem Ou.put {x k j:Nat}{e i:Ex}{xs:ax}{v:KD}{n:Int}(d:a[x]? = some (some (k+1,.lst xs)))(g:eval G b a.sl e=.ok v)(o:v.2.fb v.1=true)(f:eval G b a.sl i=.ok (j,.int n))(l:0<=n/\n<xs.length)(h:Ou G b io (a.set x (some (1,.lst (xs.set n.toNat v.2)))) c N V X) :
  Ou G b io a (.put x [] i e::c) N V X:=
 .step λA r=>by
  obtain⟨p,m⟩:=r.own d;simp only[qA,List.isEmpty_nil,if_true,r.sl,g,f,R.toO,settle,o,m,iH,l,and_self];exact⟨_,r.set (.refl _) x,h⟩
theorem Ou.append (f:(frz e.names a)[x]? = some (some (k+1,.lst xs)))(m:eval G b a.sl e=.ok v)(l:xs.length<SL)(h:Ou G b io ((frz e.names a).set x (some (1,.lst (xs++[v.2])))) c N V X) :
  Ou G b io a (.mut x [] .append [e]::c) N V X:=
 .step λA r=>by
  obtain⟨p,o⟩:=(r.trans (.low e.names a)).own f;have n:cQ A[x]? = true:=by rw[o]; rfl
  have j:Ex.namess [e]=e.names:=by simp
  have d:RelF (if ([v]:aw).all (λv=>v.2.fb v.1)=true then A else frz (Ex.namess [e]) A) (frz e.names a):=by
   rw[j];split
   .exact r.trans (.low e.names a)
   .exact r.frz
  obtain⟨i,g⟩:=d.own f;simp only[k8,n,if_true,de,bG,r.sl,m,R.bind,R.toO,eU];generalize (if ([v]:aw).all (λv=>v.2.fb v.1)=true then A else frz (Ex.namess [e]) A)=A1 at d g;rw[g];simp only[fe,wu,l,if_true];exact⟨_,d.set (x:=some (cJ i xs v+1,.lst (xs++[v.2]))) (y:=some (1,.lst (xs++[v.2]))) ⟨rfl,by omega⟩ x,h⟩
end
end Ip
namespace Ip
def RelF.of_eq (h:a=b):RelF a b:=h ▸ .refl a
section
variable {G:Pg}{c:Nat->aw->Run}{io:aj}{a:Fr}{b:ay}{N:Fr->Prop}{V:D->Prop}{X:Nat->List aH->Fr->Prop}
theorem pr:∀(b d:ay) (A:Fr),execs G c io A (b++d)=(execs G c io A b).seq λA=>execs G c io A d
 | [],d,A=>by simp[O.seq]
 | s::b,d,A=>by
  rw[List.cons_append,k6,k6];cases exec G c io A s with
  | nx e=>simp only[O.seq]; exact pr b d e
  | _=>rfl
end
def Ou.runE {G:Pg}{n f:Nat}{F:Fn}{vs:aw}{init:ay}{e:Ex}{P:KD->Prop}(m:G.fn f=some F)(p:vs.length=F.np)(b:F.io=[])(g:F.body=init++[.ret e])(l:∀i,e≠.var i)
  (h:Ou G (Ip.run G n) [] (bn F vs) init (λa=>∃x,eval G (Ip.run G n) a.sl e=.ok x/\P x) (λ_=>False) λ_ _ _=>False):∃x:KD,Ip.run G (n+1) f vs=.ret x.1 x.2 []/\P x:=by
 rw[Ip.run,m];simp only[p,if_true,b];rw[g,pr];have:=h _ (.refl _);revert this
 cases execs G (Ip.run G n) [] (bn F vs) init with
 | nx A=>
  rintro⟨a,r,x,o,j⟩;refine⟨x,?_,j⟩;have q:eval G (Ip.run G n) A.sl e=.ok x:=by rw[r.sl]; exact o
  simp only[O.seq,k6,mW,q];cases e with
  | var i=>exact absurd rfl (l i)
  | _=>simp[fin]
 | ret k d A=>exact False.elim
 | exc c s A=>exact λ⟨_,_,h⟩=>h.elim
 | _=>exact False.elim
open PySem (Str)
noncomputable def bu (r:aj):D:=.tup (natL r)
noncomputable def bo (rows:af):D:=.tup (rows.map bu)
def h9 r:(natL r).all D.scal=true:=by simp[natL]
theorem rh:∀{ns:aj},(∀n∈ns,n<6)->dY (natL ns)=some ns
 | [],_=>rfl
 | n::ns,h=>by
  have d:=h n bP;have c:=rh (ns:=ns) λm a=>h m (bK _ a);have b:(0:Int)<=Int.ofNat n/\Int.ofNat n<6:=⟨Int.natCast_nonneg n,by simpa using (show (n:Int)<6 by omega)⟩
  show (if 0<=Int.ofNat n/\Int.ofNat n<6 then (dY (natL ns)).map _ else _)=_;rw[if_pos b,c];rfl
theorem k7 (g:Nat):∀a:aj,D.memb (.int g) (natL a)=decide (g∈a)
 | []=>rfl
 | n::a=>by
  have b:=k7 g a;have e:D.memb (.int g) (natL (n::a))=((D.int (Int.ofNat n)).eq (.int g)||D.memb (.int g) (natL a)):=rfl;rw[e,b];simp only[De];by_cases h:g=n
  .subst h; simp
  .have:¬(n:Int)=(g:Int):=by omega
   simp[this,h]
def oB (h:g<6):g∈bq ns↔g∈ns:=by
 simp[bq,h]
noncomputable def fR (c:ak)(g:Nat)(rows:af):af:=c.foldl (λa i=>a.set i.toNat (a.getD i.toNat []++[g])) rows
def uS k r:D.fb k (bu r)=true:=wO k (h9 r)
def mz r:(bu r).flat=true:=uS 0 r
def wI {a:af}{i:Int}(h:0<=i/\i<a.length):aR (.lst (a.map bu)) (.int i)=some (0,bu (a.getD i.toNat [])):=by
 have b:i.toNat<a.length:=by omega
 simp[aR,fh,h.1,h.2,b]
def AH {r:aj}{g:Nat}(h:r.length<=1000):gL (bu r) (.tup [.int g])=some (0,bu (r++[g])):=by
 have:(natL r).length+[D.int g].length<=SL:=by
  have:1001<=SL:=by decide
  simp[natL];omega
 dsimp only[bu,gL];rw[if_pos this];simp[natL]
structure Pv (G:Pg):Prop where
 a:Pa G
 f24:G.fn 24=some je
 f25:G.fn 25=some pi
 f26:G.fn 26=some iB
 f27:G.fn 27=some jA
section
variable {G:Pg}(P:Pa G)
include P
omit P in
theorem jt p a:iz 10 (wd p a)=some (0,.lst (a.map λc=>.tup (c.map .int))):=rfl
def wZ p a:bX G 12 0 (wd p a)=some (20,kH):=by
 simp[bX,wd,P.c17,P.f20,kH,List.lookup]
def ph p cs:bX G 13 1 (wd p cs)=some (21,ij):=by
 simp[bX,wd,P.c17,P.f21,ij,List.lookup]
def wG n k p a:run G (n+1) 20 [(k,wd p a)]=.ret 99 (.int a.length) []:=by
 rw[run,P.f20];simp[kH,jt]
def mZ n k a p cs d (h:isB cs.length d=true):run G (n+4) 17 [(k,wd p cs),(a,d)]=.ret 99 .non []:=by
 rw[run,P.f17];have q:=oV P (n+1) 0 99 d cs.length;have b:=wG P (n+2) 0 p cs;rw[h] at q;simp[gQ,P.f1,iV,wZ P,kH,b,q]
def lX (n k b:Nat)(p:Int) cs (j:Nat) c (h:cs[j]? = some c):run G (n+5) 21 [(k,wd p cs),(b,.int j)]=.ret 1 (.lst (c.map .int)) []:=by
 rw[run,P.f21];have a:j<cs.length:=(di h).1;have d:isB cs.length (.int j)=true:=by simp[isB,a]
 have q:=mZ P n 0 0 p cs (.int j) d;have e:cs[j]=c:=(di h).2;simp[ij,P.f17,gQ,q,jt,fh,a,e]
end
section
variable {G:Pg}(P:Pv G)
include P
def xr n k rows (o:rows.length<=6)(q:rows.flatten.length<=1000)(m:∀g∈rows.flatten,g<6):run G (n+1) 24 [(k,bo rows)]=.ret 1 (.lst (natL (bq rows.flatten))) []:=by
 have hs:rows.length<=SL:=bC o (by decide);obtain⟨x,e,rfl⟩:=Ou.runE (G:=G) (n:=n) (f:=24) (F:=je) (vs:=[(k,bo rows)]) (init:=je.body.dropLast) (e:=.op .srtSet [(.var 1)]) (P:=λx=>x=(1,.lst (natL (bq rows.flatten)))) P.f24 rfl rfl rfl (λ_ h=>nomatch h) (by
  show Ou G (run G n) [] [some (0,bo rows),none,none] _ _ _ _;refine Ou.setK (x:=(99,.lst [])) rfl rfl ?_;refine Ou.low (a':=[some (0,bo rows),some (1,.lst []),none]) (.cons (.refl _) (.cons ⟨rfl,by decide⟩ (.cons trivial .nil))) ?_;refine Ou.fo (λr a=>∃(x:az) (c:aj) (b:af),a=[some (0,bo rows),some (1,.lst (natL c)),x]/\r=b.map bu/\c++b.flatten=rows.flatten) (vs:=[(0,bo rows)]) (xs:=rows.map bu) rfl rfl (by simpa using hs) ?_ ?_ ?_
  .exact⟨none,[],rows,by simp[natL],rfl,rfl⟩
  .rintro x r a ⟨y,c,b,l,i,d⟩;cases b with
   | nil=>simp at i
   | cons s b=>
    simp only[GM,Hr] at i;obtain⟨rfl,rfl⟩:=i;subst l;refine⟨_,eI rfl,?_⟩;refine Ou.extend (k:=0) (j:=0) (xs:=natL c) (ys:=natL s) rfl rfl (h9 s) ?_ ?_
    .have p:rows.flatten.length=c.length+(s.length+b.flatten.length):=by rw[<-d]; simp
     have:1000<=SL:=by decide
     simp only[natL,GH];omega
    .exact Ou.nil ⟨some (0,bu s),c++s,b,by simp[natL],rfl,by simpa using d⟩
  .rintro a ⟨y,c,b,l,i,d⟩;have:b=[]:=by simpa using i.symm
   subst this l;simp only[List.flatten_nil,Hz] at d;rw[<-d] at m ⊢;exact Ou.nil ⟨(1,.lst (natL (bq c))),by simp[rh m],rfl⟩)
 exact e
def Go (n k k' k'':Nat)(p:Nat) cs rows (g:Nat) c (hc:cs[g]? = some c)(hpl:∀i∈c,0<=i/\i<rows.length)(h6:rows.length<=6)(hl:c.length<=6)(hf:rows.flatten.length<=900)(hg6:∀g∈rows.flatten,g<6)(hg:g<6)(hn:g∉rows.flatten) :
  ∃j,run G (n+6) 25 [(k,wd p cs),(k',bo rows),(k'',.int g)]=.ret j (bo (fR c g rows)) []:=by
 have hgl:g<cs.length:=(di hc).1;have hb:isB cs.length (.int g)=true:=by simp[isB,hgl]
 have q1:=mZ P.a (n+1) 0 0 p cs (.int g) hb;have q2:=xr P (n+4) 0 rows h6 (by omega) hg6;have q3:=lX P.a n 0 0 p cs g c hc;have hm:D.memb (.int g) (natL (bq rows.flatten))=false:=by rw[k7]; simp[oB hg,hn]
 have hsc:=h9 (bq rows.flatten);have hS:c.length<=SL:=bC hl (by decide);have hrow:∀r∈rows,r.length<=900:=λr hr=>by
  have:=(List.sublist_flatten_of_mem hr).length_le;omega
 have key:Ou G (run G (n+5)) [] [some (0,wd p cs),some (0,bo rows),some (0,.int g),none,none] pi.body (λ_=>False) (λd=>d=bo (fR c g rows)) λ_ _ _=>False:=by
  refine Ou.ex (x:=(99,.non)) (by simp[P.a.f17,gQ,q1]) ?_;refine Ou.iffN (j:=99) (by
   dsimp only[Fr.sl,cK,bG,de,gc,ii];simp[-List.all_eq_true,P.f24,je,q2,hm,hsc]) ?_
  refine Ou.setK (x:=(1,.lst (rows.map bu))) rfl (by simp[mz]) ?_;refine Ou.fo (λr a=>∃(x:az) (rs:af) (suf:ak),a=[some (0,wd p cs),some (0,bo rows),some (0,.int g),some (1,.lst (rs.map bu)),x]/\r=suf.map .int/\suf.foldl (λrs i=>rs.set i.toNat (rs.getD i.toNat []++[g])) rs=fR c g rows/\rs.length=rows.length/\(∀i∈suf,0<=i/\i<rows.length)/\(∀r∈rs,r.length+suf.length<=906)) (vs:=[(1,.lst (c.map .int))]) (xs:=c.map .int) (by simp[ph P.a,ij,q3]) rfl (by simpa using hS) ?_ ?_ ?_
  .exact⟨none,rows,c,by simp,rfl,rfl,rfl,hpl,λr hr=>by have:=hrow r hr; omega⟩
  .rintro x r a ⟨y,rs,suf,ha,hr,he,hlen,hi,hB⟩;cases suf with
   | nil=>simp at hr
   | cons s suf=>
    simp only[GM,Hr] at hr;obtain⟨rfl,rfl⟩:=hr;subst ha;have hs:0<=s/\s<rs.length:=by rw[hlen]; exact hi s bP
    have hs':s.toNat<rs.length:=by omega
    have hmem:rs.getD s.toNat []∈rs:=by
     rw[GP,GJ hs']; exact G5 hs'
    have hBs:=hB _ hmem;dsimp only[List.length_cons] at hBs;refine⟨_,eI rfl,?_⟩;have ad:=AH (r:=rs.getD s.toNat []) (g:=g) (by omega);have ix:=wI hs;dsimp only[List.foldl_cons] at he;generalize rs.getD s.toNat []=row at ad ix hBs he;refine Ou.put (k:=0) (j:=0) (xs:=rs.map bu) (v:=(0,bu (row++[g]))) (n:=s) rfl ?_ (mz _) rfl (by simpa using hs) ?_
    .simp[-gL,-aR,ix,ad]
    .refine Ou.nil ⟨some (0,.int s),rs.set s.toNat (row++[g]),suf,by simp[Ju],rfl,?_,by simpa using hlen,λi h=>hi i (bK _ h),?_⟩
     .exact he
     .intro r hr;rcases List.mem_or_eq_of_mem_set hr with h | h
      .have:=hB r h;dsimp only[List.length_cons] at this;omega
      .subst h;simp;omega
  .rintro a ⟨y,rs,suf,ha,hr,he,_⟩;have:suf=[]:=by simpa using hr.symm
   subst this ha;dsimp only[List.foldl_nil] at he;subst he;exact Ou.ret (x:=(0,bo (fR c g rows))) rfl rfl
 obtain⟨j,d,e,rfl⟩:=Ou.run (n:=n+5) (vs:=[(k,wd p cs),(k',bo rows),(k'',.int g)]) (V:=λd=>d=bo (fR c g rows)) P.f25 rfl rfl (key.mono (λ_ h=>h.elim) (λ_ h=>h) λ_ _ _ h=>h);exact⟨j,e⟩
end
noncomputable def bO (f:aj->aj)(c:ak)(rows:af):af:=c.foldl (λa i=>a.set i.toNat (f (a.getD i.toNat []))) rows
theorem F9 c g rows:fR c g rows=bO (λr=>r++[g]) c rows:=rfl
theorem pZ f:∀(c:ak) (rows:af),c.Nodup->(∀i∈c,0<=i/\i<rows.length)->∀j:Nat,(bO f c rows)[j]? = rows[j]?.map λr=>if (j:Int)∈c then f r else r
 | [],rows,_,_,j=>by simp[bO]
 | i::c,rows,h,b,j=>by
  obtain⟨n,l⟩:=G2.mp h;have m:=b i bP;have k:=pZ f c (rows.set i.toNat (f (rows.getD i.toNat []))) l (λx g=>by simpa using b x (bK _ g)) j;show (bO f c (rows.set i.toNat (f (rows.getD i.toNat []))))[j]? = _;rw[k,HZ];by_cases e:i.toNat=j
  .have a:i=(j:Int):=by omega
   have d:j<rows.length:=by omega
   subst a;simp[d,n]
  .have a:¬(j:Int)=i:=by omega
   simp[e,a]
def FQ (a:c.Nodup)(b:∀i∈c,0<=i/\i<rows.length):bO f c rows=rows.mapIdx λj r=>if (j:Int)∈c then f r else r:=by
 refine Ha λj=>?_;rw[pZ f c rows a b j,Hk]
def zB (xs:List α):cutD xs none (some (-1))=xs.dropLast:=by
 rw[List.dropLast_eq_take];simp only[cutD,dO];simp;congr 1
 omega
def lK r:(natL r).length=r.length:=by simp[natL]
def BK r:(natL r).dropLast=natL r.dropLast:=by simp[natL]
theorem vI:∀{c:ak},c.Pairwise (· < ·)->dr c=true
 | [],_=>rfl
 | [x],_=>rfl
 | x::y::r,h=>by
  have b:=vI (List.Pairwise.tail h);have a:x<y:=by cases h with | cons h _=>exact h y bP
  unfold dr at b ⊢;simp at b ⊢;exact⟨a,b⟩
structure OkC (p:Nat)(c:ak):Prop where
 gd:good p c=true
 ne:c≠[]
 rg:∀i∈c,0<=i/\i<p
 nd:c.Nodup
 ln:c.length<=6
def D2 (u:p<=6)(g:ns.Pairwise (· < ·))(e:∀n∈ns,n<p)(f:ns≠[]):OkC p (ns.map λ(n:Nat)=>(n:Int)):=by
 have j:(ns.map λ(n:Nat)=>(n:Int)).Pairwise (· < ·):=List.Pairwise.map _ (λa b h=>by simpa using h) g;have k:∀i∈ns.map λ(n:Nat)=>(n:Int),0<=i/\i<p:=λi m=>by
  obtain⟨n,c,rfl⟩:=eJ m;have:=e n c;omega
 have ne:ns.map (λ(n:Nat)=>(n:Int))≠[]:=by simpa using f
 have q:∀(ns:aj) (lo:Nat),ns.Pairwise (· < ·)->(∀n∈ns,lo<=n/\n<p)->lo+ns.length<=p\/ns=[]:=by
  intro ns;induction ns with
  | nil=>intro _ _ _; exact .inr rfl
  | cons x r o=>
   intro lo d l;obtain⟨s,t⟩:=Iu.mp d;have v:=l x bP;rcases o (x+1) t (λn c=>⟨s n c,(l n (bK _ c)).2⟩) with h | h
   .simp only[List.length_cons]; omega
   .subst h; simp; omega
 refine⟨?_,ne,k,j.imp λh=>by omega,?_⟩
 .simp only[good,tw,GS,List.all_eq_true];exact⟨⟨ne,k⟩,vI j⟩
 .rcases q ns 0 g (λn c=>⟨G3 _,e n c⟩) with h | h
  .simp; omega
  .exact absurd h f
noncomputable def cC (p:Nat):Int:=([1,3,7,15,31,63]:ak).getD (p - 1) 1
noncomputable def fc (v:Int)(p:Nat):aj:=(List.range p).filter λn=>decide (v / (([1,2,4,8,16,32]:ak).getD n 1) % 2=1)
def xF:∀p:Fin 7,∀v:Fin 64,1<=p.1->1<=v.1->(v.1:Int)<=cC p.1->fc (v.1:Int) p.1≠[]:=by decide +kernel
def xz:∀p:Fin 7,cC p.1<=63:=by decide +kernel
def FK (c:1<=p/\p<=6)(a:1<=v/\v<=cC p):fc v p≠[]:=by
 have b:=xz ⟨p,by omega⟩;obtain⟨u,rfl⟩:∃u:Nat,v=(u:Int):=⟨v.toNat,by omega⟩
 exact xF ⟨p,by omega⟩ ⟨u,by dsimp only at b; omega⟩ c.1 (by dsimp only; omega) a.2
def xb (h:i<6):∃y:Int,([1,2,4,8,16,32]:ak).getD i 1=y/\0<y/\y<1000000000000000000000000000000000000000000000000000000000000/\aR (.lst [.int 1,.int 2,.int 4,.int 8,.int 16,.int 32]) (.int (i:Nat))=some (0,.int y):=by
 have a:i=0\/i=1\/i=2\/i=3\/i=4\/i=5:=by omega
 rcases a with rfl | rfl | rfl | rfl | rfl | rfl <;> exact⟨_,rfl,by decide,by decide,rfl⟩
def CC (a:1<=p/\p<=6)(b:1<=v/\v<=cC p):OkC p ((fc v p).map λ(n:Nat)=>(n:Int)):=by
 refine D2 a.2 (List.pairwise_lt_range.filter _) (λn c=>?_) (FK a b);exact Hh.mp (G1.mp c).1
def Aa {p:Nat}(b:1<=p/\p<=6):aR (.lst [.int 1,.int 3,.int 7,.int 15,.int 31,.int 63]) (.int ((p:Int) - 1))=some (0,.int (cC p)):=by
 have a:p=1\/p=2\/p=3\/p=4\/p=5\/p=6:=by omega
 rcases a with rfl | rfl | rfl | rfl | rfl | rfl <;> simp[aR,fh,cC]
def EE p:0<cC p:=by
 unfold cC;by_cases h:p - 1<6
 .have a:p - 1=0\/p - 1=1\/p - 1=2\/p - 1=3\/p - 1=4\/p - 1=5:=by omega
  rcases a with e | e | e | e | e | e <;> rw[e] <;> decide
 .have:([1,3,7,15,31,63]:ak)[p - 1]? = none:=GR (by simpa using by omega);simp[this]
end Ip
namespace Ip
noncomputable def aM (cs:ac)(g:Nat):ak:=cs.getD g []
noncomputable def bF (cs:ac)(j:Nat)(a:aj):aj:=a.filter λg=>decide ((j:Int)∈aM cs g)
def ro a j A B:bF a j (A++B)=bF a j A++bF a j B:=by simp[bF]
def sh a j g B:bF a j (g::B)=if (j:Int)∈aM a g then g::bF a j B else bF a j B:=by
 unfold bF;rw[List.filter_cons];by_cases h:(j:Int)∈aM a g <;> simp[h]
noncomputable def aJ (cs:ac)(p:Nat)(a:aj):af:=(List.range p).map λj=>bF cs j a
def ik cs p a:(aJ cs p a).length=p:=by simp[aJ]
structure Cv (p:Nat)(cs:ac):Prop where
 p1:1<=p
 p6:p<=6
 m6:cs.length<=6
 ne:∀g,g<cs.length->aM cs g≠[]
 rg:∀g,∀i∈aM cs g,0<=i/\i<p
 nd:∀g,(aM cs g).Nodup
 ln:∀g,(aM cs g).length<=6
structure Wn (cs:ac)(gs:aj):Prop where
 nd:gs.Nodup
 lt:∀g∈gs,g<cs.length
def qQ {a:aj}{m:Nat}(c:a.Nodup)(b:∀g∈a,g<m):a.length<=m:=by
 induction m generalizing a with
 | zero=>
  cases a with
  | nil=>exact bA _
  | cons x r=>exact absurd (b x bP) (by omega)
 | succ m d=>
  have:=d (c.erase m) λx e=>by
   have:=(c.mem_erase_iff).mp e;have:=b x this.2;omega
  rw[List.length_erase] at this;split at this <;> omega
def Wn.len (C:Cv p a)(w:Wn a b):b.length<=6:=bC (qQ w.nd w.lt) C.m6
def oW (h:g∈(aJ cs p gs).flatten):g∈gs:=by
 obtain⟨r,a,b⟩:=Hs.mp h;obtain⟨j,_,rfl⟩:=eJ a;exact (G1.mp b).1
def vT (C:Cv p a)(w:Wn a b)(h:g∈b):g∈(aJ a p b).flatten:=by
 cases e:aM a g with
 | nil=>exact absurd e (C.ne g (w.lt g h))
 | cons i c=>
  have d:i∈aM a g:=by rw[e]; exact bP
  have f:=C.rg g i d;refine Hs.mpr ⟨bF a i.toNat b,List.mem_map.mpr ⟨i.toNat,Hh.mpr (by omega),rfl⟩,G1.mpr ⟨h,GZ ?_⟩⟩;rw[Int.toNat_of_nonneg f.1]; exact d
def yx:∀p:Nat,(aJ b p a).flatten.length<=p * a.length:=λp=>by
 have:∀l:aj,(l.map λj=>bF b j a).flatten.length<=l.length * a.length:=by
  intro l;induction l with
  | nil=>simp
  | cons x l d=>
   have c:(bF b x a).length<=a.length:=Jj _ _;rw[GM,List.flatten_cons,GQ,List.length_cons,Nat.add_mul,Nat.one_mul];omega
 simpa[aJ] using this (List.range p)
def Wn.fl (C:Cv p a)(w:Wn a b):(aJ a p b).flatten.length<=36:=
 bC (yx p) (Nat.mul_le_mul C.p6 (w.len C))
def Wn.f6 (C:Cv p a)(w:Wn a b):∀g∈(aJ a p b).flatten,g<6:=λg h=>by
 have:=w.lt g (oW h);have:=C.m6;omega
def Wn.srt (C:Cv p cs)(w:Wn cs gs):bq (aJ cs p gs).flatten=bq gs:=by
 unfold bq;refine List.filter_congr λg _=>?_;rw[Jq];simp only[Ht];exact⟨oW,vT C w⟩
def Wn.mS (C:Cv p cs)(w:Wn cs gs) g:g∈bq gs↔g∈gs:=by
 constructor
 .intro h; simpa using (G1.mp h).2
 .intro h;have:=w.lt g h;have:=C.m6;exact (oB (by omega)).mpr h
def pC (C:Cv p cs)(h1:∀j:Nat,(j:Int)∈aM cs g->f (bF cs j gs)=bF cs j gs')(h2:∀j:Nat,(j:Int)∉aM cs g->bF cs j gs=bF cs j gs'):bO f (aM cs g) (aJ cs p gs)=aJ cs p gs':=by
 rw[FQ (C.nd g) λi d=>by rw[ik]; exact C.rg g i d];refine Ha λj=>?_;rw[Hk];unfold aJ;rw[GK,GK];by_cases e:j<p
 .rw[IK e];dsimp only[Option.map_some];by_cases h:(j:Int)∈aM cs g
  .rw[if_pos h,h1 j h]
  .rw[if_neg h,h2 j h]
 .rw[GR (by simp; omega)];rfl
def ui (C:Cv p cs):fR (aM cs g) g (aJ cs p gs)=aJ cs p (gs++[g]):=by
 rw[F9];refine pC C (λj b=>?_) λj b=>?_
 .rw[ro,sh,if_pos b]; rfl
 .rw[ro,sh,if_neg b]; exact (Hz _).symm
noncomputable def gA (l:aj)(g:Nat):aj:=(l.drop (l.idxOf g+1)).take 1
noncomputable def dS (cs:ac)(a:aj)(g:Nat)(i:Int):aj:=gA (bF cs i.toNat a) g
noncomputable def dQ (cs:ac)(a:aj)(g:Nat):aj:=((aM cs g).map (dS cs a g)).flatten
def Ef (h:x∈dS cs gs g i):x∈gs:=(G1.mp (List.mem_of_mem_drop (List.mem_of_mem_take h))).1
def qH (h:x∈dQ cs gs g):x∈gs:=by
 obtain⟨l,a,b⟩:=Hs.mp h;obtain⟨i,_,rfl⟩:=eJ a;exact Ef b
def w8 cs a g i:(dS cs a g i).length<=1:=by unfold dS gA; simp; omega
def r9 {g:Nat}{A B:aj}(h:g∉A):(A++g::B).idxOf g=A.length:=by
 rw[List.idxOf_append,if_neg h,List.idxOf_cons_self,Nat.zero_add]
def wE {g:Nat}{A B:aj}(h:g∉A):gA (A++g::B) g=B.take 1:=by
 unfold gA;rw[r9 h];have:A++g::B=(A++[g])++B:=by simp
 rw[this,show A.length+1=(A++[g]).length by simp,List.drop_left]
def tH {cs:ac}{gs:aj}{g j:Nat}(w:gs.Nodup)(hg:g∈gs)(ho:dQ cs gs g=[])(hj:(j:Int)∈aM cs g):∃r,bF cs j gs=r++[g]/\g∉r:=by
 have d:g∈bF cs j gs:=G1.mpr ⟨hg,GZ hj⟩;obtain⟨A,B,e⟩:=List.append_of_mem d;have h:(bF cs j gs).Nodup:=w.filter _;rw[e] at h;have i:g∉A:=λz=>(GU.mp h).2.2 g z g (by simp) rfl;have c:dS cs gs g (j:Int)=[]:=by
  have:=List.flatten_eq_nil_iff.mp ho (dS cs gs g (j:Int)) (List.mem_map.mpr ⟨_,hj,rfl⟩);exact this
 unfold dS at c;rw[Int.toNat_natCast,e,wE i] at c;cases B with
 | nil=>exact⟨A,e,i⟩
 | cons b B=>cases c
def yK (f:∀i∈aM cs g,0<=i)(w:a.Nodup)(h:∀j:Nat,(j:Int)∈aM cs g->∃r,bF cs j a=r++[g]):dQ cs a g=[]:=by
 refine List.flatten_eq_nil_iff.mpr λl d=>?_;obtain⟨i,b,rfl⟩:=eJ d;have k:=f i b;obtain⟨j,rfl⟩:∃j:Nat,i=(j:Int):=⟨i.toNat,by omega⟩
 obtain⟨r,e⟩:=h j b;unfold dS;rw[Int.toNat_natCast,e];have c:(bF cs j a).Nodup:=w.filter _;rw[e] at c;exact wE λz=>(GU.mp c).2.2 g z g (by simp) rfl
noncomputable def fS (g:Nat)(a:aj):aj:=a.filter λx=>decide (x≠g)
def AA (C:Cv p cs)(w:gs.Nodup)(hg:g∈gs)(ho:dQ cs gs g=[]):bO List.dropLast (aM cs g) (aJ cs p gs)=aJ cs p (fS g gs):=by
 have sw:∀j,bF cs j (fS g gs)=(bF cs j gs).filter λx=>decide (x≠g):=λj=>by unfold bF fS; rw[IS,IS]; congr 1; funext x; rw[Bool.and_comm]
 refine pC C (λj d=>?_) λj d=>?_
 .obtain⟨r,e,i⟩:=tH w hg ho d;rw[sw,e,List.dropLast_concat,List.filter_append];have f1:r.filter (λx=>decide (x≠g))=r:=HJ.mpr λx f=>GZ λe=>i (e ▸ f);rw[f1]; simp
 .rw[sw];refine (HJ.mpr λx f=>?_).symm;have c:(j:Int)∈aM cs x:=HY (G1.mp f).2;have:x≠g:=λe=>d (e ▸ c);simpa using this
def mj (xs:List α) a (h:a<=xs.length):cutD xs (some (a:Int)) (some ((a:Int)+1))=(xs.drop a).take 1:=by
 have b:dO xs.length 0 (some (a:Int))=a:=by
  dsimp only[dO]; rw[if_pos (by omega)]; omega
 have c:dO xs.length xs.length (some ((a:Int)+1))=min (a+1) xs.length:=by
  dsimp only[dO]; rw[if_pos (by omega)]; omega
 unfold cutD;rw[b,c];by_cases e:a=xs.length
 .subst e; simp
 .rw[show min (a+1) xs.length - a=1 by omega]
theorem pd:∀{os:aj},g∈os->D.find (.int g) (natL os)=some (os.idxOf g)
 | [],h=>by cases h
 | x::os,h=>by
  have b:D.find (.int g) (natL (x::os))=if (D.int (Int.ofNat x)).eq (.int g) then some 0 else (D.find (.int g) (natL os)).map (·+1):=by
   unfold D.find natL;rw[GM,Ir]
  rw[b];by_cases a:x=g
  .subst a;simp[De]
  .have d:¬(x:Int)=(g:Int):=by omega
   have f:=pd (os:=os) ((ck h).resolve_left λe=>a e.symm);have c:(x == g)=false:=HH.mpr a;rw[f,List.idxOf_cons,c];simp[De,d]
def FY {cs:ac}{p j:Nat}{O:aj}(h:j<p):aR (bo (aJ cs p O)) (.int (j:Nat))=some (0,bu (bF cs j O)):=by
 have a:(j:Int)<p:=by omega
 simp[bo,aR,fh,aJ,a,h]
def Cv.at (h:g<cs.length):cs[g]? = some (aM cs g):=by simp[aM,h]
def vJ (C:Cv p a)(w:Wn a b):bq (dQ a b g)=[]↔dQ a b g=[]:=by
 constructor
 .intro h;cases e:dQ a b g with
  | nil=>rfl
  | cons x l=>
   have c:x∈dQ a b g:=by rw[e]; exact bP
   have:=w.lt x (qH c);have:=(oB (show x<6 by have:=C.m6; omega)).mpr c;rw[h] at this; cases this
 .intro h; rw[h]; rfl
structure P5 (G:Pg):Prop where
 v:Pv G
 f7:G.fn 7=some ly
 c0:G.cl 0=some ⟨none,[],[],true⟩
 c5:G.cl 5=some ⟨(some 7),[],[0],true⟩
section
variable {G:Pg}(P:P5 G)
include P
def su n k p cs a (C:Cv p cs)(w:Wn cs a):run G (n+1) 24 [(k,bo (aJ cs p a))]=.ret 1 (.lst (natL (bq a))) []:=by
 have:=xr P.v n k (aJ cs p a) (by rw[ik]; exact C.p6) (by have:=w.fl C; omega) (w.f6 C);rw[w.srt C] at this;exact this
def AN n k c a p cs b g (C:Cv p cs)(w:Wn cs b)(f:g<cs.length)(d:g∉b):∃j,run G (n+6) 25 [(k,wd p cs),(c,bo (aJ cs p b)),(a,.int g)]=.ret j (bo (aJ cs p (b++[g]))) []:=by
 have e:=w.fl C;have:=Go P.v n k c a p cs (aJ cs p b) g (aM cs g) (Cv.at f) (λi h=>by rw[ik]; exact C.rg g i h) (by rw[ik]; exact C.p6) (C.ln g) (by omega) (w.f6 C) (by have:=C.m6; omega) λz=>d (oW z);rw[ui C] at this;exact this
def tM n k k' k'' p cs gs g (C:Cv p cs)(w:Wn cs gs)(hg:g∈gs):run G (n+6) 26 [(k,wd p cs),(k',bo (aJ cs p gs)),(k'',.int g)]=.ret 1 (.lst (natL (bq (dQ cs gs g)))) []:=by
 have t:=w.lt g hg;have hb:isB cs.length (.int g)=true:=by simp[isB,t]
 have q1:=mZ P.v.a (n+1) 0 0 p cs (.int g) hb;have q2:=su P (n+4) 0 p cs gs C w;have U:=lX P.v.a n 0 0 p cs g _ (Cv.at t);have hm:D.memb (.int g) (natL (bq gs))=true:=by rw[k7]; simp[w.mS C g,hg]
 have M:=h9 (bq gs);have Z:(aM cs g).length<=SL:=bC (C.ln g) (by decide);have X:100<=SL:=by decide
 have u:=C.rg g;have I:=C.ln g;have T:∀x∈dQ cs gs g,x<6:=λx hx=>by
  have:=w.lt x (qH hx);have:=C.m6;omega
 unfold dQ at T ⊢;have a1:∀i∈aM cs g,i∈aM cs g:=λi h=>h;generalize hC:aM cs g=c at U Z T u I;obtain⟨x,e,rfl⟩:=Ou.runE (G:=G) (n:=n+5) (f:=26) (F:=iB) (vs:=[(k,wd p cs),(k',bo (aJ cs p gs)),(k'',.int g)]) (init:=iB.body.dropLast) (e:=.op .srtSet [(.var 3)]) (P:=λx=>x=(1,.lst (natL (bq (c.map (dS cs gs g)).flatten)))) P.v.f26 rfl rfl rfl (λ_ h=>nomatch h) (by
  show Ou G (run G (n+5)) [] [some (0,wd p cs),some (0,bo (aJ cs p gs)),some (0,.int g),none,none,none,none] _ _ _ _;refine Ou.ex (x:=(99,.non)) (by simp[P.v.a.f17,gQ,q1]) ?_;refine Ou.iffN (j:=99) (by
   simp only[Fr.sl,cK,bG,de,gc,ii];simp[-List.all_eq_true,P.v.f24,je,q2,hm,M]) ?_
  refine Ou.setK (x:=(99,.lst [])) rfl rfl ?_;refine Ou.low (a':=[some (0,wd p cs),some (0,bo (aJ cs p gs)),some (0,.int g),some (1,.lst (natL [])),none,none,none]) (.cons (.refl _) (.cons (.refl _) (.cons (.refl _) (.cons ⟨rfl,by decide⟩ (.cons trivial (.cons trivial (.cons trivial .nil))))))) ?_;refine Ou.fo (λr a=>∃(L H N:az) (pre d:ak),a=[some (0,wd p cs),some (0,bo (aJ cs p gs)),some (0,.int g),some (1,.lst (natL (pre.map (dS cs gs g)).flatten)),L,H,N]/\r=d.map .int/\pre++d=c) (vs:=[(1,.lst (c.map .int))]) (xs:=c.map .int) (by simp[ph P.v.a,ij,U]) rfl (by simpa using Z) ⟨none,none,none,[],c,by simp,rfl,rfl⟩ ?_ ?_
  .rintro x r a ⟨L,H,N,pre,d,Q,y,o⟩;cases d with
   | nil=>simp at y
   | cons s d=>
    simp only[GM,Hr] at y;obtain⟨rfl,rfl⟩:=y;subst Q;have hs:s∈c:=by rw[<-o]; simp
    have rg:=u s hs;obtain⟨j,rfl⟩:∃j:Nat,s=(j:Int):=⟨s.toNat,by omega⟩
    have ix:=FY (cs:=cs) (O:=gs) (show j<p by omega);have q:g∈bF cs j gs:=G1.mpr ⟨hg,GZ (by rw[hC]; exact hs)⟩;have sc:=h9 (bF cs j gs);have m:cV (bu (bF cs j gs)) (.int g)=some (99,.int ((bF cs j gs).idxOf g:Nat)):=by
     rw[bu,wc,pd q];simp[-List.all_eq_true,sc]
    have a2:=List.idxOf_lt_length_of_mem q;have eo:dS cs gs g (j:Int)=((bF cs j gs).drop ((bF cs j gs).idxOf g+1)).take 1:=by unfold dS gA; rw[Int.toNat_natCast]
    have A:bJ (some (((bF cs j gs).idxOf g:Int)+1)) (some (((bF cs j gs).idxOf g:Int)+1+1)) (bu (bF cs j gs))=some (0,.tup (natL (dS cs gs g (j:Int)))):=by
     have:=mj (natL (bF cs j gs)) ((bF cs j gs).idxOf g+1) (by rw[lK]; omega);simp only[Int.natCast_add,Int.natCast_one] at this;simp only[bu,bJ,this,eo];simp[natL,IN,IP]
    have B:=w8 cs gs g (j:Int);have a0:(pre.map (dS cs gs g)).flatten.length<=6:=by
     have h1:∀l:ak,(l.map (dS cs gs g)).flatten.length<=l.length:=by
      intro l;induction l with
      | nil=>simp
      | cons x l ih=>
       have:=w8 cs gs g x;rw[GM,List.flatten_cons,GQ,List.length_cons];omega
     have:=h1 pre;have:=congrArg List.length o;simp at this;omega
    generalize bu (bF cs j gs)=row at ix m A;generalize (bF cs j gs).idxOf g=Y at m A;generalize hO:dS cs gs g (j:Int)=oo at A B;have J:=h9 oo;refine⟨_,eI rfl,?_⟩;refine Ou.set (x:=(0,row)) (by simp[-aR,ix]) ?_;refine Ou.set (x:=(99,.int ((Y:Int)+1))) (by simp[m]) ?_;refine Ou.extend (k:=0) (j:=0) (xs:=natL (pre.map (dS cs gs g)).flatten) (ys:=natL oo) rfl (by simp[-bJ,A]) J (by rw[lK,lK]; omega) ?_;exact Ou.nil ⟨some (0,.int (j:Nat)),some (0,row),some (0,.int ((Y:Int)+1)),pre++[(j:Int)],d,by simp[natL,hO],rfl,by simpa using o⟩
  .rintro a ⟨L,H,N,pre,d,Q,y,o⟩;have:d=[]:=by simpa using y.symm
   subst this Q;rw[Hz] at o;subst o;exact Ou.nil ⟨(1,.lst (natL (bq (pre.map (dS cs gs g)).flatten))),by simp[rh T],rfl⟩)
 exact e
def BU n k I u p cs m g (C:Cv p cs)(w:Wn cs m)(B:g∈m)(J:dQ cs m g=[]):∃j,run G (n+7) 27 [(k,wd p cs),(I,bo (aJ cs p m)),(u,.int g)]=.ret j (bo (aJ cs p (fS g m))) []:=by
 have A:=tM P n 0 0 0 p cs m g C w B;rw[J] at A;have N:natL (bq [])=[]:=rfl;rw[N] at A;have H:=lX P.v.a (n+1) 0 0 p cs g _ (Cv.at (w.lt g B));have L:(aM cs g).length<=SL:=bC (C.ln g) (by decide);rw[<-AA C w.nd B J];have q:∀i∈aM cs g,0<=i/\i<(aJ cs p m).length:=λi z=>by rw[ik]; exact C.rg g i z
 generalize aJ cs p m=rows at A q;generalize aM cs g=c at H L q;have key:Ou G (run G (n+6)) [] [some (0,wd p cs),some (0,bo rows),some (0,.int g),none,none,none] jA.body (λ_=>False) (λd=>d=bo (bO List.dropLast c rows)) λ_ _ _=>False:=by
  refine Ou.set (x:=(1,.lst [])) (by simp[P.v.f26,iB,A]) ?_;refine Ou.iffN (j:=99) rfl ?_;refine Ou.setK (x:=(1,.lst (rows.map bu))) (by simp[bo]) (by simp[mz]) ?_;refine Ou.fo (λr a=>∃(x:az) (f:af) (b:ak),a=[some (0,wd p cs),some (0,bo rows),some (0,.int g),some (0,.lst []),some (1,.lst (f.map bu)),x]/\r=b.map .int/\bO List.dropLast b f=bO List.dropLast c rows/\f.length=rows.length/\(∀i∈b,0<=i/\i<rows.length)) (vs:=[(1,.lst (c.map .int))]) (xs:=c.map .int) (by simp[ph P.v.a,ij,H]) rfl (by simpa using L) ?_ ?_ ?_
  .exact⟨none,rows,c,by simp,rfl,rfl,rfl,q⟩
  .rintro x r a ⟨y,f,b,F,t,E,o,z⟩;cases b with
   | nil=>simp at t
   | cons s b=>
    simp only[GM,Hr] at t;obtain⟨rfl,rfl⟩:=t;subst F;have hs:0<=s/\s<f.length:=by rw[o]; exact z s bP
    refine⟨_,eI rfl,?_⟩;have ix:=wI hs;have l:bO List.dropLast b (f.set s.toNat (f.getD s.toNat []).dropLast)=bO List.dropLast c rows:=E;generalize f.getD s.toNat []=row at ix l;have M:bJ none (some (-1)) (bu row)=some (0,bu row.dropLast):=by
     simp only[bu,bJ,zB,BK]
    refine Ou.put (k:=0) (j:=0) (xs:=f.map bu) (v:=(0,bu row.dropLast)) (n:=s) rfl ?_ (mz _) rfl (by simpa using hs) ?_
    .simp[-bJ,-aR,ix,M]
    .exact Ou.nil ⟨some (0,.int s),f.set s.toNat row.dropLast,b,by simp[Ju],rfl,l,by simpa using o,λi h=>z i (bK _ h)⟩
  .rintro a ⟨y,f,b,F,t,E,_⟩;have:b=[]:=by simpa using t.symm
   subst this F;have l:f=bO List.dropLast c rows:=E;subst l;exact Ou.ret (x:=(0,bo (bO List.dropLast c rows))) (by simp[bo]) rfl
 obtain⟨j,d,e,rfl⟩:=Ou.run (n:=n+6) (vs:=[(k,wd p cs),(I,bo rows),(u,.int g)]) (V:=λd=>d=bo (bO List.dropLast c rows)) P.v.f27 rfl rfl (key.mono (λ_ h=>h.elim) (λ_ h=>h) λ_ _ _ h=>h);exact⟨j,e⟩
def Ax:br G 5 2=some (7,ly,.exc 5 []):=by
 simp[br,P.c5,P.f7,ly]
def D7 n k c a b:run G (n+1) 7 [(1,.exc 5 []),(k,.int a),(c,.int b)]=.ret 99 .non [(1,.exc 5 [(2,.int a),(3,.int b)])]:=by
 rw[run,P.f7];simp[ly,cJ,bg]
def B8 n k d b p cs a g (C:Cv p cs)(w:Wn cs a)(m:g∈a) y t (r:bq (dQ cs a g)=y::t):run G (n+7) 27 [(k,wd p cs),(d,bo (aJ cs p a)),(b,.int g)]=.exc 5 [(2,.int g),(3,.int y)] []:=by
 have f:=tM P n 0 0 0 p cs a g C w m;rw[r] at f;have s:(natL (y::t)).length=t.length+1:=by rw[lK]; rfl
 have i:aR (.lst (natL (y::t))) (.int 0)=some (0,.int (y:Nat)):=by simp[natL,fh]
 have l:=D7 P (n+5) 0 0 (g:Nat) (y:Nat);obtain⟨c,h,e,o,q⟩:=Ou.runX (n:=n+6) (vs:=[(k,wd p cs),(d,bo (aJ cs p a)),(b,.int g)]) (X:=λc h=>c=5/\h=[(2,.int g),(3,.int (y:Nat))]) P.v.f27 rfl rfl (by
  show Ou G (run G (n+6)) [] [some (0,wd p cs),some (0,bo (aJ cs p a)),some (0,.int g),none,none,none] _ _ _ _;refine Ou.set (x:=(1,.lst (natL (y::t)))) (by simp[P.v.f26,iB,f]) ?_;refine Ou.iffT (j:=99) (by simp[s]) ?_;generalize D.lst (natL (y::t))=YY at i;exact Ou.rais (j:=0) (fs:=[(2,.int g),(3,.int (y:Nat))]) (by simp[-aR,Ax P,i,ly,l]) ⟨rfl,rfl⟩)
 rw[e,o,q]
end
open PySem (Str)
noncomputable def bj (p:Nat)(cs:ac)(Z:af):D:=.tup (Z.map λO=>bo (aJ cs p O))
structure Sg (cs:ac)(Z:af):Prop where
 nd:Z.flatten.Nodup
 lt:∀g∈Z.flatten,g<cs.length
section
variable {p:Nat}{cs:ac}{Z:af}{g q:Nat}{O:aj}
def Sg.wn (h:Sg cs Z)(a:O∈Z):Wn cs O:=⟨h.nd.sublist (List.sublist_flatten_of_mem a),λg b=>h.lt g (Hs.mpr ⟨O,a,b⟩)⟩
noncomputable def d8 (Z:af)(g:Nat):aC:=Z.findIdx? λO=>decide (g∈O)
noncomputable def wrND (Z:af)(g:Nat):D:=match d8 Z g with
 | some i=>.int i
 | none=>.non
def o3:d8 Z g=none↔g∉Z.flatten:=by
 unfold d8;rw[List.findIdx?_eq_none_iff,Hs];simp
def vi {i:Nat}(h:d8 Z g=some i):∃O,Z[i]? = some O/\g∈O:=by
 unfold d8 at h;obtain⟨a,b,_⟩:=G8.mp h;exact⟨Z[i],GJ a,HY b⟩
def t7 (h:Z[q]? = some O)(a:g∈O):g∈Z.flatten:=Hs.mpr ⟨O,GV h,a⟩
def ur (a:Z.flatten.Nodup)(h:Z[q]? = some O)(b:g∈O):d8 Z g=some q:=by
 induction Z generalizing q with
 | nil=>cases h
 | cons P Z d=>
  rw[List.flatten_cons] at a;obtain⟨i,f,e⟩:=GU.mp a;unfold d8;rw[Ir];cases q with
  | zero=>
   cases h;rw[if_pos (GZ b)]
  | succ q=>
   have c:Z[q]? = some O:=h;have:g∉P:=λz=>e g z g (t7 c b) rfl;rw[if_neg (by simpa using this)];have:=d f c;unfold d8 at this;rw[this];rfl
def vh {O':aj}(h:Z[q]? = some O):∃A B:af,Z=A++O::B/\Z.set q O'=A++O'::B:=by
 obtain⟨a,e⟩:=di h;refine⟨Z.take q,Z.drop (q+1),?_,?_⟩
 .rw[<-e,<-HS a,List.take_append_drop]
 .rw[List.set_eq_take_append_cons_drop,if_pos a]
def Sg.on (s:Sg cs Z)(h:Z[q]? = some O)(e:g<cs.length)(d:d8 Z g=none):Sg cs (Z.set q (O++[g])):=by
 obtain⟨A,B,c,b⟩:=vh (O':=O++[g]) h;have pm:(Z.set q (O++[g])).flatten.Perm (g::Z.flatten):=by
  rw[b,c];simp only[IL,List.flatten_cons];have:(A.flatten++(O++[g]++B.flatten))=(A.flatten++O)++g::B.flatten:=by simp
  rw[this];refine List.perm_middle.trans ?_;simp
 refine⟨pm.nodup_iff.mpr (G2.mpr ⟨o3.mp d,s.nd⟩),λx a=>?_⟩;rcases ck (pm.mem_iff.mp a) with rfl | a
 .exact e
 .exact s.lt x a
def Sg.off (s:Sg cs Z)(h:Z[q]? = some O):Sg cs (Z.set q (fS g O)):=by
 obtain⟨A,B,b,c⟩:=vh (O':=fS g O) h;have a:(Z.set q (fS g O)).flatten.Sublist Z.flatten:=by
  rw[c,b];simp only[IL,List.flatten_cons];exact .append (.refl _) (.append List.filter_sublist (.refl _))
 exact⟨s.nd.sublist a,λx d=>s.lt x (a.subset d)⟩
noncomputable def isWd (w:D):Bool:=D.memb w [.str "on",.str "off"]
def pT {w:D}(h:isWd w=true):w=.str "on" \/ w=.str "off":=by
 cases w <;> try (cases h; done)
 simp[isWd,D.memb,De] at h;rename_i s;rcases h with h | h
 .left; rw[<-h]
 .right; rw[<-h]
inductive Rf (cs:ac) (Z:af):D->D->Nat->List aH->Prop
 | deed {a w b:D} (ha:a.scal=true) (hw:w.scal=true) (hb:b.scal=true) (h:isB Z.length a=false\/isWd w=false):Rf cs Z (.tup [a,w,b]) (.tup [.str "deed"]) 7 []
 | no {q:Nat} {w b:D} (hq:q<Z.length) (hw:isWd w=true) (hb:b.scal=true) (hp:b.pur 59=true) (h:isB cs.length b=false):Rf cs Z (.tup [.int q,w,b]) (.tup [.str "garment",b]) 2 [(2,b)]
 | worn {q g i:Nat} (hq:q<Z.length) (hg:g<cs.length) (h:d8 Z g=some i):Rf cs Z (.tup [.int q,.str "on",.int g]) (.tup [.str "worn",.int g]) 3 [(2,.int g)]
 | not {q g:Nat} {O:aj} (hO:Z[q]? = some O) (hg:g<cs.length) (h:g∉O):Rf cs Z (.tup [.int q,.str "off",.int g]) (.tup [.str "not worn",.int g]) 4 [(2,.int g)]
 | cov {q g y:Nat} {t O:aj} (hO:Z[q]? = some O) (h:g∈O) (e:bq (dQ cs O g)=y::t):Rf cs Z (.tup [.int q,.str "off",.int g]) (.tup [.str "covered",.int g,.int y]) 5 [(2,.int g),(3,.int y)]
inductive Dd (cs:ac) (Z:af):D->af->Prop
 | on {q g:Nat} {O:aj} (hO:Z[q]? = some O) (hg:g<cs.length) (h:d8 Z g=none):Dd cs Z (.tup [.int q,.str "on",.int g]) (Z.set q (O++[g]))
 | off {q g:Nat} {O:aj} (hO:Z[q]? = some O) (h:g∈O) (e:dQ cs O g=[]):Dd cs Z (.tup [.int q,.str "off",.int g]) (Z.set q (fS g O))
def Dd.good {d:D}{a:af}(s:Sg cs Z)(h:Dd cs Z d a):Sg cs a/\a.length=Z.length:=by
 cases h with
 | on b c h=>exact⟨s.on b c h,by simp⟩
 | off b h e=>exact⟨s.off b,by simp⟩
def Walk (cs:ac):ax->af->af->Prop
 | [],S,T=>S=T
 | d::a,S,T=>∃U,Dd cs S d U/\Walk cs a U T
end
structure P2 (G:Pg):Prop where
 p:P5 G
 f5:G.fn 5=some lR
 f6:G.fn 6=some lA
 f41:G.fn 41=some mo
 f42:G.fn 42=some jM
 f43:G.fn 43=some gX
 f44:G.fn 44=some oi
 c3:G.cl 3=some ⟨(some 5),[],[0],true⟩
 c4:G.cl 4=some ⟨(some 6),[],[0],true⟩
 c7:G.cl 7=some ⟨none,[],[0],true⟩
def pK k W:D.fb k (bo W)=true:=by
 cases k with
 | zero=>simp[bo,oS,mz]
 | succ k=>simp only[bo,nN,List.all_eq_true]; intro d hd; obtain⟨r,_,rfl⟩:=eJ hd; exact uS k r
def lW {p:Nat}{cs:ac}{Z:af}{i:Nat}{O:aj}(h:Z[i]? = some O):aR (bj p cs Z) (.int i)=some (0,bo (aJ cs p O)):=by
 obtain⟨b,e⟩:=di h;have a:(i:Int)<Z.length:=by omega
 simp[bj,aR,fh,a,b,e]
def ul (p:Nat)(cs:ac)(Z:af)(q:Nat)(O:aj):bj p cs (Z.set q O)=.tup ((Z.map λO=>bo (aJ cs p O)).set q (bo (aJ cs p O))):=by rw[bj,Ju]
def Gu p b Z:dB .enum [(0,bj p b Z)]=some ((List.range' 0 Z.length).map λ(n:Nat)=>D.tup [.int n,bo (aJ b p (Z.getD n []))]):=by
 show some ((Z.map λO=>bo (aJ b p O)).mapIdx λn d=>D.tup [.int n,d])=_;congr 1
 refine Ha λj=>?_;rw[Hk,GK,GK];by_cases a:j<Z.length
 .rw[GJ a,List.getElem?_range' a];simp[a]
 .rw[GR (by omega),GR (by simp; omega)];rfl
def sO {Z:af}{g i:Nat}(b:i<Z.length)(h:g∈Z[i])(c:∀j (a:j<Z.length),j<i->g∉Z[j]):wrND Z g=.int i:=by
 have:d8 Z g=some i:=by
  unfold d8;rw[G8];exact⟨b,GZ h,λj a=>by simpa using c j (by omega) a⟩
 simp[wrND,this]
def uB (c:∀j (a:j<Z.length),g∉Z[j]):wrND Z g=.non:=by
 have:d8 Z g=none:=by
  rw[o3,Hs];rintro⟨O,b,d⟩;obtain⟨j,a,rfl⟩:=List.mem_iff_getElem.mp b;exact c j a d
 simp[wrND,this]
section
variable {G:Pg}(P:P2 G)
include P
def B0 (n k J:Nat)(p:Nat) b Z (g:Nat)(C:Cv p b)(s:Sg b Z)(N:Z.length<=3):∃j,run G (n+2) 41 [(k,bj p b Z),(J,.int g)]=.ret j (wrND Z g) []:=by
 have z:Z.length<=SL:=bC N (by decide);have key:Ou G (run G (n+1)) [] [some (0,bj p b Z),some (0,.int g),none,none] mo.body (λ_=>False) (λd=>d=wrND Z g) λ_ _ _=>False:=by
  refine Ou.fo (λr a=>∃(u A:az) (i l:Nat),a=[some (0,bj p b Z),some (0,.int g),u,A]/\r=(List.range' i l).map (λ(n:Nat)=>D.tup [.int n,bo (aJ b p (Z.getD n []))])/\i+l=Z.length/\∀j (m:j<Z.length),j<i->g∉Z[j]) (vs:=[(0,bj p b Z)]) rfl (Gu p b Z) (by simpa using z) ⟨none,none,0,Z.length,by simp,rfl,by omega,λj m h=>by omega⟩ ?_ ?_
  .rintro x r a ⟨u,A,i,l,F,f,B,t⟩;cases l with
   | zero=>simp at f
   | succ l=>
    rw[II,GM,Hr] at f;obtain⟨rfl,rfl⟩:=f;subst F;have E:i<Z.length:=by omega
    have L:Z.getD i []=Z[i]:=by rw[GP,GJ E]; rfl
    rw[L];have w:=s.wn (G5 E);have y:=su P.p n 0 p b Z[i] C w;have I:D.memb (.int g) (natL (bq Z[i]))=decide (g∈Z[i]):=by rw[k7]; simp only[w.mS C g]
    have o:=h9 (bq Z[i]);generalize bo (aJ b p Z[i])=WW at y;generalize natL (bq Z[i])=NS at y I o;refine⟨_,qK rfl,?_⟩;have c:∀a:Fr,a=[some (0,bj p b Z),some (0,.int g),some (0,.int i),some (0,WW)]->eval G (run G (n+1)) a.sl (.op .isin [(.var 1),(.call 24 [(.var 3)])])=.ok (99,.bl (decide (g∈Z[i]))):=by
     intro a M;subst M;dsimp only[Fr.sl,cK,bG,de,gc,ii];simp[-List.all_eq_true,P.p.v.f24,je,y,I,o]
    by_cases q:g∈Z[i]
    .rw[GZ q] at c;refine Ou.iffT (j:=99) (c _ rfl) ?_;exact Ou.ret (x:=(0,.int i)) rfl (sO E q t).symm
    .rw[HG q] at c;refine Ou.iffN (j:=99) (c _ rfl) ?_;refine Ou.nil ⟨some (0,.int i),some (0,WW),i+1,l,by simp,rfl,by omega,λj m h=>?_⟩;by_cases e:j=i
     .subst e; exact q
     .exact t j m (by omega)
  .rintro a ⟨u,A,i,l,F,f,B,t⟩;subst F;have H:l=0:=by
    cases l with
    | zero=>rfl
    | succ l=>rw[II] at f; simp at f
   subst H;exact Ou.ret (x:=(99,.non)) rfl (uB λj m=>t j m (by omega)).symm
 obtain⟨j,d,e,rfl⟩:=Ou.run (n:=n+1) (vs:=[(k,bj p b Z),(J,.int g)]) (V:=λd=>d=wrND Z g) P.f41 rfl rfl (key.mono (λ_ h=>h.elim) (λ_ h=>h) λ_ _ _ h=>h);exact⟨j,e⟩
def zS n k b d (h:d.scal=true):run G (n+1) 2 [(k,d),(b,.int 0)]=.ret 0 d []:=by
 rw[run,P.p.v.a.f2];cases d <;> simp[l6,De] at h ⊢
def xM n k d (h:d.scal=true):run G (n+2) 4 [(1,.exc 2 []),(k,d)]=.ret 99 .non [(1,.exc 2 [(2,d)])]:=by
 rw[run,P.p.v.a.f4];have q:=zS P n 0 99 d h;have b:=tV h;simp[lH,P.p.v.a.f2,l6,q,cJ,bg,b]
def Fb n k g:run G (n+1) 5 [(1,.exc 3 []),(k,.int g)]=.ret 99 .non [(1,.exc 3 [(2,.int g)])]:=by
 rw[run,P.f5];simp[lR,cJ,bg]
def DE n k g:run G (n+1) 6 [(1,.exc 4 []),(k,.int g)]=.ret 99 .non [(1,.exc 4 [(2,.int g)])]:=by
 rw[run,P.f6];simp[lA,cJ,bg]
def y0:br G 2 1=some (4,lH,.exc 2 []):=by
 simp[br,P.p.v.a.c2,P.p.v.a.f4,lH]
def F6:br G 3 1=some (5,lR,.exc 3 []):=by
 simp[br,P.c3,P.f5,lR]
def zx:br G 4 1=some (6,lA,.exc 4 []):=by
 simp[br,P.c4,P.f6,lA]
def wY n k e p b d (h:isB b.length d=false)(o:d.scal=true):run G (n+4) 17 [(k,wd p b),(e,d)]=.exc 2 [(2,d)] []:=by
 rw[run,P.p.v.a.f17];have q:=oV P.p.v.a (n+1) 0 99 d b.length;have f:=wG P.p.v.a (n+2) 0 p b;have c:=xM P (n+1) 0 d o;rw[h] at q;simp[gQ,P.p.v.a.f1,iV,wZ P.p.v.a,kH,f,q,y0 P,c,lH]
def Cc n k e b p cs w d (h:isB cs.length d=false)(o:d.scal=true):run G (n+6) 26 [(k,wd p cs),(e,w),(b,d)]=.exc 2 [(2,d)] []:=by
 have c:=wY P (n+1) 0 0 p cs d h o;rw[run,P.p.v.f26];simp[iB,P.p.v.a.f17,gQ,c]
def Cd n k m e p cs b g (C:Cv p cs)(w:Wn cs b)(d:g<cs.length)(l:g∉b):run G (n+6) 26 [(k,wd p cs),(m,bo (aJ cs p b)),(e,.int g)]=.exc 4 [(2,.int g)] []:=by
 have i:=mZ P.p.v.a (n+1) 0 0 p cs (.int g) (by simp[isB,d]);have f:=su P.p (n+4) 0 p cs b C w;have h:D.memb (.int g) (natL (bq b))=false:=by rw[k7]; simp[w.mS C g,l]
 have c:=h9 (bq b);have j:=DE P (n+4) 0 g;generalize bo (aJ cs p b)=WW at f;generalize natL (bq b)=NS at f h c;rw[run,P.p.v.f26];simp[-List.all_eq_true,iB,P.p.v.a.f17,gQ,i,P.p.v.f24,je,f,h,c,zx P,lA,j]
def tK n k b a c p cs w d fs (q:∀k b a,run G (n+6) 26 [(k,wd p cs),(b,w),(a,d)]=.exc c fs []):run G (n+7) 27 [(k,wd p cs),(b,w),(a,d)]=.exc c fs []:=by
 rw[run,P.p.v.f27];simp[jA,P.p.v.f26,iB,q 0 0 0]
def F8 n k e b p cs w d (h:isB cs.length d=false)(o:d.scal=true):run G (n+5) 42 [(k,wd p cs),(e,w),(b,d)]=.exc 2 [(2,d)] []:=by
 have c:=wY P n 0 0 p cs d h o;rw[run,P.f42];simp[jM,P.p.v.a.f17,gQ,c]
def tu n k l c p cs Z g (C:Cv p cs)(s:Sg cs Z)(m:Z.length<=3)(h:g<cs.length):run G (n+5) 42 [(k,wd p cs),(l,bj p cs Z),(c,.int g)]=if (d8 Z g).isNone then .ret 99 .non [] else .exc 3 [(2,.int g)] []:=by
 have d:=mZ P.p.v.a n 0 0 p cs (.int g) (by simp[isB,h]);obtain⟨j,b⟩:=B0 P (n+2) 0 0 p cs Z g C s m;have f:=Fb P (n+3) 0 g;unfold wrND at b;rw[run,P.f42];cases e:d8 Z g with
 | none=>
  rw[e] at b;dsimp only[] at b;simp[jM,P.p.v.a.f17,gQ,d,P.f41,mo,b]
 | some i=>
  rw[e] at b;dsimp only[] at b;simp[jM,P.p.v.a.f17,gQ,d,P.f41,mo,b,F6 P,lR,f]
end
def Ou.putX (b:eval G d a.sl e=.exc c fs)(k:X c fs (cN a)):Ou G d io a (.put x [] i e::f) N V X:=
 .step λA r=>by
  simp only[qA,List.isEmpty_nil,if_true,r.sl,b,R.toO];exact⟨_,r.excA fs,k⟩
def gH:(D.str "on").pur 60=true:=by decide +kernel
def fZ:(D.str "off").pur 60=true:=by decide +kernel
def la:(D.str "on").eq (.str "on")=true:=by decide +kernel
def jP:(D.str "off").eq (.str "on")=false:=by decide +kernel
def mx:isWd (.str "on")=true:=by decide +kernel
def qM:isWd (.str "off")=true:=by decide +kernel
section
variable {G:Pg}(P:P2 G)
include P
def vq (n p:Nat) cs Z a w b (i:w.scal=true):∀f:Fr,f=[some (0,wd p cs),some (0,bj p cs Z),some (0,.tup [a,w,b]),some (0,a),some (0,w),some (0,b),none] ->
  eval G (run G (n+7)) f.sl (.or (.op .not [(.call 1 [(.var 3),(.op .len [(.var 1)])])]) (.op .nin [(.var 4),(.cst (.tup [(.str "on"),(.str "off")]))]))=.ok (99,.bl (!isB Z.length a||!isWd w)):=by
 intro f e;subst e;have d:=oV P.p.v.a (n+5) 0 99 a Z.length;have c:(bj p cs Z).seq=some (Z.map λO=>bo (aJ cs p O)):=rfl;have g:isWd w=D.memb w [.str "on",.str "off"]:=rfl;generalize isWd w=W at g;generalize bj p cs Z=T at c;cases h:isB Z.length a with
 | false=>
  rw[h] at d;simp[-D.seq,P.p.v.a.f1,iV,c,d]
 | true=>
  rw[h] at d;simp[-D.seq,P.p.v.a.f1,iV,c,d];cases w <;> simp at i ⊢ <;> simp[g]
def lQ (n p:Nat) cs Z (q:Nat) w b (f:q<Z.length)(i:w.scal=true)(g:isWd w=true)
  (k:Ou G (run G (n+7)) [] [some (0,wd p cs),some (0,bj p cs Z),some (0,.tup [.int q,w,b]),some (0,.int q),some (0,w),some (0,b),some (1,.lst (Z.map λO=>bo (aJ cs p O)))] (gX.body.drop 5) (λ_=>False) V X) :
  Ou G (run G (n+7)) [] [some (0,wd p cs),some (0,bj p cs Z),some (0,.tup [.int q,w,b]),none,none,none,none] gX.body (λ_=>False) V X:=by
 have c:=vq P n p cs Z (.int q) w b i;have h:isB Z.length (.int q)=true:=by simp[isB,f]
 rw[h,g] at c;have a:(bj p cs Z).seq=some (Z.map λO=>bo (aJ cs p O)):=rfl;have e:(Z.map λO=>bo (aJ cs p O)).all D.flat=true:=by rw[List.all_eq_true]; intro d hd; obtain⟨O,_,rfl⟩:=eJ hd; exact pK 0 _
 generalize bj p cs Z=T at a c k;generalize (Z.map λO=>bo (aJ cs p O))=L at a e k;refine Ou.set (x:=(0,.int q)) rfl ?_;refine Ou.set (x:=(0,w)) rfl ?_;refine Ou.set (x:=(0,b)) rfl ?_;refine Ou.iffN (j:=99) (c _ rfl) ?_;refine Ou.setK (x:=(1,.lst L)) (by simp[-D.seq,a]) e ?_;exact Ou.low (.of_eq rfl) k
def Bb (n k r f:Nat)(p:Nat) cs Z d H (c:Nat) fs (C:Cv p cs)(s:Sg cs Z)(N:Z.length<=3)(h:Rf cs Z d H c fs):run G (n+8) 43 [(k,wd p cs),(r,bj p cs Z),(f,d)]=.exc c fs []:=by
 have fin:∀{d:D},Ou G (run G (n+7)) [] [some (0,wd p cs),some (0,bj p cs Z),some (0,d),none,none,none,none] gX.body (λ_=>False) (λ_=>False) (λB m _=>B=c/\m=fs)->run G (n+8) 43 [(k,wd p cs),(r,bj p cs Z),(f,d)]=.exc c fs []:=λkey=>by
  obtain⟨B,m,e,rfl,rfl⟩:=Ou.runX (n:=n+7) (vs:=[(k,wd p cs),(r,bj p cs Z),(f,_)]) (X:=λB m=>B=c/\m=fs) P.f43 rfl rfl key;exact e
 have op:=gH;have I:=fZ;have L:=la;have fo:=jP;cases h with
 | @deed a w b U z F h=>
  refine fin ?_;have M:=vq P n p cs Z a w b z;have Q:(!isB Z.length a||!isWd w)=true:=by rcases h with h | h <;> simp[h]
  rw[Q] at M;refine Ou.set (x:=(0,a)) rfl ?_;refine Ou.set (x:=(0,w)) rfl ?_;refine Ou.set (x:=(0,b)) rfl ?_;refine Ou.iffT (j:=99) (M _ rfl) ?_;exact Ou.raisV ⟨rfl,rfl⟩
 | @no q w b E z F W h=>
  have l:=GJ E;have ix:=lW (p:=p) (cs:=cs) l;have u:=F8 P (n+2) 0 0 0 p cs (bj p cs Z) b h F;have o:=tK P n 0 0 0 2 p cs (bo (aJ cs p Z[q])) b _ λk r f=>Cc P n k r f p cs _ b h F;refine fin (lQ P n p cs Z q w b E (by rcases pT z with rfl | rfl <;> rfl) z ?_);generalize bj p cs Z=T at ix u;generalize bo (aJ cs p Z[q])=WW at ix o;rcases pT z with rfl | rfl
  .refine Ou.iffT (j:=99) (by simp[L,op]) ?_;exact Ou.exX (c:=2) (fs:=[(2,b)]) (by simp[P.f42,jM,u]) ⟨rfl,rfl⟩
  .refine Ou.iffF (j:=99) (by simp[fo,op,I]) ?_;exact Ou.putX (c:=2) (fs:=[(2,b)]) (by simp[-aR,ix,P.p.v.f27,jA,o]) ⟨rfl,rfl⟩
 | @worn q g i E J h=>
  have u:=tu P (n+2) 0 0 0 p cs Z g C s N J;rw[h] at u;have A:run G (n+7) 42 [(0,wd p cs),(0,bj p cs Z),(0,.int g)]=.exc 3 [(2,.int g)] []:=u;refine fin (lQ P n p cs Z q _ _ E rfl mx ?_);generalize bj p cs Z=T at A;refine Ou.iffT (j:=99) (by simp[L,op]) ?_;exact Ou.exX (c:=3) (fs:=[(2,.int g)]) (by simp[P.f42,jM,A]) ⟨rfl,rfl⟩
 | @not q g O l J h=>
  have ix:=lW (p:=p) (cs:=cs) l;have o:=tK P n 0 0 0 4 p cs (bo (aJ cs p O)) (.int g) _ λk r f=>Cd P n k r f p cs O g C (s.wn (GV l)) J h;refine fin (lQ P n p cs Z q _ _ (di l).1 rfl qM ?_);generalize bj p cs Z=T at ix;generalize bo (aJ cs p O)=WW at ix o;refine Ou.iffF (j:=99) (by simp[fo,op,I]) ?_;exact Ou.putX (c:=4) (fs:=[(2,.int g)]) (by simp[-aR,ix,P.p.v.f27,jA,o]) ⟨rfl,rfl⟩
 | @cov q g y t O l h e=>
  have ix:=lW (p:=p) (cs:=cs) l;have o:=B8 P.p n 0 0 0 p cs O g C (s.wn (GV l)) h y t e;refine fin (lQ P n p cs Z q _ _ (di l).1 rfl qM ?_);generalize bj p cs Z=T at ix;generalize bo (aJ cs p O)=WW at ix o;refine Ou.iffF (j:=99) (by simp[fo,op,I]) ?_;exact Ou.putX (c:=5) (fs:=[(2,.int g),(3,.int y)]) (by simp[-aR,ix,P.p.v.f27,jA,o]) ⟨rfl,rfl⟩
def kN (n k r c:Nat)(p:Nat) cs Z i d (C:Cv p cs)(s:Sg cs Z)(w:Z.length<=3)(h:Dd cs Z d i):∃j,run G (n+8) 43 [(k,wd p cs),(r,bj p cs Z),(c,d)]=.ret j (bj p cs i) []:=by
 have fin:∀{d:D},Ou G (run G (n+7)) [] [some (0,wd p cs),some (0,bj p cs Z),some (0,d),none,none,none,none] gX.body (λ_=>False) (λd=>d=bj p cs i) (λ_ _ _=>False)->∃j,run G (n+8) 43 [(k,wd p cs),(r,bj p cs Z),(c,d)]=.ret j (bj p cs i) []:=λkey=>by
  obtain⟨j,d,e,rfl⟩:=Ou.run (n:=n+7) (vs:=[(k,wd p cs),(r,bj p cs Z),(c,_)]) (V:=λd=>d=bj p cs i) P.f43 rfl rfl (key.mono (λ_ h=>h.elim) (λ_ h=>h) λ_ _ _ h=>h);exact⟨j,e⟩
 have op:=gH;have y:=fZ;have A:=la;have fo:=jP;cases h with
 | @on q g O b u h=>
  have ix:=lW (p:=p) (cs:=cs) b;have o:=(di b).1;have t:=tu P (n+2) 0 0 0 p cs Z g C s w u;rw[h] at t;have l:run G (n+7) 42 [(0,wd p cs),(0,bj p cs Z),(0,.int g)]=.ret 99 .non []:=t;obtain⟨m,f⟩:=AN P.p (n+1) 0 0 0 p cs O g C (s.wn (GV b)) u λz=>o3.mp h (t7 b z);refine fin (lQ P n p cs Z q _ _ o rfl mx ?_);have a:=pK m (aJ cs p (O++[g]));rw[ul];generalize bj p cs Z=T at ix l;generalize bo (aJ cs p O)=WW at ix f;generalize bo (aJ cs p (O++[g]))=W' at f a;refine Ou.iffT (j:=99) (by simp[A,op]) ?_;refine Ou.ex (x:=(99,.non)) (by simp[P.f42,jM,l]) ?_;refine Ou.put (k:=0) (j:=0) (xs:=Z.map λO=>bo (aJ cs p O)) (v:=(m,W')) (n:=q) rfl (by simp[-aR,ix,P.p.v.f25,pi,f]) a rfl (by simp; omega) (Ou.nil ?_);exact Ou.ret (x:=(0,.tup ((Z.map λO=>bo (aJ cs p O)).set q W'))) rfl rfl
 | @off q g O b h e=>
  have ix:=lW (p:=p) (cs:=cs) b;have o:=(di b).1;obtain⟨m,f⟩:=BU P.p n 0 0 0 p cs O g C (s.wn (GV b)) h e;refine fin (lQ P n p cs Z q _ _ o rfl qM ?_);have a:=pK m (aJ cs p (fS g O));rw[ul];generalize bj p cs Z=T at ix;generalize bo (aJ cs p O)=WW at ix f;generalize bo (aJ cs p (fS g O))=W' at f a;refine Ou.iffF (j:=99) (by simp[fo,op,y]) ?_;refine Ou.put (k:=0) (j:=0) (xs:=Z.map λO=>bo (aJ cs p O)) (v:=(m,W')) (n:=q) rfl (by simp[-aR,ix,P.p.v.f27,jA,f]) a rfl (by simp; omega) (Ou.nil ?_);exact Ou.ret (x:=(0,.tup ((Z.map λO=>bo (aJ cs p O)).set q W'))) rfl rfl
def yn n k k' k'' p cs Z Z' ds (C:Cv p cs)(s:Sg cs Z)(hl:Z.length<=3)(hd:ds.length<=1000)(h:Walk cs ds Z Z'):∃j,run G (n+9) 44 [(k,wd p cs),(k',bj p cs Z),(k'',.lst ds)]=.ret j (bj p cs Z') []:=by
 have y:ds.length<=SL:=bC hd (by decide);have key:Ou G (run G (n+8)) [] [some (0,wd p cs),some (0,bj p cs Z),some (0,.lst ds),none] oi.body (λ_=>False) (λd=>d=bj p cs Z') λ_ _ _=>False:=by
  refine Ou.fo (λr a=>∃(l:az) (Y:af),a=[some (0,wd p cs),some (0,bj p cs Y),some (0,.lst ds),l]/\Sg cs Y/\Y.length<=3/\Walk cs r Y Z') (vs:=[(0,.lst ds)]) rfl rfl y ⟨none,Z,by simp,s,hl,h⟩ ?_ ?_
  .rintro x r a ⟨l,Y,i,m,w,U,t,v⟩;subst i;obtain⟨j,q⟩:=kN P n 0 0 0 p cs Y U x C m w t;obtain⟨g1,g2⟩:=t.good m;refine⟨_,eI rfl,?_⟩;refine Ou.set (x:=(j,bj p cs U)) (by simp[P.f43,gX,q]) ?_;exact Ou.nil ⟨some (0,x),U,by simp,g1,by omega,v⟩
  .rintro a ⟨l,Y,i,_,_,h⟩;have z:Y=Z':=h;subst z i;exact Ou.ret (x:=(0,bj p cs Y)) rfl rfl
 obtain⟨j,d,e,rfl⟩:=Ou.run (n:=n+8) (vs:=[(k,wd p cs),(k',bj p cs Z),(k'',.lst ds)]) (V:=λd=>d=bj p cs Z') P.f44 rfl rfl (key.mono (λ_ h=>h.elim) (λ_ h=>h) λ_ _ _ h=>h);exact⟨j,e⟩
end
theorem RelF.at {A a:Fr}(r:RelF A a){x k:Nat}{d:D}(h:a[x]? = some (some (k,d))):∃j,A[x]? = some (some (j,d))/\k<=j:=by
 rcases r.get x with ⟨_,e⟩ | ⟨u,v,c,f,q⟩
 .rw[e] at h; cases h
 .rw[f] at h;cases h;cases u with
  | none=>exact q.elim
  | some u=>
   obtain⟨j,b⟩:=u;cases (show b=d from q.1);exact⟨j,c,q.2⟩
theorem RelF.natO (r:RelF A a)(i:Nat):natO A[i]? = natO a[i]?:=by
 rcases r.get i with ⟨b,c⟩ | ⟨u,v,b,c,q⟩
 .rw[b,c]
 .rw[b,c];cases u <;> cases v
  .rfl
  .exact q.elim
  .exact q.elim
  .rename_i u v;obtain⟨k,d⟩:=u;obtain⟨l,e⟩:=v;cases (show d=e from q.1);cases d <;> rfl
theorem RelF.intF (r:RelF A a)(i:Nat):intF A[i]? = intF a[i]?:=by
 rcases r.get i with ⟨b,c⟩ | ⟨u,v,b,c,q⟩
 .rw[b,c]
 .rw[b,c];cases u <;> cases v
  .rfl
  .exact q.elim
  .exact q.elim
  .rename_i u v;obtain⟨k,d⟩:=u;obtain⟨l,e⟩:=v;cases (show d=e from q.1);cases d <;> rfl
theorem RelF.natsO (r:RelF A a):∀is:aj,natsO A is=natsO a is
 | []=>rfl
 | i::is=>by rw[Ip.natsO,Ip.natsO,r.natO i,r.natsO is]
section
variable {G:Pg}{b:Nat->aw->Run}{io:aj}{a:Fr}{c:ay}{N:Fr->Prop}{V:D->Prop}{X:Nat->List aH->Fr->Prop}
def Ou.setD (h:eval G b a.sl e=.ok x)(g:j<=x.1)(k:Ou G b io ((frz e.names a).set i (some (j,x.2))) c N V X)(f:(!io.contains i&&Nat.blt i a.length)=true:=by rfl):Ou G b io a (.set i e::c) N V X:=
 .step λA r=>by
  obtain⟨d,f⟩:=okI f;have l:(settle e.names A x).length=a.length:=by
   rw[<-r.len];have:=(r.settle e.names x).len;rw[this,<-(RelF.low e.names a).len,r.len]
  simp only[lC,r.sl,h,R.toO,cq,d,l,f,and_self,if_true];exact⟨_,(r.settle e.names x).set (x:=some x) (y:=some (j,x.2)) ⟨rfl,g⟩ i,k⟩
theorem Ou.nest {x k j:Nat}{is ns:aj}{rm:Bool}{v:Int}{d d':D}(hx:a[x]? = some (some (k,d)))(hk:is.length<k)(hi:natsO a is=some ns)(hj:intF a[j]? = some v)(hd:df rm v ns d=some d')(h:Ou G b io (a.set x (some (k,d'))) c N V X):Ou G b io a (.nest x is rm j::c) N V X:=
 .step λA r=>by
  obtain⟨j',hA,hj'⟩:=r.at hx;have hk':is.length<j':=by omega
  rw[uo,hA];simp only[fY,if_pos hk',r.natsO is,hi,r.intF j,hj,Option.bind,hd];exact⟨_,r.set (x:=some (j',d')) (y:=some (k,d')) ⟨rfl,hj'⟩ x,h⟩
theorem RelF.setA:∀{es:aF} {vs:aw} {A a:Fr},RelF A a->RelF (setA es vs A) (setA es vs a)
 | [],_,_,_,r=>r
 | _::_,[],_,_,r=>r
 | e::es,v::vs,A,a,r=>by
  refine RelF.setA (es:=es) ?_;simp only[Ip.settle];split
  .exact r
  .exact r.frz
theorem Ou.byref {f x k k2:Nat}{es:aF}{F:Fn}{vs:aw}{d d':D}(m:dJ G f (es.length+1)=some F)(s:evals G b a.sl es=.ok vs)(o:(setA es vs a)[x]? = some (some (k,d)))(p:∀j,k<=j->∃z,b f ((j,d)::vs)=.ret 99 .non [(z,d')]/\k2<=z)(q:∀z,k2<=z->d'.fb z=true)(h:Ou G b io ((setA es vs a).set x (some (k2,d'))) c N V X):Ou G b io a (.byref f x es::c) N V X:=
 .step λA r=>by
  have l:=r.setA (es:=es) (vs:=vs);obtain⟨n,t,g⟩:=l.at o;obtain⟨z,e,i⟩:=p n g;rw[qW,m];dsimp only;rw[r.sl,s];dsimp only[R.okO];rw[t];dsimp only[iW];rw[e];dsimp only[kL];rw[if_pos (q z i)];exact⟨_,l.set (x:=some (z,d')) (y:=some (k2,d')) ⟨rfl,i⟩ x,h⟩
end
def Ou.runI {G:Pg}{n f K:Nat}{F:Fn}{vs:aw}{R:D}(g:G.fn f=some F)(i:vs.length=F.np)(b:F.io=[0])(h:Ou G (Ip.run G n) [0] (bn F vs) F.body (λa=>a[0]? = some (some (K,R))) (λ_=>False) λ_ _ _=>False):∃j,Ip.run G (n+1) f vs=.ret 99 .non [(j,R)]/\K<=j:=by
 rw[qY g i,b];have:=h _ (.refl _);revert this
 cases execs G (Ip.run G n) [0] (bn F vs) F.body with
 | nx A=>
  rintro⟨a,r,e⟩;obtain⟨j,m,l⟩:=r.at e;exact⟨j,by simp[fin,outs,m],l⟩
 | ret k d A=>exact False.elim
 | exc c o A=>exact λ⟨_,_,h⟩=>h.elim
 | _=>exact False.elim
def Ou.runV {G:Pg}{n f i:Nat}{F:Fn}{vs:aw}{init:ay}{P:D->Prop}(m:G.fn f=some F)(e:vs.length=F.np)(b:F.io=[])(o:F.body=init++[.ret (.var i)])
  (h:Ou G (Ip.run G n) [] (bn F vs) init (λa=>∃k d,a[i]? = some (some (k+1,d))/\P d) (λ_=>False) λ_ _ _=>False):∃k d,Ip.run G (n+1) f vs=.ret k d []/\1<=k/\P d:=by
 rw[Ip.run,m];simp only[e,if_true,b];rw[o,pr];have:=h _ (.refl _);revert this
 cases execs G (Ip.run G n) [] (bn F vs) init with
 | nx A=>
  rintro⟨a,r,k,d,j,g⟩;obtain⟨l,p⟩:=r.own j;refine⟨l+1,d,?_,by omega,g⟩;simp[O.seq,p,k6,mW,fin]
 | ret k d A=>exact False.elim
 | exc c q A=>exact λ⟨_,_,h⟩=>h.elim
 | _=>exact False.elim
def Ou.rv (c:G.fn f=some F)(h:Ou G (Ip.run G n) [] (bn F vs) F.body (λ_=>False) V λ_ _ _=>False)(b:vs.length=F.np:=by rfl)(a:F.io=[]:=by rfl):∃k d,Ip.run G (n+1) f vs=.ret k d []/\V d:=Ou.run c b a (h.mono (λ_=>False.elim) (λ_=>id) λ_ _ _=>id)
def Ou.rq {G:Pg}{n f:Nat}{F:Fn}{vs:aw}{R:D}(c:G.fn f=some F)(h:Ou G (Ip.run G n) [] (bn F vs) F.body (λ_=>False) (λd=>d=R) λ_ _ _=>False)(b:vs.length=F.np:=by rfl)(a:F.io=[]:=by rfl):∃k,Ip.run G (n+1) f vs=.ret k R []:=by
 obtain⟨k,d,e,rfl⟩:=Ou.rv c h b a;exact⟨k,e⟩
structure Pe (G:Pg):Prop where
 d:P2 G
 f9:G.fn 9=some lN
 c8:G.cl 8=some ⟨(some 9),[],[0],true⟩
 f22:G.fn 22=some nk
 f54:G.fn 54=some o4
 f55:G.fn 55=some ou
 f56:G.fn 56=some lS
 f135:G.fn 135=some gZ
 f71:G.fn 71=some e7
 f136:G.fn 136=some mq
 f99:G.fn 99=some ot
 f137:G.fn 137=some iq
 f138:G.fn 138=some kg
 f139:G.fn 139=some nR
 f140:G.fn 140=some k9
 f141:G.fn 141=some nD
 f142:G.fn 142=some nP
 f143:G.fn 143=some mR
 f144:G.fn 144=some md
 f116:G.fn 116=some oN
 f145:G.fn 145=some lm
 f88:G.fn 88=some lB
 f107:G.fn 107=some mh
 f82:G.fn 82=some nJ
 f146:G.fn 146=some pQ
 f147:G.fn 147=some rT
 f80:G.fn 80=some nM
 f113:G.fn 113=some nH
 f69:G.fn 69=some qg
def B2 (h:t<8):∃y:Int,0<y/\y<1000000000000000000000000000000000000000000000000000000000000/\aR (.lst [.int 1,.int (10 ^ 7),.int (10 ^ 14),.int (10 ^ 21),.int (10 ^ 28),.int (10 ^ 35),.int (10 ^ 42),.int (10 ^ 49)]) (.int (t:Nat))=o0 (.int y):=by
 have a:t=0\/t=1\/t=2\/t=3\/t=4\/t=5\/t=6\/t=7:=by omega
 rcases a with rfl | rfl | rfl | rfl | rfl | rfl | rfl | rfl <;> exact⟨_,by decide,by decide,rfl⟩
def qm (h:t<8):∃y:Int,cU y=true/\aR (.lst [.int 48271,.int 69621,.int 16807,.int 40692,.int 39373,.int 30269,.int 27183,.int 60013]) (.int (t:Nat))=o0 (.int y):=by
 have a:t=0\/t=1\/t=2\/t=3\/t=4\/t=5\/t=6\/t=7:=by omega
 rcases a with rfl | rfl | rfl | rfl | rfl | rfl | rfl | rfl <;> exact⟨_,eH.mpr (by decide),rfl⟩
def rE (h:t<8):∃y:Int,0<y/\aR (.lst [.int 999983,.int 999979,.int 999961,.int 999959,.int 999953,.int 999931,.int 999917,.int 999907]) (.int (t:Nat))=o0 (.int y):=by
 have a:t=0\/t=1\/t=2\/t=3\/t=4\/t=5\/t=6\/t=7:=by omega
 rcases a with rfl | rfl | rfl | rfl | rfl | rfl | rfl | rfl <;> exact⟨_,by decide,rfl⟩
section
variable {G:Pg}(P:Pe G)
include P
def Fu (n k c:Nat)(a:ak)(j:Nat):∃d,run G (n+1) 135 [(k,.lst (a.map .int)),(c,.int j)]=.ret d (.int (a.getD j 0)) []:=by
 rw[run,P.f135];by_cases h:j<a.length
 .have e:cutD (a.map D.int) (some (j:Int)) (some ((j:Int)+1))=[.int a[j]]:=by
   rw[mj _ _ (by simp; omega),HS (by simpa using h)]; simp
  exact⟨0,by simp[gZ,e,sl2D,De,Ds,fh,h]⟩
 .have e:cutD (a.map D.int) (some (j:Int)) (some ((j:Int)+1))=[]:=by
   dsimp only[cutD,dO];rw[Je (by simp; omega),List.take_nil]
  have b:a[j]? = none:=GR (by omega);exact⟨99,by simp[gZ,e,b,sl2D,De,Ds]⟩
def gg n k p a c t m (g:0<m)(A:0<=t/\t<8):∃v j,run G (n+1) 71 [(k,.int c),(p,.int t),(a,.int m)]=.ret j (.int v) []/\0<=v/\v<m:=by
 obtain⟨t,rfl⟩:∃u:Nat,t=(u:Int):=⟨t.toNat,by omega⟩
 have f:t<8:=by omega
 have l:cU 10=true:=eH.mpr (by decide);have b3:cU 3=true:=eH.mpr (by decide);have i:cU 7907=true:=eH.mpr (by decide);have fin:∀x:Int,0<=x % m/\x % m<m:=λx=>⟨Int.emod_nonneg _ (by omega),Int.emod_lt_of_pos _ g⟩
 obtain⟨y,F,C,r⟩:=B2 f;dsimp only[Int.reducePow] at r;obtain⟨b,B,z⟩:=qm f;obtain⟨q,H,s⟩:=rE f;have key:Ou G (run G n) [] [o0 (.int c),o0 (.int t),o0 (.int m),none,none,none,none] e7.body (λ_=>False) (λd=>∃v,d=.int v/\0<=v/\v<m) λ_ _ _=>False:=by
  by_cases h:c % 2=1
  .refine Ou.iffT (j:=99) (by simp[De,h]) ?_;refine Ou.set (x:=(0,.int y)) (by simp[-aR,l,r]) ?_;exact Ou.ret (x:=(99,.int (c / 2 / y % m))) (by simp[g,F,C]) ⟨_,rfl,fin _⟩
  .refine Ou.iffN (j:=99) (by simp[De,h]) ?_;refine Ou.set (x:=(0,.int b)) (by simp[-aR,z]) ?_;refine Ou.set (x:=(0,.int q)) (by simp[-aR,s]) ?_;refine Ou.set (x:=(99,.int (c % 2147483647))) rfl ?_;have o:cU (c % 2147483647)=true:=eH.mpr (by omega);generalize c % 2147483647=x at o;exact Ou.ret (x:=(99,.int ((3 * x * x+b * x+7907 * ((t:Int)+1)) % q / 5 % m))) (by simp[o,B,b3,i,g,H]) ⟨_,rfl,fin _⟩
 obtain⟨j,d,e,v,rfl,w,E⟩:=Ou.rv (vs:=[(k,.int c),(p,.int t),(a,.int m)]) P.f71 key;exact⟨v,j,e,w,E⟩
def vP (n k m:Nat)(c:Int)(i:Nat)(o:i<=6):∃v j,run G (n+1) 136 [(k,.int c),(m,.int i)]=.ret j (.int v) []:=by
 have b:cU 10=true:=eH.mpr (by decide);have b2:cU 2=true:=eH.mpr (by decide);have p:cU 976=true:=eH.mpr (by decide);have q:cU (i:Int)=true:=eH.mpr (by omega);have l:i<=SL:=bC o (by decide);have key:Ou G (run G n) [] [o0 (.int c),o0 (.int i),none,none] mq.body (λ_=>False) (λd=>∃v,d=.int v) λ_ _ _=>False:=by
  by_cases h:c % 2=0
  .refine Ou.iffT (j:=99) (by simp[De,h]) ?_;exact Ou.ret (x:=(99,.int (c % 10 ^ 15+976 * i * i))) (by simp[b,p,q]) ⟨_,rfl⟩
  .refine Ou.iffN (j:=99) (by simp[De,h]) ?_;refine Ou.set (x:=(99,.int (c / 2))) rfl ?_;refine Ou.fo (λr a=>∃(f:az) (y:Int),a=[o0 (.int c),o0 (.int i),o0 (.int y),f]) (vs:=[(0,.int (i:Int))]) (xs:=(List.range i).map λ(n:Nat)=>D.int n) rfl (wk_rng1 l) (by simpa using l) ⟨none,c / 2,by simp⟩ ?_ ?_
   .rintro x r a ⟨f,y,g⟩;subst g;refine⟨_,eI rfl,?_⟩;refine Ou.set (x:=(99,.int (y / 10 ^ 56))) (by simp[b]) ?_;exact Ou.nil ⟨o0 x,y / 10 ^ 56,by simp⟩
   .rintro a ⟨f,y,g⟩;subst g;exact Ou.ret (x:=(99,.int (2 * y+1))) (by simp[b2]) ⟨_,rfl⟩
 obtain⟨j,d,e,v,rfl⟩:=Ou.rv (vs:=[(k,.int c),(m,.int i)]) P.f136 key;exact⟨v,j,e⟩
end
def Co:∀p:Fin 7,∀q:Fin 6,q.1<p.1->1<=([1,2,4,8,16,32]:ak).getD q.1 1/\([1,2,4,8,16,32]:ak).getD q.1 1<=cC p.1:=by decide +kernel
section
variable {G:Pg}(P:Pe G)
include P
def C1 (n k k' k'':Nat)(c:Int)(p m:Nat)(hp:1<=p/\p<=6)(hm:m<=6):∃j cs,run G (n+2) 99 [(k,.int c),(k',.int p),(k'',.int m)]=.ret j (aK cs) []/\cs.length=m/\∀c∈cs,OkC p c:=by
 have hS:m<=SL:=bC hm (by decide);have hpS:p<=SL:=bC hp.2 (by decide);have key:Ou G (run G (n+1)) [] [o0 (.int c),o0 (.int p),o0 (.int m),none,none,none,none] ot.body (λ_=>False) (λd=>∃cs,d=aK cs/\cs.length=m/\∀c∈cs,OkC p c) λ_ _ _=>False:=by
  refine Ou.setK (x:=(99,.lst [])) rfl rfl ?_;refine Ou.low (a':=[o0 (.int c),o0 (.int p),o0 (.int m),some (1,.lst []),none,none,none]) (.cons (.refl _) (.cons (.refl _) (.cons (.refl _) (.cons ⟨rfl,by decide⟩ (.refl _))))) ?_;refine Ou.fo (λr a=>∃(x4 x5 x6:az) (cs:ac) (suf:aj),a=[o0 (.int c),o0 (.int p),o0 (.int m),some (1,aK cs),x4,x5,x6]/\r=suf.map (λ(n:Nat)=>D.int n)/\cs.length+suf.length=m/\(∀s∈suf,s<=6)/\∀c∈cs,OkC p c) (vs:=[(0,.int (m:Int))]) (xs:=(List.range m).map λ(n:Nat)=>D.int n) rfl (wk_rng1 hS) (by simpa using hS) ?_ ?_ ?_
  .exact⟨none,none,none,[],List.range m,by simp[aK],rfl,by simp,λs hs=>by have:=Hh.mp hs; omega,by simp⟩
  .rintro x r a ⟨x4,x5,x6,cs,suf,ha,hr,hl,h6,hok⟩;cases suf with
   | nil=>simp at hr
   | cons s suf=>
    simp only[GM,Hr] at hr;obtain⟨rfl,rfl⟩:=hr;subst ha;simp only[List.length_cons] at hl;refine⟨_,eI rfl,?_⟩;obtain⟨u,j1,q1⟩:=vP P n 0 0 c s (h6 s bP);refine Ou.set (x:=(j1,.int u)) (by simp[P.f136,mq,q1]) ?_;obtain⟨v,j3,q3,hv0,hv1⟩:=gg P n 0 99 0 u 1 (cC p) (EE p) (by decide);have im:=Aa hp;refine Ou.set (x:=(99,.int (1+v))) (by simp[-aR,im,P.f71,e7,q3]) ?_;obtain⟨v4,j4,q4,h40,h41⟩:=gg P n 0 99 99 u 4 3 (by decide) (by decide);obtain⟨v5,j5,q5,h50,h51⟩:=gg P n 0 99 0 u 5 p (by omega) (by decide);have fin:∀(b:Int) (a:Fr),1<=b/\b<=cC p->a=[o0 (.int c),o0 (.int p),o0 (.int m),some (1,aK cs),o0 (.int s),o0 (.int u),o0 (.int b)]->Ou G (run G (n+1)) [] a [.mut 3 [] .append [(.comp [none,none,(some 6)] (.one 1) .rng1 [(.var 1)] [(.op .eq [(.op .mod [(.op .fdiv [(.var 2),(.op .ix [(.op .lst [(.cst (.int (1))),(.cst (.int (2))),(.cst (.int (4))),(.cst (.int (8))),(.cst (.int (16))),(.cst (.int (32)))]),(.var 1)])]),(.cst (.int (2)))]),(.cst (.int (1)))])] (.var 1))]] (λa=>∃(x4 x5 x6:az) (cs:ac) (suf':aj),a=[o0 (.int c),o0 (.int p),o0 (.int m),some (1,aK cs),x4,x5,x6]/\suf.map (λ(n:Nat)=>D.int n)=suf'.map (λ(n:Nat)=>D.int n)/\cs.length+suf'.length=m/\(∀s∈suf',s<=6)/\∀c∈cs,OkC p c) (λd=>∃cs,d=aK cs/\cs.length=m/\∀c∈cs,OkC p c) λ_ _ _=>False:=by
     intro b a hb ea;subst ea;have ok:=CC hp hb;have eF:fc b p=(List.range p).filter λn=>decide (b / (([1,2,4,8,16,32]:ak).getD n 1) % 2=1):=rfl;generalize fc b p=F at ok eF;have cc:aW (compF G (run G (n+1)) [none,none,some (.int b)] (.one 1) [(.op .eq [(.op .mod [(.op .fdiv [(.var 2),(.op .ix [(.op .lst [(.cst (.int (1))),(.cst (.int (2))),(.cst (.int (4))),(.cst (.int (8))),(.cst (.int (16))),(.cst (.int (32)))]),(.var 1)])]),(.cst (.int (2)))]),(.cst (.int (1)))])] (.var 1)) ((List.range p).map λ(n:Nat)=>D.int n)=.ok (F.map λ(n:Nat)=>((0:Nat),D.int n)):=by
      rw[eF];refine DS λi hi=>?_;obtain⟨y,ey,hy,h3,ix⟩:=xb (i:=i) (by have:=Hh.mp hi; omega);rw[ey];have hy':¬y=0:=by omega
      simp[-aR,compF,ix,De,hy,h3]; split <;> rfl
     have hj:aY (F.map λ(n:Nat)=>((0:Nat),D.int n))=98:=vM λx hx=>by
      obtain⟨c,_,rfl⟩:=eJ hx;simp
     have hl6:cs.length<SL:=by
      have:7<=SL:=by decide
      omega
     obtain⟨c1,ec,oc⟩:∃c1:ak,F.map (λ(n:Nat)=>D.int n)=c1.map .int/\OkC p c1:=⟨F.map λ(n:Nat)=>(n:Int),by simp,ok⟩
     refine Ou.append (k:=0) (xs:=cs.map λc=>.lst (c.map .int)) (v:=(99,.lst (F.map λ(n:Nat)=>D.int n))) rfl (by simp[wk_rng1 hpS,hpS,cc,hj,Function.comp_def]) (by simpa using hl6) ?_;rw[ec];refine Ou.nil ⟨o0 (.int s),o0 (.int u),o0 (.int b),cs++[c1],suf,by simp[aK,frz,frz1],rfl,by simp; omega,λs hs=>h6 s (bK _ hs),?_⟩;intro c hc;rcases dL hc with h | h
     .exact hok c h
     .rw[GI.mp h]; exact oc
    by_cases h:v4=1
    .subst h;obtain⟨w,rfl⟩:∃w:Nat,v5=(w:Int):=⟨v5.toNat,by omega⟩
     obtain⟨y,ey,_,_,ix⟩:=xb (i:=w) (by omega);have hb:=Co ⟨p,by omega⟩ ⟨w,by omega⟩ (by dsimp only; omega);dsimp only at hb;rw[ey] at hb;refine Ou.iffT (j:=99) (by simp[P.f71,e7,q4,De]) ?_;refine Ou.set (x:=(0,.int y)) (by simp[-aR,P.f71,e7,q5,ix]) ?_;refine Ou.nil ?_;exact fin y _ hb rfl
    .refine Ou.iffN (j:=99) (by simp[P.f71,e7,q4,De,h]) ?_;exact fin (1+v) _ (by omega) rfl
  .rintro a ⟨x4,x5,x6,cs,suf,ha,hr,hl,_,hok⟩;subst ha;have:suf=[]:=by simpa using hr.symm
   subst this;exact Ou.ret (x:=(0,aK cs)) rfl ⟨cs,rfl,by simpa using hl,hok⟩
 obtain⟨j,d,e,cs,rfl,h1,h2⟩:=Ou.rv (vs:=[(k,.int c),(k',.int p),(k'',.int m)]) P.f99 key;exact⟨j,cs,e,h1,h2⟩
end
section
variable {G:Pg}{c:Nat->aw->Run}{io:aj}{a:Fr}{d:ay}{N:Fr->Prop}{V:D->Prop}{X:Nat->List aH->Fr->Prop}
def Ou.each (e:α->D)(l:List α)(I:List α->Fr->Prop)(h:evals G c a.sl n=.ok vs)(s:dB z vs=some (l.map e))(w:l.length<=SL)(p:I [] (frz (Ex.namess n) a))
  (step:∀pre x f a',l=pre++x::f->I pre a'->∃g,(∀A,RelF A a'->∃o,bZ io q (e x) A=.nx o/\RelF o g)/\Ou G c io g b (I (pre++[x])) V X)(k:∀a',I l a'->Ou G c io a' d N V X):Ou G c io a (.fo q z n b::d) N V X:=by
 refine Ou.fo (λr a=>∃pre f,r=f.map e/\l=pre++f/\I pre a) h s (by simpa using w) ⟨[],l,rfl,rfl,p⟩ ?_ ?_
 .rintro x r a' ⟨pre,f,j,i,m⟩;cases f with
  | nil=>cases j
  | cons y f=>
   cases j;obtain⟨g,t,v⟩:=step pre y f a' i m;exact⟨g,t,v.mono (λa u=>⟨pre++[y],f,rfl,by rw[i]; simp,u⟩) (λ_ h=>h) λ_ _ _ h=>h⟩
 .rintro a' ⟨pre,f,j,i,m⟩;have:f=[]:=by simpa using j.symm
  subst this;rw[Hz] at i;exact k a' (i ▸ m)
end
def Be a:D.pures (natL a)=true:=by simp[natL,D.pures]
def zm {p:Nat}{cs:ac}{O:aj}(C:Cv p cs)(w:Wn cs O)(g:Nat):((aJ cs p O).any λr=>decide (g∈r))=decide (g∈O):=by
 rw[Jq];simp only[Ii,GS];constructor
 .rintro⟨r,a,b⟩;exact oW (Hs.mpr ⟨r,a,b⟩)
 .intro h;exact Hs.mp (vT C w h)
noncomputable def rwL (r:aj):D:=.lst (natL r)
noncomputable def wrL (rows:af):D:=.lst (rows.map rwL)
noncomputable def bf (p:Nat)(cs:ac)(Z:af):D:=.lst (Z.map λO=>wrL (aJ cs p O))
def xa {p:Nat}{cs:ac}{Z:af}{i:Nat}{O:aj}(h:Z[i]? = some O):aR (bf p cs Z) (.int i)=o0 (wrL (aJ cs p O)):=by
 obtain⟨b,e⟩:=di h;have a:(i:Int)<Z.length:=by omega
 simp[bf,aR,fh,a,b,e]
def Fq {cs:ac}{p j:Nat}{O:aj}(h:j<p):aR (wrL (aJ cs p O)) (.int (j:Nat))=o0 (rwL (bF cs j O)):=by
 have a:(j:Int)<p:=by omega
 simp[wrL,aR,fh,h,aJ]
def Dk {R:aj}{i:Nat}(h:i<R.length):aR (rwL R) (.int (i:Nat))=o0 (.int (R[i]:Nat)):=by
 have a:(i:Int)<R.length:=by omega
 simp[rwL,aR,fh,natL,a,h]
def nZ (h:g<cs.length):aR (aK cs) (.int (g:Nat))=o0 (.lst ((aM cs g).map .int)):=by
 have a:(g:Int)<cs.length:=by omega
 simp[aK,aR,fh,a,h,aM]
def zK (G:Pg)(a:Nat->aw->Run)(W:af)(g:Nat):aW (compF G a [none,none,some (.int g)] (.one 1) [] (.op .isin [(.var 2),(.var 1)])) (W.map rwL)=.ok (W.map λr=>(99,.bl (decide (g∈r)))):=
 gO λr _=>by
  have:=h9 r;simp[-List.all_eq_true,compF,rwL,k7,this]
noncomputable def dD (x:Nat×Bool×Nat):D:=.tup [.int x.1,.str (if x.2.1 then "on" else "off"),.int x.2.2]
structure OkD (cs:ac)(Z:af)(x:Nat×Bool×Nat):Prop where
 lt:x.2.2<cs.length
 ql:x.1<Z.length
 on:x.2.1=true->d8 Z x.2.2=none
 off:x.2.1=false->x.2.2∈Z.getD x.1 []
noncomputable def bY (Z:af)(x:Nat×Bool×Nat):af:=Z.set x.1 (if x.2.1 then Z.getD x.1 []++[x.2.2] else fS x.2.2 (Z.getD x.1 []))
def gP {Z:af}{q:Nat}(h:q<Z.length):Z[q]? = some (Z.getD q []):=by simp[h]
def ls Z x:(bY Z x).length=Z.length:=by simp[bY]
def OkD.sg {cs:ac}{Z:af}{x:Nat×Bool×Nat}(s:Sg cs Z)(h:OkD cs Z x):Sg cs (bY Z x):=by
 have a:=gP h.ql;obtain⟨q,b,g⟩:=x;cases b with
 | true=>exact s.on a h.lt (h.on rfl)
 | false=>exact s.off a
def uD (a:x.1<Z.length)(d:g≠x.2.2) i:g∈(bY Z x).getD i []↔g∈Z.getD i []:=by
 unfold bY;rw[GP,GP,HZ];by_cases e:x.1=i
 .subst e;rw[if_pos rfl,if_pos a,gP a];obtain⟨q,b,c⟩:=x;cases b <;> simp_all[fS]
 .rw[if_neg e,<-GP]
def OkD.keep (h:OkD cs Z x)(k:OkD cs Z y)(b:y.2.2≠x.2.2):OkD cs (bY Z x) y:=by
 refine⟨k.lt,by rw[ls]; exact k.ql,λe=>?_,λe=>(uD h.ql b _).mpr (k.off e)⟩;have:=k.on e;rw[o3,Hs] at this ⊢;rintro⟨O,c,d⟩;obtain⟨i,a,rfl⟩:=List.mem_iff_getElem.mp c;rw[ls] at a;refine this ⟨Z[i],G5 a,?_⟩;have:=(uD (g:=y.2.2) h.ql b i).mp (by simpa[ls,a] using d);simpa[a] using this
section
variable {G:Pg}(P:Pe G)
include P
def pp (n k E:Nat)(p:Nat) cs Z (g:Nat)(C:Cv p cs)(s:Sg cs Z)(B:Z.length<=3):∃j,run G (n+1) 137 [(k,bf p cs Z),(E,.int g)]=.ret j (wrND Z g) []:=by
 have f:Z.length<=SL:=bC B (by decide);refine Ou.rq P.f137 ?_;show Ou _ _ _ [o0 (bf p cs Z),o0 (.int g),none] _ _ _ _;refine Ou.fo (λr a=>∃(z:az) (i l:Nat),a=[o0 (bf p cs Z),o0 (.int g),z]/\r=(List.range' i l).map (λ(n:Nat)=>D.int n)/\i+l=Z.length/\∀j (m:j<Z.length),j<i->g∉Z[j]) (vs:=[(99,.int Z.length)]) (by simp[bf]) (wk_rng1 f) (by simpa using f) ⟨none,0,Z.length,by simp,by rw[List.range_eq_range'],by omega,λj m h=>by omega⟩ ?_ ?_
 .rintro x r a ⟨z,i,l,w,c,u,o⟩;cases l with
  | zero=>simp at c
  | succ l=>
   rw[II,GM,Hr] at c;obtain⟨rfl,rfl⟩:=c;subst w;have y:i<Z.length:=by omega
   have ix:=xa (p:=p) (cs:=cs) (GJ y);have F:=zK G (run G n) (aJ cs p Z[i]) g;have t:(aJ cs p Z[i]).length<=SL:=by rw[ik]; exact bC C.p6 (by decide)
   have d:(wrL (aJ cs p Z[i])).seq=some ((aJ cs p Z[i]).map rwL):=rfl;have A:=mN (λr=>decide (g∈r)) (aJ cs p Z[i]);rw[zm C (s.wn (G5 y)) g] at A;refine⟨_,eI rfl,?_⟩;have b:∀a:Fr,a=[o0 (bf p cs Z),o0 (.int g),o0 (.int i)]->eval G (run G n) a.sl (.op .any [(.comp [none,none,(some 1)] (.one 1) .seq [(.op .ix [(.var 0),(.var 2)])] [] (.op .isin [(.var 2),(.var 1)]))])=.ok (99,.bl (decide (g∈Z[i]))):=by
    intro a H;subst H;generalize bf p cs Z=T at ix;generalize wrL (aJ cs p Z[i])=Y at ix d;simp[-aR,-D.seq,ix,d,F,t,Function.comp_def,A]
   by_cases q:g∈Z[i]
   .rw[GZ q] at b;refine Ou.iffT (j:=99) (b _ rfl) ?_;exact Ou.ret (x:=(0,.int i)) rfl (sO y q o).symm
   .rw[HG q] at b;refine Ou.iffN (j:=99) (b _ rfl) ?_;refine Ou.nil ⟨o0 (.int i),i+1,l,by simp,rfl,by omega,λj m h=>?_⟩;by_cases e:j=i
    .subst e; exact q
    .exact o j m (by omega)
 .rintro a ⟨z,i,l,w,c,u,o⟩;subst w;have v:l=0:=by
   cases l with
   | zero=>rfl
   | succ l=>rw[II] at c; simp at c
  subst v;exact Ou.ret (x:=(99,.non)) rfl (uB λj m=>o j m (by omega)).symm
omit P in
def yl {r:aj}{x:Nat}:aR (rwL (r++[x])) (.int (-1))=o0 (.int x):=by
 have:=zG (n:=r.length+1) (by omega);simp[rwL,aR,natL,this]
def wT (n k N k1 Q:Nat)(p:Nat)(cs:ac)(Z:af)(q g:Nat)(O:aj)(C:Cv p cs)(s:Sg cs Z)(J:Z[q]? = some O)(hg:g∈O)(hc:g<cs.length):∃j,run G (n+1) 138 [(k,bf p cs Z),(N,aK cs),(k1,.int q),(Q,.int g)]=.ret j (.lst (natL (dQ cs O g))) []:=by
 have L:=nZ hc;have Y:=xa (p:=p) (cs:=cs) J;have hS:(aM cs g).length<=SL:=bC (C.ln g) (by decide);have h7:7<=SL:=by decide
 have o:=C.rg g;have a1:=C.ln g;have key:Ou G (run G n) [] [o0 (bf p cs Z),o0 (aK cs),o0 (.int q),o0 (.int g),none,none,none] kg.body (λ_=>False) (λd=>d=.lst (natL (dQ cs O g))) λ_ _ _=>False:=by
  refine Ou.setK (x:=(99,.lst [])) rfl rfl ?_;refine Ou.low (a':=[o0 (bf p cs Z),o0 (aK cs),o0 (.int q),o0 (.int g),some (1,.lst (natL [])),none,none]) (.cons (.refl _) (.cons (.refl _) (.cons (.refl _) (.cons (.refl _) (.cons ⟨rfl,by decide⟩ (.refl _)))))) ?_;generalize bf p cs Z=T at Y;generalize aK cs=K at L;refine Ou.each D.int (aM cs g) (λpre a=>∃(H F:az) (b:aj),a=[o0 T,o0 K,o0 (.int q),o0 (.int g),some (1,.lst (natL b)),H,F]/\b.length<=pre.length/\b=(pre.map (dS cs O g)).flatten) (vs:=[(0,.lst ((aM cs g).map .int))]) (by simp[-aR,L]) rfl hS ⟨none,none,[],by simp[frz,frz1,natL],by simp,rfl⟩ ?_ ?_
  .rintro pre i A a U ⟨H,F,b,I,hu,f⟩;subst I;have t:i∈aM cs g:=by rw[U]; simp
   obtain⟨j,rfl⟩:∃j:Nat,i=(j:Int):=⟨i.toNat,by have:=o i t; omega⟩
   have hj:j<p:=by have:=o _ t; omega
   have iw:=Fq (cs:=cs) (O:=O) hj;have w:b.length<SL:=by
    have:(aM cs g).length=pre.length+(A.length+1):=by rw[U]; simp
    omega
   refine⟨_,eI rfl,?_⟩;have c:g∈bF cs j O:=G1.mpr ⟨hg,GZ t⟩;refine Ou.set (x:=(0,rwL (bF cs j O))) (by simp[-aR,Y,iw]) ?_;rcases List.eq_nil_or_concat (bF cs j O) with e | ⟨B,y,e⟩
   .rw[e] at c; cases c
   rw[List.concat_eq_append] at e;have X:=pd c;have h:(bF cs j O).idxOf g<(bF cs j O).length:=List.idxOf_lt_length_of_mem c;have pl:=Be (bF cs j O);rw[e] at X h pl ⊢;have il:=yl (r:=B) (x:=y);have M:(bF cs j O).Nodup:=(s.wn (GV J)).nd.filter _;have ov:dS cs O g (j:Int)=((B++[y]).drop ((B++[y]).idxOf g+1)).take 1:=by unfold dS gA; rw[Int.toNat_natCast,e]
   rw[e] at M;by_cases W:(y:Int)=g
   .refine Ou.iffN (j:=99) (by simp[-aR,il,De]; exact W) ?_;have l:y=g:=by omega
    have hB:g∉B:=λz=>(GU.mp M).2.2 g z y (by simp) l.symm;have E:dS cs O g (j:Int)=[]:=by rw[ov,<-l,r9 (by rw[l]; exact hB)]; simp
    exact Ou.nil ⟨o0 (.int (j:Int)),o0 (rwL (B++[y])),b,by simp[frz,frz1],by simp; omega,by rw[HU,IL,<-f]; simp[E]⟩
   .have u:¬y=g:=by omega
    have a0:(B++[y]).idxOf g≠B.length:=λz=>by
     have:=List.getElem_idxOf h;rw[List.getElem_eq_iff,z] at this;simp at this;exact u this
    have m:(B++[y]).idxOf g+1<(B++[y]).length:=by
     simp at h ⊢; omega
    have ix:aR (rwL (B++[y])) (.int (((B++[y]).idxOf g:Int)+1))=o0 (.int (((B++[y])[(B++[y]).idxOf g+1]:Nat))):=by
     have h1:(((B++[y]).idxOf g:Int)+1)=(((B++[y]).idxOf g+1:Nat):Int):=by omega
     rw[h1];exact Dk m
    have id:cV (rwL (B++[y])) (.int g)=some (99,.int ((B++[y]).idxOf g:Nat)):=by
     have sc:=h9 (B++[y]);simp[-List.all_eq_true,rwL,X,sc]
    have E:dS cs O g (j:Int)=[(B++[y])[(B++[y]).idxOf g+1]]:=by rw[ov,HS m]; rfl
    refine Ou.iffT (j:=99) (by simp[-aR,il,De,W]) ?_;refine Ou.append (k:=0) (xs:=natL b) (v:=(0,.int (((B++[y])[(B++[y]).idxOf g+1]:Nat)))) rfl (by simp[-aR,id,ix]) (by rw[lK]; exact w) ?_;exact Ou.nil (Ou.nil ⟨o0 (.int (j:Int)),o0 (rwL (B++[y])),b++[(B++[y])[(B++[y]).idxOf g+1]],by simp[frz,frz1,natL],by simp; omega,by rw[HU,IL,<-f]; simp[E]⟩)
  .rintro a ⟨H,F,b,I,_,f⟩;subst I;exact Ou.ret (x:=(0,.lst (natL b))) rfl (by rw[f]; rfl)
 obtain⟨j,d,e,rfl⟩:=Ou.rv (vs:=[(k,bf p cs Z),(N,aK cs),(k1,.int q),(Q,.int g)]) P.f138 key;exact⟨j,e⟩
end
def CW (c:ak):(c.map D.int).all (D.pur 60)=true:=by simp
def wJ (c:ak):c.all (D.scal ∘ D.int)=true:=by
 rw[List.all_eq_true]; intros; rfl
noncomputable def cH (cs:ac)(x y:Nat×Bool×Nat):Bool:=decide (x.2.2=y.2.2)||(decide (x.1=y.1)&&(aM cs x.2.2).any λi=>decide (i∈aM cs y.2.2))
theorem rG i:∀c:ak,D.memb (.int i) (c.map .int)=decide (i∈c)
 | []=>rfl
 | j::c=>by
  have e:D.memb (.int i) ((j::c).map .int)=((D.int j).eq (.int i)||D.memb (.int i) (c.map .int)):=rfl;rw[e,rG i c];by_cases h:i=j
  .subst h; simp[De]
  .have:¬j=i:=λz=>h z.symm;simp[De,this,h]
theorem o6 x:aR (dD x) (.int 0)=o0 (.int x.1):=rfl
theorem nK x:aR (dD x) (.int 2)=o0 (.int x.2.2):=rfl
structure OkB (cs:ac)(Z:af)(ds:List (Nat×Bool×Nat)):Prop where
 ok:∀x∈ds,OkD cs Z x
 un:ds.Pairwise λx y=>cH cs x y=false
 ln:ds.length<=10
def oz d x y:cH d x y=cH d y x:=by
 unfold cH;rw[Jq];simp only[G6,tw,GS,Ii];constructor
 .rintro (h | ⟨b,i,c,a⟩)
  .exact .inl h.symm
  .exact .inr ⟨b.symm,i,a,c⟩
 .rintro (h | ⟨b,i,c,a⟩)
  .exact .inl h.symm
  .exact .inr ⟨b.symm,i,a,c⟩
section
variable {G:Pg}(P:Pe G)
include P
def CV n k y b p a Z c (C:Cv p a)(s:Sg a Z)(z:1<=Z.length/\Z.length<=3)(H:a≠[]):∃j x,run G (n+2) 116 [(k,bf p a Z),(y,aK a),(b,.int c)]=.ret j (dD x) []/\OkD a Z x:=by
 have m:(0:Int)<a.length:=by have:=List.length_pos_iff.mpr H; omega
 obtain⟨v,E,F,v0,v1⟩:=gg P n 0 99 99 c 3 a.length m (by decide);obtain⟨g,rfl⟩:∃g:Nat,v=(g:Int):=⟨v.toNat,by omega⟩
 obtain⟨I,r⟩:=pp P n 0 0 p a Z g C s z.2;obtain⟨w,M,A,J,L⟩:=gg P n 0 99 99 c 2 Z.length (by omega) (by decide);obtain⟨q,rfl⟩:∃q:Nat,w=(q:Int):=⟨w.toNat,by omega⟩
 have o:dI (λl=>some (99,D.int l.length)) (aK a)=some (99,.int a.length):=by simp[aK]
 have t:dI (λl=>some (99,D.int l.length)) (bf p a Z)=some (99,.int Z.length):=by simp[bf]
 have key:Ou G (run G (n+1)) [] [o0 (bf p a Z),o0 (aK a),o0 (.int c),none,none] oN.body (λ_=>False) (λd=>∃x,d=dD x/\OkD a Z x) λ_ _ _=>False:=by
  generalize bf p a Z=T at r t;generalize aK a=K at o;refine Ou.set (x:=(E,.int g)) (by simp[-dI,o,P.f71,e7,F]) ?_;refine Ou.set (x:=(I,wrND Z g)) (by simp[P.f137,iq,r]) ?_;cases f:d8 Z g with
  | none=>
   have e:wrND Z g=.non:=by simp[wrND,f]
   rw[e];refine Ou.iffT (j:=99) rfl ?_;exact Ou.ret (x:=(99,dD (q,true,g))) (by simp[-dI,t,P.f71,e7,A,dD]) ⟨(q,true,g),rfl,by simp; omega,by simp; omega,λ_=>f,λh=>nomatch h⟩
  | some i=>
   have e:wrND Z g=.int i:=by simp[wrND,f]
   obtain⟨O,u,B⟩:=vi f;rw[e];refine Ou.iffN (j:=99) rfl ?_;exact Ou.ret (x:=(99,dD (i,false,g))) rfl ⟨(i,false,g),rfl,by simp; omega,(di u).1,(λh=>nomatch h),λ_=>by simpa[u] using B⟩
 obtain⟨j,d,e,x,rfl,h⟩:=Ou.rv (vs:=[(k,bf p a Z),(y,aK a),(b,.int c)]) P.f116 key;exact⟨j,x,e,h⟩
def FM n k m f p a Z x (C:Cv p a)(s:Sg a Z)(o:Z.length<=3)(ok:OkD a Z x):∃j b,run G (n+2) 143 [(k,bf p a Z),(m,aK a),(f,dD x)]=.ret j (.bl b) []:=by
 obtain⟨q,b,g⟩:=x;obtain⟨v,c⟩:=pp P n 0 0 p a Z g C s o;have key:Ou G (run G (n+1)) [] [o0 (bf p a Z),o0 (aK a),o0 (dD (q,b,g)),none,none,none] mR.body (λ_=>False) (λd=>∃b,d=.bl b) λ_ _ _=>False:=by
  cases b with
  | true=>
   have e:wrND Z g=.non:=by simp[wrND,ok.on rfl]
   rw[e] at c;generalize bf p a Z=T at c;refine Ou.setT (j:=0) (ds:=[.int q,.str "on",.int g]) rfl ?_;refine Ou.iffT (j:=99) (by simp[-eS,gH,la]) ?_;exact Ou.ret (x:=(99,.bl true)) (by simp[P.f137,iq,c]) ⟨_,rfl⟩
  | false=>
   have l:=gP ok.ql;have i:=ok.off rfl;have e:wrND Z g=.int q:=by simp[wrND,ur s.nd l i]
   rw[e] at c;obtain⟨u,h⟩:=wT P n 0 0 0 0 p a Z q g _ C s l i ok.lt;generalize dQ a _ _=us at h;generalize bf p a Z=T at c h;generalize aK a=K at h;have t:(natL us).all (D.pur 59)=true:=by simp[natL]
   refine Ou.setT (j:=0) (ds:=[.int q,.str "off",.int g]) rfl ?_;refine Ou.iffN (j:=99) (by simp[-eS,gH,fZ,jP]) ?_;exact Ou.ret (x:=(99,.bl ((D.lst (natL us)).eq (.lst [])))) (by simp[-List.all_eq_true,P.f137,iq,c,P.f138,kg,h,De,t]) ⟨_,rfl⟩
 obtain⟨j,d,e,r,rfl⟩:=Ou.rv (vs:=[(k,bf p a Z),(m,aK a),(f,dD (q,b,g))]) P.f143 key;exact⟨j,r,e⟩
def wq (n k k' d:Nat)(p:Nat)(a:ac)(x y:Nat×Bool×Nat)(C:Cv p a)(u:x.2.2<a.length)(q:y.2.2<a.length):∃j,run G (n+1) 144 [(k,aK a),(k',dD x),(d,dD y)]=.ret j (.bl (cH a x y)) []:=by
 have o:=nZ u;have m:=nZ q;have r:(aM a x.2.2).length<=SL:=bC (C.ln _) (by decide);have e:=o6 x;have c:=nK x;have f:=o6 y;have b2:=nK y;have g:aW (compF G (run G n) [none,none,some (aK a),some (dD y)] (.one 1) [] (.op .isin [(.var 1),(.op .ix [(.var 2),(.op .ix [(.var 3),(.cst (.int (2)))])])])) ((aM a x.2.2).map .int)=.ok ((aM a x.2.2).map λi=>(99,.bl (decide (i∈aM a y.2.2)))):=gO λi _=>by
  have v:=CW (aM a y.2.2);generalize aK a=K at m;generalize dD y=Y at b2;simp[-List.all_eq_true,-aR,compF,b2,m,rG,wJ]
 have s:=mN (λi=>decide (i∈aM a y.2.2)) (aM a x.2.2);refine Ou.rq P.f144 ?_;show Ou _ _ _ [o0 (aK a),o0 (dD x),o0 (dD y)] _ _ _ _;generalize aK a=K at o g;generalize dD x=X at e c;generalize dD y=Y at f b2 g;by_cases h:x.2.2=y.2.2
 .refine Ou.iffT (j:=99) (by simp[-aR,c,b2,De,h]) ?_;exact Ou.ret (x:=(99,.bl true)) rfl (by simp[cH,h])
 .have t:¬(x.2.2:Int)=y.2.2:=by omega
  refine Ou.iffN (j:=99) (by simp[-aR,c,b2,De,t]) ?_;by_cases l:x.1=y.1
  .have b:(x.1:Int)=y.1:=by omega
   exact Ou.ret (x:=(99,.bl ((aM a x.2.2).any λi=>decide (i∈aM a y.2.2)))) (by simp[-aR,e,f,c,o,De,b,g,r,Function.comp_def,s]) (by simp[cH,h,l])
  .have b:¬(x.1:Int)=y.1:=by omega
   exact Ou.ret (x:=(99,.bl false)) (by simp[-aR,e,f,De,b]) (by simp[cH,h,l])
omit P in
theorem si:∀{xs:List α},(∀x∈xs,∃j,f (e x)=.ok (some (j,g x)))->∃a,aW f (xs.map e)=.ok a/\a.map (λx=>x.2)=xs.map g
 | [],_=>⟨[],rfl,rfl⟩
 | x::xs,h=>by
  obtain⟨j,d⟩:=h x bP;obtain⟨a,i,c⟩:=si λy b=>h y (bK _ b);exact⟨(j,g x)::a,by rw[GM,aW,d,R.bind,i],by rw[GM,GM,c]⟩
omit P in
def zT a:(aK a).pur 60=true:=by simp[aK]
omit P in
def A0 (h:a≠[]):(aK a).eq (.lst [])=false:=by
 cases a with
 | nil=>exact absurd rfl h
 | cons _ _=>simp[aK,De,Ds]
def ww (n k k' k1 k2:Nat)(p M:Nat) cs Z (c:Int)(C:Cv p cs)(s:Sg cs Z)(hl:1<=Z.length/\Z.length<=3)(hM:M<=6):∃j ds,run G (n+4) 145 [(k,bf p cs Z),(k',aK cs),(k1,.int c),(k2,.int M)]=.ret j (.lst (ds.map dD)) []/\1<=j/\OkB cs Z ds/\ds.length<=6:=by
 have pc:=zT cs;by_cases H:cs=[]
 .subst H;refine⟨99,[],?_,by decide,⟨λx h=>(nomatch h),.nil,by decide⟩,by decide⟩;rw[run,P.f145];simp[lm,aK,De,Ds]
 have ec:=A0 H;obtain⟨v,jv,qv,v0,v1⟩:=gg P (n+2) 0 99 99 c 6 ((M:Int)+1) (by omega) (by decide);obtain⟨m,rfl⟩:∃m:Nat,v=(m:Int):=⟨v.toNat,by omega⟩
 have hm:m<=6:=by omega
 have hS:m<=SL:=bC hm (by decide);have h7:7<=SL:=by decide
 obtain⟨j,d,e,hj,ds,rfl,ok⟩:=Ou.runV (n:=n+3) (i:=4) (vs:=[(k,bf p cs Z),(k',aK cs),(k1,.int c),(k2,.int M)]) (init:=lm.body.dropLast) (P:=λd=>∃ds:List (Nat×Bool×Nat),d=.lst (ds.map dD)/\OkB cs Z ds/\ds.length<=6) P.f145 rfl rfl rfl (by
  show Ou _ _ _ [o0 (bf p cs Z),o0 (aK cs),o0 (.int c),o0 (.int M),none,none,none] _ _ _ _;refine Ou.setK (x:=(99,.lst [])) rfl rfl ?_;refine Ou.low (a':=[o0 (bf p cs Z),o0 (aK cs),o0 (.int c),o0 (.int M),some (1,.lst (([]:List (Nat×Bool×Nat)).map dD)),none,none]) (.cons (.refl _) (.cons (.refl _) (.cons (.refl _) (.cons (.refl _) (.cons ⟨rfl,by decide⟩ (.refl _)))))) ?_;have hd:=λu=>CV P (n+1) 0 0 u p cs Z;have l:=λx=>FM P (n+1) 0 0 0 p cs Z x C s hl.2;have t:=λx y=>wq P (n+2) 0 0 0 p cs x y C;generalize bf p cs Z=T at hd l;generalize hK:aK cs=K at hd l t pc ec;refine Ou.iffN (j:=99) (by simp[pc,ec]) ?_;refine Ou.each (λ(n:Nat)=>D.int n) (List.range m) (λpre a=>∃(E U:az) (ds:List (Nat×Bool×Nat)),a=[o0 T,o0 K,o0 (.int c),o0 (.int M),some (1,.lst (ds.map dD)),E,U]/\(∀x∈ds,OkD cs Z x)/\ds.Pairwise (λx y=>cH cs x y=false)/\ds.length<=pre.length) (vs:=[(jv,.int (m:Int))]) (by simp[P.f71,e7,qv]) (wk_rng1 hS) (by simpa using hS) ⟨none,none,[],by simp,λx h=>(nomatch h),.nil,by simp⟩ ?_ ?_
  .rintro pre i Q a hr ⟨E,U,ds,N,w,B,I⟩;subst N;have a0:i<m:=Hh.mp (by rw[hr]; simp);have a1:pre.length+(Q.length+1)=m:=by
    have:=congrArg List.length hr;simpa using this.symm
   refine⟨_,eI rfl,?_⟩;obtain⟨u,ju,qu⟩:=vP P (n+2) 0 0 c i (by omega);obtain⟨jd,x,qd,q⟩:=hd ju u C s hl H;refine Ou.set (x:=(jd,dD x)) (by simp[P.f116,oN,P.f136,mq,qu,qd]) ?_;obtain⟨jm,b,L⟩:=l x q;obtain⟨J,cc,ey⟩:∃J:aw,aW (compF G (run G (n+3)) [none,none,some K,some (dD x)] (.one 1) [] (.call 144 [(.var 2),(.var 3),(.var 1)])) (ds.map dD)=.ok J/\J.map (λx=>x.2)=ds.map λy=>D.bl (cH cs x y):=si λy r=>by
    obtain⟨j,e⟩:=t x y q.lt (w y r).lt;exact⟨j,by simp[compF,P.f144,md,e]⟩
   generalize W:cH cs x=F at ey;have an:=mN F ds;have Y:ds.length<=SL:=by omega
   have o:∀a:Fr,a=[o0 T,o0 K,o0 (.int c),o0 (.int M),some (1,.lst (ds.map dD)),o0 (.int i),o0 (dD x)]->eval G (run G (n+3)) a.sl (.and (.call 143 [(.var 0),(.var 1),(.var 6)]) (.op .not [(.op .any [(.comp [none,none,(some 1),(some 6)] (.one 1) .seq [(.var 4)] [] (.call 144 [(.var 2),(.var 3),(.var 1)]))])]))=.ok (99,.bl (b&&!ds.any F)):=by
    intro a ea;subst ea;generalize dD x=X at L cc;cases b with
    | false=>simp[P.f143,mR,L]
    | true=>simp[P.f143,mR,L,cc,Y,ey,an]
   cases A:(b&&!ds.any F) with
   | false=>
    rw[A] at o;refine Ou.iffN (o _ rfl) ?_;exact Ou.nil ⟨o0 (.int i),o0 (dD x),ds,by simp[frz,frz1],w,B,by simp; omega⟩
   | true=>
    rw[A] at o;refine Ou.iffT (o _ rfl) ?_;refine Ou.append (k:=0) (xs:=ds.map dD) (v:=(0,dD x)) rfl rfl (by simp; omega) ?_;refine Ou.nil (Ou.nil ⟨o0 (.int i),o0 (dD x),ds++[x],by simp[frz,frz1],?_,?_,by simp; omega⟩)
    .intro y r;rcases dL r with h | h
     .exact w y h
     .rw[GI.mp h]; exact q
    .refine List.pairwise_append.mpr ⟨B,List.pairwise_singleton _ _,λy r z hz=>?_⟩;rw[GI.mp hz];simp only[tw,Iz,List.any_eq_false] at A;have:=A.2 y r;rw[<-W] at this;rw[oz];simpa using this
  .rintro a ⟨E,U,ds,N,w,B,I⟩;subst N;exact Ou.nil ⟨0,.lst (ds.map dD),by simp,ds,rfl,⟨w,B,by simp at I; omega⟩,by simp at I; omega⟩)
 exact⟨j,ds,e,hj,ok⟩
end
noncomputable def eN (W:List af):D:=.lst (W.map wrL)
def ve p a Z:bf p a Z=eN (Z.map (aJ a p)):=by
 unfold bf eN;rw[Jd]; rfl
def Al {r:aj}{g:Nat}(c:r.Nodup)(h:g∈r):r.eraseIdx (r.idxOf g)=r.filter λx=>decide (x≠g):=by
 obtain⟨A,B,rfl⟩:=List.append_of_mem h;obtain⟨_,d,i⟩:=GU.mp c;have b:g∉A:=λz=>i g z g bP rfl;have j:g∉B:=(G2.mp d).1;have f:A.filter (λx=>decide (x≠g))=A:=HJ.mpr λx a=>GZ λe=>b (e ▸ a);have fB:B.filter (λx=>decide (x≠g))=B:=HJ.mpr λx a=>GZ λe=>j (e ▸ a);rw[r9 b,List.eraseIdx_append_of_length_le (Nat.le_refl _),Nat.sub_self,List.eraseIdx_cons_zero,List.filter_append,List.filter_cons,f,fB];simp
def rH j:bF a j (fS g b)=(bF a j b).filter λx=>decide (x≠g):=by
 unfold bF fS; rw[IS,IS]; congr 1; funext x; rw[Bool.and_comm]
def CB (C:Cv p a)(w:b.Nodup)(f:g∈b):bO (λr=>r.eraseIdx (r.idxOf g)) (aM a g) (aJ a p b)=aJ a p (fS g b):=by
 refine pC C (λj d=>?_) λj d=>?_
 .rw[rH];exact Al (w.filter _) (G1.mpr ⟨f,GZ d⟩)
 .rw[rH];refine (HJ.mpr λx h=>?_).symm;have c:(j:Int)∈aM a x:=HY (G1.mp h).2;have:x≠g:=λe=>d (e ▸ c);simpa using this
noncomputable def gD (rm:Bool)(g:Nat)(r:aj):aj:=if rm then r.eraseIdx (r.idxOf g) else r++[g]
def Cm {rm:Bool}{g:Nat}{r:aj}(h:rm=true->g∈r)(c:r.length<1000):d9 rm g (natL r)=some (natL (gD rm g r)):=by
 have a:(natL r).all D.isI=true:=by simp[natL,D.isI]
 have b:1000<=SL:=by decide
 unfold d9;rw[if_pos a];cases rm with
 | true=>
  rw[if_pos rfl,pd (h rfl)];simp[gD,natL,List.eraseIdx_eq_take_drop_succ,IN,IP]
 | false=>
  rw[if_neg (by simp),if_pos (by rw[lK]; omega)];simp[gD,natL]
def yp {rm:Bool}{g q i:Nat}{W:List af}{R:af}{r:aj}(c:W[q]? = some R)(a:R[i]? = some r)(h:rm=true->g∈r)(b:r.length<1000):df rm g [q,i] (eN W)=some (eN (W.set q (R.set i (gD rm g r)))):=by
 have:(∀n e a,df rm g (n::e) (.lst a)=(a[n]?).bind λd=>(df rm g e d).map λb=>.lst (a.set n b))/\∀c,df rm g [] (.lst c)=(d9 rm g c).map .lst:=⟨λ_ _ _=>rfl,λ_=>rfl⟩
 simp[this,eN,c,wrL,a,rwL,Cm h b,Ju]
section
variable {G:Pg}(P:Pe G)
include P
def AG n k Q M p c Z q g b r (C:Cv p c)(s:Sg c Z)(hk:3<=k)(o:q<Z.length)(W:g<c.length)(l:b=false->g∈Z.getD q [])
  (N:bO (gD (!b) g) (aM c g) (aJ c p (Z.getD q []))=aJ c p r):∃j,run G (n+1) 139 [(k,bf p c Z),(Q,aK c),(M,dD (q,b,g))]=.ret 99 .non [(j,bf p c (Z.set q r))]/\k<=j:=by
 have H:=nZ W;have Y:(aM c g).length<=SL:=bC (C.ln g) (by decide);have F:=s.wn (O:=Z.getD q []) (GV (gP o));have t:=F.len C;have h:bf p c (Z.set q r)=eN ((Z.map (aJ c p)).set q (aJ c p r)):=by rw[ve,Ju]
 have E:bf p c Z=eN ((Z.map (aJ c p)).set q (bO (gD (!b) g) [] (aJ c p (Z.getD q [])))):=by
  rw[ve];congr 1
  refine (Ha λj=>?_);rw[HZ];by_cases e:q=j
  .subst e; rw[if_pos rfl,if_pos (by simpa using o),GK,gP o]; rfl
  .rw[if_neg e]
 rw[h,<-N];generalize Z.getD q []=O at l F t E;rw[E];refine Ou.runI P.f139 rfl rfl ?_;show Ou _ _ _ [some (k,eN ((Z.map (aJ c p)).set q (bO (gD (!b) g) [] (aJ c p O)))),o0 (aK c),o0 (dD (q,b,g)),none,none,none,none] _ _ _ _;generalize aK c=K at H;refine Ou.setT (j:=0) (ds:=[.int q,.str (if b then "on" else "off"),.int g]) rfl ?_;refine Ou.each D.int (aM c g) (λpre a=>∃(x:Option KD),a=[some (k,eN ((Z.map (aJ c p)).set q (bO (gD (!b) g) pre (aJ c p O)))),o0 K,o0 (dD (q,b,g)),o0 (.int q),o0 (.str (if b then "on" else "off")),o0 (.int g),x]) (vs:=[(0,.lst ((aM c g).map .int))]) (by simp[-aR,H]) rfl Y ⟨none,by simp[frz,frz1]⟩ ?_ ?_
 .rintro pre i T a w ⟨x,u⟩;subst u;have d:i∈aM c g:=by rw[w]; simp
  have I:=C.nd g;rw[w] at I;obtain⟨J,n2,L⟩:=GU.mp I;have y:i∉pre:=λz=>L i z i bP rfl;obtain⟨j,rfl⟩:∃j:Nat,i=(j:Int):=⟨i.toNat,by have:=C.rg g i d; omega⟩
  have U:j<p:=by have:=C.rg g _ d; omega
  have B:b=false->g∈bF c j O:=λe=>G1.mpr ⟨l e,GZ d⟩;have f:(bF c j O).length<1000:=by
   have:(bF c j O).length<=O.length:=Jj _ _;omega
  have m:(bO (gD (!b) g) pre (aJ c p O))[j]? = some (bF c j O):=by
   rw[pZ _ pre _ J (λi d=>by rw[ik]; exact C.rg g i (by rw[w]; exact ev _ d))];simp[y,aJ,U]
  have hn:bO (gD (!b) g) (pre++[(j:Int)]) (aJ c p O)=(bO (gD (!b) g) pre (aJ c p O)).set j (gD (!b) g (bF c j O)):=by
   unfold bO at m ⊢;rw[JK,List.foldl_cons,List.foldl_nil];simp only[Int.toNat_natCast];rw[GP,m]; rfl
  rw[hn];generalize bO (gD (!b) g) pre (aJ c p O)=R at m;have X:((Z.map (aJ c p)).set q R)[q]? = some R:=GL (by simpa using o);have A:=yp (rm:=!b) (g:=g) X m (λe=>B (by simpa using e)) f;rw[List.set_set] at A;refine⟨_,eI rfl,?_⟩;cases b with
  | true=>
   refine Ou.iffT (j:=99) (by simp[-eS,gH,la]) ?_;exact Ou.nest (k:=k) (ns:=[q,j]) (v:=g) rfl (by simp; omega) rfl rfl A (Ou.nil (Ou.nil ⟨o0 (.int (j:Int)),by simp⟩))
  | false=>
   refine Ou.iffF (j:=99) (by simp[-eS,gH,fZ,jP]) ?_;exact Ou.nest (k:=k) (ns:=[q,j]) (v:=g) rfl (by simp; omega) rfl rfl A (Ou.nil (Ou.nil ⟨o0 (.int (j:Int)),by simp⟩))
 .rintro a ⟨x,u⟩;subst u;exact Ou.nil rfl
def qe n k c k2 p a Z x (C:Cv p a)(s:Sg a Z)(d:3<=k)(ok:OkD a Z x):∃j,run G (n+1) 139 [(k,bf p a Z),(c,aK a),(k2,dD x)]=.ret 99 .non [(j,bf p a (bY Z x))]/\k<=j:=by
 obtain⟨q,b,g⟩:=x;refine AG P n k c k2 p a Z q g b _ C s d ok.ql ok.lt ok.off ?_;cases b with
 | true=>exact ui C
 | false=>exact CB C (s.wn (GV (gP ok.ql))).nd (ok.off rfl)
end
def Bi k r:(rwL r).fb (k+1)=true:=by simp[rwL,natL]
def Bs k R:(wrL R).fb (k+2)=true:=by simp[wrL,Bi]
def pY (h:3<=k):(bf p a Z).fb k=true:=by
 obtain⟨j,rfl⟩:∃j,k=j+3:=⟨k - 3,by omega⟩
 simp[bf,Bs]
def nU (h:cH cs x y=false):x.2.2≠y.2.2:=by
 intro e;simp[cH,e] at h
theorem nQ:∀{pre:List (Nat×Bool×Nat)} {Z:af},(∀x∈pre++rest,OkD d Z x)->(pre++rest).Pairwise (λx y=>x.2.2≠y.2.2)->Sg d Z->Sg d (pre.foldl bY Z)/\(pre.foldl bY Z).length=Z.length/\∀y∈rest,OkD d (pre.foldl bY Z) y
 | [],Z,h,_,s=>⟨s,rfl,h⟩
 | x::pre,Z,h,u,s=>by
  have f:=h x bP;obtain⟨g,i⟩:=Iu.mp (show (x::(pre++rest)).Pairwise _ from u);obtain⟨a,b,c⟩:=nQ (pre:=pre) (Z:=bY Z x) (λy e=>f.keep (h y (bK _ e)) (g y e).symm) i (f.sg s);exact⟨a,b.trans (ls Z x),c⟩
section
variable {G:Pg}(P:Pe G)
include P
def v7 n k w k2 p b Z c (C:Cv p b)(s:Sg b Z)(o:3<=k)(ok:OkB b Z c):∃j,run G (n+2) 88 [(k,bf p b Z),(w,aK b),(k2,.lst (c.map dD))]=.ret 99 .non [(j,bf p b (c.foldl bY Z))]/\3<=j:=by
 have v:c.length<=SL:=bC ok.ln (by decide);refine Ou.runI P.f88 rfl rfl ?_;show Ou _ _ _ [some (k,bf p b Z),o0 (aK b),o0 (.lst (c.map dD)),none] _ _ _ _;refine Ou.low (a':=[some (3,bf p b Z),o0 (aK b),o0 (.lst (c.map dD)),none]) (.cons ⟨rfl,o⟩ (.refl _)) ?_;refine Ou.each dD c (λpre a=>∃f:az,a=[some (3,bf p b (pre.foldl bY Z)),o0 (aK b),o0 (.lst (c.map dD)),f]) (vs:=[(0,.lst (c.map dD))]) rfl rfl v ⟨none,by simp[frz,frz1]⟩ ?_ ?_
 .rintro pre x i a hd ⟨f,g⟩;subst g;obtain⟨t,_,r⟩:=nQ (pre:=pre) (rest:=x::i) (by rw[<-hd]; exact ok.ok) (by rw[<-hd]; exact ok.un.imp λh=>nU h) s;have q:=r x bP;refine⟨_,eI rfl,?_⟩;have l:setA [(.var 1),(.var 3)] [(0,aK b),(0,dD x)] [some (3,bf p b (pre.foldl bY Z)),o0 (aK b),o0 (.lst (c.map dD)),o0 (dD x)]=[some (3,bf p b (pre.foldl bY Z)),o0 (aK b),o0 (.lst (c.map dD)),o0 (dD x)]:=by
   simp[setA,aK,dD,frz1]
  refine Ou.byref (k:=3) (k2:=3) (d:=bf p b (pre.foldl bY Z)) (d':=bf p b (bY (pre.foldl bY Z) x)) (F:=nR) (vs:=[(0,aK b),(0,dD x)]) (by simp[dJ,P.f139,nR]) rfl (by show (setA [(.var 1),(.var 3)] [(0,aK b),(0,dD x)] [some (3,bf p b (pre.foldl bY Z)),o0 (aK b),o0 (.lst (c.map dD)),o0 (dD x)])[0]? = _; rw[l]; rfl) (λj u=>?_) (λz m=>pY m) (by show Ou _ _ _ ((setA [(.var 1),(.var 3)] [(0,aK b),(0,dD x)] [some (3,bf p b (pre.foldl bY Z)),o0 (aK b),o0 (.lst (c.map dD)),o0 (dD x)]).set 0 _) _ _ _ _; rw[l]; exact Ou.nil ⟨o0 (dD x),by simp⟩);obtain⟨z,e,m⟩:=qe P n j 0 0 p b _ x C t u q;exact⟨z,e,by omega⟩
 .rintro a ⟨f,g⟩;subst g;exact Ou.nil rfl
def xt n k p a Z (C:Cv p a)(e:Z.length<=3):∃j,run G (n+1) 140 [(k,bf p a Z)]=.ret j (bj p a Z) []:=by
 have h:Z.length<=SL:=bC e (by decide);have i:p<=SL:=bC C.p6 (by decide);have c:∀R:af,aW (compF G (run G n) [none,none] (.one 1) [] (.op .tuple [(.var 1)])) (R.map rwL)=.ok (R.map λr=>((0:Nat),bu r)):=λR=>gO λr _=>by simp[compF,rwL,bu]
 obtain⟨b,f,g⟩:∃b:aw,aW (compF G (run G n) [none,none] (.one 1) [] (.op .tuple [(.comp [none,none] (.one 1) .seq [(.var 1)] [] (.op .tuple [(.var 1)]))])) (Z.map λO=>wrL (aJ a p O))=.ok b/\b.map (λx=>x.2)=Z.map λO=>bo (aJ a p O):=si λO _=>by
  have d:(aJ a p O).length<=SL:=by rw[ik]; exact i
  exact⟨0,by simp[compF,wrL,c,d,bo,Function.comp_def]⟩
 rw[run,P.f140];exact⟨0,by simp[k9,bf,f,h,g,bj]⟩
def D0 (n k o:Nat)(p m:Nat) c (s:1<=p/\p<=6)(h:1<=m/\m<=3):∃j,run G (n+1) 142 [(k,.int m),(o,.int p)]=.ret j (bf p c (List.replicate m [])) []/\3<=j:=by
 have b:m<=SL:=bC h.2 (by decide);have a:p<=SL:=bC s.2 (by decide);have r:aJ c p []=List.replicate p []:=by
  unfold aJ bF;exact (Jm.mpr ⟨by simp,by simp⟩)
 have t:aY (List.replicate p ((99:Nat),D.lst []))=99:=by
  obtain⟨u,rfl⟩:∃u,p=u+1:=⟨p - 1,by omega⟩
  simp[aY,bg,List.replicate_succ]
 have d:aW (compF G (run G n) [none,none] (.one 1) [] (.op .lst [])) ((List.range p).map λ(n:Nat)=>.int n)=.ok (List.replicate p (99,.lst [])):=by
  have:=gO (e:=λ(n:Nat)=>D.int n) (f:=compF G (run G n) [none,none] (.one 1) [] (.op .lst [])) (g:=λ_=>((99:Nat),D.lst [])) (xs:=List.range p) (λi _=>by simp[compF]);rw[this];congr 1
  exact Jm.mpr ⟨by simp,by simp⟩
 have q:aW (compF G (run G n) [none,none,some (.int p)] (.one 1) [] (.comp [none,none] (.one 1) .rng1 [(.var 2)] [] (.op .lst []))) ((List.range m).map λ(n:Nat)=>.int n)=.ok (List.replicate m (100,wrL (aJ c p []))):=by
  have:=gO (e:=λ(n:Nat)=>D.int n) (f:=compF G (run G n) [none,none,some (.int p)] (.one 1) [] (.comp [none,none] (.one 1) .rng1 [(.var 2)] [] (.op .lst []))) (g:=λ_=>((100:Nat),wrL (aJ c p []))) (xs:=List.range m) (λi _=>by simp[compF,wk_rng1 a,a,d,t,wrL,r,rwL,natL]);rw[this];congr 1
  exact Jm.mpr ⟨by simp,by simp⟩
 have l:aY (List.replicate m ((100:Nat),wrL (aJ c p [])))=100:=by
  obtain⟨u,rfl⟩:∃u,m=u+1:=⟨m - 1,by omega⟩
  simp[aY,bg,List.replicate_succ,wrL]
 refine⟨101,?_,by decide⟩;rw[run,P.f142];simp[nP,wk_rng1 b,b,q,l,bf]
end
structure OkT (cs:ac)(Z:af)(x:Nat×Bool×Nat):Prop where
 ok:OkD cs Z x
 top:x.2.1=false->dQ cs (Z.getD x.1 []) x.2.2=[]
def OkT.dd (h:OkT cs Z x):Dd cs Z (dD x) (bY Z x):=by
 have a:=gP h.ok.ql;obtain⟨q,b,g⟩:=x;cases b with
 | true=>exact .on a h.ok.lt (h.ok.on rfl)
 | false=>exact .off a (h.ok.off rfl) (h.top rfl)
noncomputable def dF (cs:ac)(Z:af)(q j:Nat):aj:=bF cs j (Z.getD q [])
noncomputable def stp (cs:ac)(q j:Nat)(r:aj)(x:Nat×Bool×Nat):aj:=if q=x.1/\(j:Int)∈aM cs x.2.2 then (if x.2.1 then r++[x.2.2] else r.filter λy=>decide (y≠x.2.2)) else r
def uu (d:x.1<Z.length) q j:dF cs (bY Z x) q j=stp cs q j (dF cs Z q j) x:=by
 unfold dF stp bY;rw[GP,HZ];by_cases e:x.1=q
 .subst e;rw[if_pos rfl,if_pos d];obtain⟨q,b,g⟩:=x;dsimp only[Option.getD_some];cases b with
  | true=>
   rw[if_pos rfl,ro,sh];by_cases h:(j:Int)∈aM cs g
   .rw[if_pos h,if_pos ⟨rfl,h⟩]; rfl
   .rw[if_neg h,if_neg λz=>h z.2]; exact Hz _
  | false=>
   rw[if_neg (by simp),rH];by_cases h:(j:Int)∈aM cs g
   .rw[if_pos ⟨rfl,h⟩]; rfl
   .rw[if_neg λz=>h z.2];refine HJ.mpr λy c=>?_;have a:(j:Int)∈aM cs y:=HY (G1.mp c).2;have:y≠g:=λe=>h (e ▸ a);simpa using this
 .rw[if_neg e,if_neg λz=>e z.1.symm,<-GP]
theorem r8:∀{a:List (Nat×Bool×Nat)} {Z:af},(∀x∈a,x.1<Z.length)->dF b (a.foldl bY Z) q j=a.foldl (stp b q j) (dF b Z q j)
 | [],_,_=>rfl
 | x::a,Z,h=>by
  rw[List.foldl_cons,List.foldl_cons,r8 λy c=>by rw[ls]; exact h y (bK _ c),uu (h x bP)]
def FU (h:cH a x y=false) q j r:stp a q j (stp a q j r x) y=stp a q j (stp a q j r y) x:=by
 have:¬((q=x.1/\(j:Int)∈aM a x.2.2)/\(q=y.1/\(j:Int)∈aM a y.2.2)):=by
  rintro⟨⟨e,d⟩,b1,b2⟩;have c:cH a x y=true:=by
   unfold cH;rw[G6,tw,GS,GS,Ii];exact .inr ⟨e ▸ b1,j,d,GZ b2⟩
  rw[h] at c; cases c
 unfold stp;by_cases b:q=x.1/\(j:Int)∈aM a x.2.2
 .have c:¬(q=y.1/\(j:Int)∈aM a y.2.2):=λz=>this ⟨b,z⟩;rw[if_pos b,if_neg c,if_neg c,if_pos b]
 .rw[if_neg b,if_neg b]
theorem wz:∀{d:List (Nat×Bool×Nat)},d.Pairwise (λx y=>cH j x y=false)->∀x∈d,∀y∈d,x=y\/cH j x y=false
 | [],_,_,e,_,_=>nomatch e
 | a::d,h,x,e,y,i=>by
  obtain⟨f,g⟩:=Iu.mp h;rcases ck e with b | b <;> rcases ck i with c | c
  .exact .inl (b.trans c.symm)
  .rw[b]; exact .inr (f y c)
  .rw[c]; exact .inr (by rw[oz]; exact f x b)
  .exact wz g x b y c
def EK {b:ac}{a:List (Nat×Bool×Nat)}(h:a.Pairwise λx y=>cH b x y=false)(q j:Nat)(r:aj):a.reverse.foldl (stp b q j) r=a.foldl (stp b q j) r:=by
 refine (List.reverse_perm a).foldl_eq' (λx c y d z=>?_) r;rcases wz h x (Jo.mp c) y (Jo.mp d) with rfl | e
 .rfl
 .exact FU e q j z
def oa (a:List (Nat×Bool×Nat)):∀Z:af,(a.foldl bY Z).length=Z.length:=by
 induction a with
 | nil=>exact λ_=>rfl
 | cons x a b=>exact λZ=>(b _).trans (ls Z x)
def yI {p:Nat}{b:ac}{Z:af}{a:List (Nat×Bool×Nat)}(h:a.Pairwise λx y=>cH b x y=false)(c:∀x∈a,x.1<Z.length):bj p b (a.reverse.foldl bY Z)=bj p b (a.foldl bY Z):=by
 have key:∀q,aJ b p ((a.reverse.foldl bY Z).getD q [])=aJ b p ((a.foldl bY Z).getD q []):=λq=>by
  refine List.map_congr_left λj _=>?_;show dF b (a.reverse.foldl bY Z) q j=dF b (a.foldl bY Z) q j;rw[r8 λx e=>c x (Jo.mp e),r8 c,EK h]
 unfold bj;congr 1
 apply Ha;intro q;rw[GK,GK];by_cases d:q<Z.length
 .rw[gP (by rw[oa]; exact d),gP (by rw[oa]; exact d),Option.map_some,Option.map_some,key q]
 .rw[GR (by rw[oa]; omega),GR (by rw[oa]; omega)]
theorem OkT.keep (C:Cv p cs)(s:Sg cs Z)(h:OkT cs Z x)(k:OkT cs Z y)(d:cH cs x y=false):OkT cs (bY Z x) y:=by
 have a:=h.ok.keep k.ok (nU d).symm;refine⟨a,λe=>?_⟩;have f:=h.ok.sg s;have g:=f.wn (GV (gP a.ql));have w:=s.wn (GV (gP k.ok.ql));refine yK (λi l=>(C.rg _ i l).1) g.nd λj c=>?_;obtain⟨r,m,_⟩:=tH w.nd (k.ok.off e) (k.top e) c;refine⟨r,?_⟩;have:=uu (cs:=cs) h.ok.ql y.1 j;unfold dF stp at this;rw[this,if_neg λz=>?_]
 .exact m
 .have b:cH cs x y=true:=by
   unfold cH;rw[G6,tw,GS,GS,Ii];exact .inr ⟨z.1.symm,j,z.2,GZ c⟩
  rw[d] at b; cases b
theorem walk_of (C:Cv p b):∀{a:List (Nat×Bool×Nat)} {Z:af},Sg b Z->(∀x∈a,OkT b Z x)->a.Pairwise (λx y=>cH b x y=false)->Walk b (a.map dD) Z (a.foldl bY Z)
 | [],_,_,_,_=>rfl
 | x::a,Z,s,h,u=>by
  obtain⟨f,e⟩:=Iu.mp u;have c:=h x bP;exact⟨bY Z x,c.dd,walk_of C (c.ok.sg s) (λy d=>c.keep C s (h y (bK _ d)) (f y d)) e⟩
def Ou.both {G:Pg}{n f:Nat}{F:Fn}{vs:aw}{V:D->Prop}{X:Nat->List aH->Prop}(b:G.fn f=some F)(h:Ou G (Ip.run G n) [] (bn F vs) F.body (λ_=>V .non) V λc fs _=>X c fs)(e:vs.length=F.np:=by rfl)(a:F.io=[]:=by rfl):(∃k d,Ip.run G (n+1) f vs=.ret k d []/\V d)\/∃c fs,Ip.run G (n+1) f vs=.exc c fs []/\X c fs:=by
 rw[Ip.run,b];simp only[e,if_true,a];have:=h _ (.refl _);revert this
 cases execs G (Ip.run G n) [] (bn F vs) F.body with
 | nx A=>exact λ⟨_,_,h⟩=>.inl ⟨99,.non,rfl,h⟩
 | ret k d A=>exact λh=>.inl ⟨k,d,rfl,h⟩
 | exc c fs A=>exact λ⟨_,_,h⟩=>.inr ⟨c,fs,rfl,h⟩
 | _=>exact False.elim
noncomputable abbrev at3 (a:List (Nat×Bool×Nat))(i:Nat):Nat×Bool×Nat:=a.getD i (0,false,0)
def NoC (d:ac)(c:List (Nat×Bool×Nat))(i j:Nat):Prop:=∀a b,a<b->b<c.length->(a<i\/a=i/\b<j)->cH d (at3 c a) (at3 c b)=false
structure FC (cs:ac)(xs:List (Nat×Bool×Nat))(i j:Nat):Prop where
 lt:i<j
 ln:j<xs.length
 cr:cH cs (at3 xs i) (at3 xs j)=true
 no:NoC cs xs i j
def FC.un (h:FC c d i j)(k:FC c d a b):i=a/\j=b:=by
 have f:¬(a<i\/a=i/\b<j):=λz=>by have:=h.no a b k.lt k.ln z; rw[k.cr] at this; cases this
 have e:¬(i<a\/i=a/\j<b):=λz=>by have:=k.no i j h.lt h.ln z; rw[h.cr] at this; cases this
 omega
def NoC.pw (h:NoC e b b.length 0):b.Pairwise λx y=>cH e x y=false:=by
 rw[List.pairwise_iff_getElem];intro i j c d a;have:=h i j a d (.inl c);simpa[at3,c,d] using this
def NoC.not (h:NoC cs xs xs.length 0)(k:FC cs xs i j):False:=by
 have:=h i j k.lt k.ln (.inl (Nat.lt_trans k.lt k.ln));rw[k.cr] at this; cases this
def y6 a:(a.map dD).mapIdx (λn d=>D.tup [.int n,d])=(List.range a.length).map λ(n:Nat)=>D.tup [.int n,dD (at3 a n)]:=by
 apply Ha;intro j;rw[Hk,GK,GK];by_cases b:j<a.length
 .rw[GJ b,IK b];simp[at3,b]
 .rw[GR (by omega),GR (by simp; omega)];rfl
def nA (h:List.range m=pre++i::c):i=pre.length/\i<m:=by
 have a:=congrArg (λl=>l[pre.length]?) h;have d:=congrArg List.length h;simp at a d;have b:pre.length<m:=by omega
 rw[IK b] at a;cases a;exact⟨rfl,b⟩
section
variable {G:Pg}(P:Pe G)
include P
def Fm p b:bX G 14 2 (wd p b)=some (22,nk):=by
 simp[bX,wd,P.d.p.v.a.c17,P.f22,nk,List.lookup]
def BO n k s h p b g c (C:Cv p b)(q:g<b.length)(e:c<b.length):∃j,run G (n+6) 22 [(k,wd p b),(s,.int g),(h,.int c)]=.ret j (.bl ((aM b c).any λi=>decide (i∈aM b g))) []:=by
 have m:=lX P.d.p.v.a n 0 0 p b g _ (Cv.at q);have l:=lX P.d.p.v.a n 0 0 p b c _ (Cv.at e);have t:(aM b c).length<=SL:=bC (C.ln _) (by decide);have r:aW (compF G (run G (n+5)) [none,none,some (.lst ((aM b g).map .int))] (.one 1) [] (.op .isin [(.var 1),(.var 2)])) ((aM b c).map .int)=.ok ((aM b c).map λi=>(99,.bl (decide (i∈aM b g)))):=gO λi _=>by
  simp[-List.all_eq_true,compF,rG,wJ]
 have o:=mN (λi=>decide (i∈aM b g)) (aM b c);have f:=ph P.d.p.v.a p b;refine Ou.rq P.f22 ?_;show Ou _ _ _ [o0 (wd p b),o0 (.int g),o0 (.int c),none] _ _ _ _;generalize wd p b=W at m l f;refine Ou.set (x:=(1,.lst ((aM b g).map .int))) (by simp[f,ij,m]) ?_;exact Ou.ret (x:=(99,.bl ((aM b c).any λi=>decide (i∈aM b g)))) (by simp[f,ij,l,r,t,Function.comp_def,o]) rfl
def El n k r e p a x y (C:Cv p a)(u:x.2.2<a.length)(o:y.2.2<a.length):∃j,run G (n+7) 54 [(k,wd p a),(r,dD x),(e,dD y)]=.ret j (.bl (cH a x y)) []:=by
 obtain⟨s,m⟩:=BO P n 0 0 0 p a x.2.2 y.2.2 C u o;have d:=o6 x;have c:=nK x;have f:=o6 y;have b2:=nK y;have l:=Fm P p a;refine Ou.rq P.f54 ?_;show Ou _ _ _ [o0 (wd p a),o0 (dD x),o0 (dD y)] _ _ _ _;generalize wd p a=W at m l;generalize dD x=X at d c;generalize dD y=Y at f b2;by_cases h:x.2.2=y.2.2
 .refine Ou.iffT (j:=99) (by simp[-aR,c,b2,De,h]) ?_;exact Ou.ret (x:=(99,.bl true)) rfl (by simp[cH,h])
 .have q:¬(x.2.2:Int)=y.2.2:=by omega
  refine Ou.iffN (j:=99) (by simp[-aR,c,b2,De,q]) ?_;by_cases g:x.1=y.1
  .have b:(x.1:Int)=y.1:=by omega
   refine Ou.ret (x:=(s,.bl ((aM a y.2.2).any λi=>decide (i∈aM a x.2.2)))) (by simp[-aR,d,f,c,b2,De,b,l,nk,m]) ?_;rw[oz];have t:¬y.2.2=x.2.2:=λz=>h z.symm;simp[cH,t,g]
  .have b:¬(x.1:Int)=y.1:=by omega
   exact Ou.ret (x:=(99,.bl false)) (by simp[-aR,d,f,De,b]) (by simp[cH,h,g])
def CZ:br G 8 2=some (9,lN,.exc 8 []):=by
 simp[br,P.c8,P.f9,lN]
def ye n k c a b:run G (n+1) 9 [(1,.exc 8 []),(k,.int a),(c,.int b)]=.ret 99 .non [(1,.exc 8 [(5,.int a),(6,.int b)])]:=by
 rw[run,P.f9];simp[lN,cJ,bg]
def ti (n k J:Nat)(p:Nat)(l:ac)(g:List (Nat×Bool×Nat))(C:Cv p l)(hx:∀x∈g,x.2.2<l.length)(hl:g.length<=10):(∃j,run G (n+8) 55 [(k,wd p l),(J,.lst (g.map dD))]=.ret j .non []/\NoC l g g.length 0)\/∃i j,FC l g i j/\run G (n+8) 55 [(k,wd p l),(J,.lst (g.map dD))]=.exc 8 [(5,.int (i:Nat)),(6,.int (j:Nat))] []:=by
 have T:g.length<=SL:=bC hl (by decide);have Y:∀i,i<g.length->(at3 g i).2.2<l.length:=λi H=>hx _ (by simp only[at3,GP,GJ H,Option.getD_some]; exact G5 H);have N:=y6 g;have v:=λx y=>El P n 0 0 0 p l x y C;have hC:=λa b=>ye P (n+6) 0 0 a b;have:=Ou.both (G:=G) (n:=n+7) (f:=55) (vs:=[(k,wd p l),(J,.lst (g.map dD))]) (V:=λd=>d=.non/\NoC l g g.length 0) (X:=λc U=>∃i j:Nat,FC l g i j/\c=8/\U=[(5,.int i),(6,.int j)]) P.f55 (by
  show Ou _ _ _ [o0 (wd p l),o0 (.lst (g.map dD)),none,none,none,none] _ _ _ _;generalize wd p l=W at v;refine Ou.each (λ(n:Nat)=>D.tup [.int n,dD (at3 g n)]) (List.range g.length) (λpre a=>(∃x2 Z q r:az,a=[o0 W,o0 (.lst (g.map dD)),x2,Z,q,r])/\NoC l g pre.length 0) (vs:=[(0,.lst (g.map dD))]) rfl (by rw[wk_enum,N]) (by simpa using T) ⟨⟨none,none,none,none,by simp[frz1]⟩,λa b _ _ z=>by simp at z⟩ ?_ ?_
  .rintro pre i a1 a hr ⟨⟨x2,Z,q,r,A⟩,B⟩;subst A;obtain⟨H,L⟩:=nA hr;rw[<-H] at B;refine⟨_,qK rfl,?_⟩;refine Ou.each (λ(n:Nat)=>D.tup [.int n,dD (at3 g n)]) (List.range g.length) (λpre a=>(∃q r:az,a=[o0 W,o0 (.lst (g.map dD)),o0 (.int i),o0 (dD (at3 g i)),q,r])/\NoC l g i pre.length) (vs:=[(0,.lst (g.map dD))]) rfl (by rw[wk_enum,N]) (by simpa using T) ⟨⟨q,r,by simp[frz1]⟩,λa b t u z=>B a b t u (by simp only[List.length_nil] at z; omega)⟩ ?_ ?_
   .rintro w j a0 a I ⟨⟨q,r,A⟩,o⟩;subst A;obtain⟨hj,E⟩:=nA I;rw[<-hj] at o;refine⟨_,qK rfl,?_⟩;have next:∀(h:i<j->cH l (at3 g i) (at3 g j)=false),NoC l g i (w++[j]).length:=λh a b t u z=>by
     by_cases e:a=i/\b=j
     .obtain⟨rfl,rfl⟩:=e; exact h t
     .refine o a b t u ?_;simp only[GQ,List.length_singleton] at z;omega
    obtain⟨Q,s⟩:=v (at3 g i) (at3 g j) (Y i L) (Y j E);generalize hI:dD (at3 g i)=DI at s;generalize hJ:dD (at3 g j)=DJ at s;by_cases m:i<j
    .have M:(i:Int)<j:=by omega
     cases F:cH l (at3 g i) (at3 g j) with
     | true=>
      rw[F] at s;refine Ou.iffT (j:=Q) (by simp[m,P.f54,o4,s]) ?_;exact Ou.rais (j:=0) (fs:=[(5,.int (i:Nat)),(6,.int (j:Nat))]) (by simp[CZ P,lN,hC]) ⟨i,j,⟨m,E,F,o⟩,rfl,rfl⟩
     | false=>
      rw[F] at s;refine Ou.iffN (j:=Q) (by simp[m,P.f54,o4,s]) ?_;exact Ou.nil ⟨⟨o0 (.int j),o0 DJ,by simp⟩,next λ_=>F⟩
    .refine Ou.iffN (j:=99) (by simp[m]) ?_;exact Ou.nil ⟨⟨o0 (.int j),o0 DJ,by simp⟩,next λh=>absurd h m⟩
   .rintro a ⟨⟨q,r,A⟩,o⟩;subst A;refine Ou.nil ⟨⟨_,_,q,r,rfl⟩,λa b t u z=>o a b t u ?_⟩;simp only[GQ,List.length_singleton,IA] at z ⊢;omega
  .rintro a ⟨_,B⟩;rw[IA] at B;exact Ou.nil ⟨rfl,B⟩)
 rcases this with ⟨j,d,e,rfl,h⟩ | ⟨c,U,e,i,j,h,rfl,rfl⟩
 .exact .inl ⟨j,e,h⟩
 .exact .inr ⟨i,j,h,e⟩
end
def vX:(D.str "on").eq (.str "off")=false:=by decide +kernel
def Ch:(D.str "off").eq (.str "off")=true:=by decide +kernel
def B6 Z g:(wrND Z g).pur 60=true:=by
 unfold wrND;cases d8 Z g <;> rfl
theorem px:∀(r:aj) (x:Nat),∃m:Nat,(r.map Int.ofNat).foldl (λa b=>if b<a then b else a) (Int.ofNat x)=Int.ofNat m/\m∈x::r/\∀z∈x::r,m<=z
 | [],x=>⟨x,rfl,bP,λz c=>by simp at c; omega⟩
 | y::r,x=>by
  rw[GM,List.foldl_cons];by_cases h:y<x
  .have f:(Int.ofNat y)<Int.ofNat x:=by simpa using h
   rw[if_pos f];obtain⟨m,e,g,d⟩:=px r y;refine⟨m,e,bK _ g,λz c=>?_⟩;rcases ck c with rfl | c
   .have:=d y bP; omega
   .exact d z c
  .have f:¬(Int.ofNat y)<Int.ofNat x:=by simpa using h
   rw[if_neg f];obtain⟨m,e,g,d⟩:=px r x;have i:=d x bP;refine⟨m,e,?_,λz c=>?_⟩
   .rcases ck g with h | h
    .rw[h]; exact bP
    .exact bK _ (bK _ h)
   .rcases ck c with rfl | c
    .exact i
    .rcases ck c with rfl | c
     .omega
     .exact d z (bK _ c)
def xw (f:∀x∈l,x<6)(e:bq l=y::t):fi (natL l)=some (99,.int (y:Nat)):=by
 have d:y∈l:=by
  have:y∈bq l:=by rw[e]; exact bP
  simpa using (G1.mp this).2
 have g:(y::t).Pairwise (· < ·):=by rw[<-e]; exact List.pairwise_lt_range.filter _
 have le:∀z∈l,y<=z:=λz c=>by
  have:z∈y::t:=by rw[<-e]; exact (oB (f z c)).mpr c
  rcases ck this with rfl | h
  .exact bA _
  .exact HK ((Iu.mp g).1 z h)
 cases l with
 | nil=>cases d
 | cons x r=>
  obtain⟨m,k,i,j⟩:=px r x;have:m=y:=Nat.le_antisymm (j y d) (le m i);subst this;have n:dk (natL r)=some (r.map Int.ofNat):=by
   rw[<-tq,Jd]; rfl
  show (match dk (natL r) with | some is=>fI (is.foldl (λa b=>if b<a then b else a) (Int.ofNat x)) | none=>none)=_;rw[n];simp only[k];rfl
noncomputable def nW:Nat->Str
 | 7 => "deed"
 | 2 => "garment"
 | 3 => "worn"
 | 4 => "notworn"
 | 5 => "covered"
 | _ => "crossed"
noncomputable def bD (c:Nat)(fs:List aH):D:=.tup (.str (nW c)::fs.map (·.2))
noncomputable def eQ (a:Int)(w:Str)(b:Int):D:=.tup [.int a,.str w,.int b]
def Bp (a:isWd (.str w)=true):w = "on" \/ w = "off":=by
 rcases pT a with h | h
 .left; injection h
 .right; injection h
section
variable {G:Pg}(P:Pe G)
include P
def yW n k k' o p f Z a b w (C:Cv p f)(s:Sg f Z)(hl:Z.length<=3):(∃j a2 c fs,Rf f Z (eQ a w b) a2 c fs/\run G (n+2) 107 [(k,bf p f Z),(k',aK f),(o,eQ a w b)]=.ret j (bD c fs) [])\/∃j x,eQ a w b=dD x/\OkT f Z x/\run G (n+2) 107 [(k,bf p f Z),(k',aK f),(o,eQ a w b)]=.ret j .non []:=by
 have r:dI (λv=>some (99,D.int v.length)) (bf p f Z)=some (99,.int Z.length):=by simp[bf]
 have I:dI (λv=>some (99,D.int v.length)) (aK f)=some (99,.int f.length):=by simp[aK]
 have ew:isWd (.str w)=D.memb (.str w) [.str "on",.str "off"]:=rfl;have u:(∀T K:D,[o0 T,o0 K,o0 (eQ a w b),o0 (.int a),o0 (.str w),o0 (.int b)]=cP (λd=>(0,d)) [3,4,5] [.int a,.str w,.int b] (frz (Ex.var 2).names [o0 T,o0 K,o0 (eQ a w b),none,none,none])):=λT K=>by simp[frz1]
 by_cases E:(0<=a/\a<Z.length)/\isWd (.str w)=true
 rotate_left
 .refine .inl ?_;have hr:Rf f Z (eQ a w b) (.tup [.str "deed"]) 7 []:=.deed rfl rfl rfl (by
   by_cases F:isWd (.str w)=true
   .left
    have:¬(0<=a/\a<Z.length):=λz=>E ⟨z,F⟩;simp only[isB,Bool.and_eq_false_iff,decide_eq_false_iff_not];omega
   .right; simpa using F)
  obtain⟨j,e⟩:∃j,run G (n+2) 107 [(k,bf p f Z),(k',aK f),(o,eQ a w b)]=.ret j (bD 7 []) []:=by
   refine Ou.rq P.f107 ?_;show Ou _ _ _ [o0 (bf p f Z),o0 (aK f),o0 (eQ a w b),none,none,none] _ _ _ _;generalize bf p f Z=T at r;refine Ou.setT (j:=0) (ds:=[.int a,.str w,.int b]) rfl ?_;rw[<-u];refine Ou.iffT (j:=99) ?_ (Ou.ret (x:=(99,bD 7 [])) rfl rfl);by_cases Y:a<0
   .simp[Y]
   .by_cases a1:(Z.length:Int)<=a
    .simp[-dI,r,Y,a1]
    .have:isWd (.str w)=false:=by
      cases h:isWd (.str w) with
      | false=>rfl
      | true=>exact absurd ⟨⟨by omega,by omega⟩,h⟩ E
     rw[ew] at this;simp[-dI,r,Y,a1,this]
  exact⟨j,_,_,_,hr,e⟩
 .obtain⟨⟨Y,a1⟩,hw⟩:=E;obtain⟨q,rfl⟩:∃q:Nat,a=(q:Int):=⟨a.toNat,by omega⟩
  have N:q<Z.length:=by omega
  have J:=gP N;have Q:=hw;rw[ew] at Q;have a3:¬((q:Int)<0):=by omega
  have a4:¬((Z.length:Int)<=q):=by omega
  have c1:∀T K:D,dI (λv=>some (99,D.int v.length)) T=some (99,.int Z.length)->eval G (run G (n+1)) (Fr.sl [o0 T,o0 K,o0 (eQ q w b),o0 (.int q),o0 (.str w),o0 (.int b)]) (.or (.op .lt [(.var 3),(.cst (.int (0)))]) (.or (.op .ge [(.var 3),(.op .len [(.var 0)])]) (.op .nin [(.var 4),(.op .lst [(.cst (.str "on")),(.cst (.str "off"))])])))=.ok (99,.bl false):=λT K r=>by
   have A:¬(Z.length<=q):=by omega
   simp[-dI,r,A,Q]
  by_cases F:0<=b/\b<f.length
  rotate_left
  .refine .inl ?_;have hr:Rf f Z (eQ q w b) (.tup [.str "garment",.int b]) 2 [(2,.int b)]:=.no N hw rfl rfl (by
    simp only[isB,Bool.and_eq_false_iff,decide_eq_false_iff_not];omega)
   obtain⟨j,e⟩:∃j,run G (n+2) 107 [(k,bf p f Z),(k',aK f),(o,eQ q w b)]=.ret j (bD 2 [(2,.int b)]) []:=by
    refine Ou.rq P.f107 ?_;show Ou _ _ _ [o0 (bf p f Z),o0 (aK f),o0 (eQ q w b),none,none,none] _ _ _ _;generalize bf p f Z=T at r;generalize aK f=K at I;refine Ou.setT (j:=0) (ds:=[.int q,.str w,.int b]) rfl ?_;rw[<-u];refine Ou.iffN (j:=99) (c1 T K r) ?_;refine Ou.iffT (j:=99) ?_ (Ou.ret (x:=(99,bD 2 [(2,.int b)])) rfl rfl);by_cases b0:b<0
    .simp[b0]
    .have b1:(f.length:Int)<=b:=by omega
     simp[-dI,I,b0,b1]
   exact⟨j,_,_,_,hr,e⟩
  .obtain⟨b0,b1⟩:=F;obtain⟨g,rfl⟩:∃g:Nat,b=(g:Int):=⟨b.toNat,by omega⟩
   have L:g<f.length:=by omega
   have c2:∀T K:D,dI (λv=>some (99,D.int v.length)) K=some (99,.int f.length)->eval G (run G (n+1)) (Fr.sl [o0 T,o0 K,o0 (eQ q w g),o0 (.int q),o0 (.str w),o0 (.int g)]) (.or (.op .lt [(.var 5),(.cst (.int (0)))]) (.op .ge [(.var 5),(.op .len [(.var 1)])]))=.ok (99,.bl false):=λT K I=>by
    have A:¬(f.length<=g):=by omega
    simp[-dI,I,A]
   obtain⟨j2,l⟩:=pp P n 0 0 p f Z g C s hl;have pw:=B6 Z g;have start:∀R:D,(∀T K:D,run G (n+1) 137 [(0,T),(0,.int (g:Nat))]=.ret j2 (wrND Z g) []->(∀B,(∃j,run G (n+1) 138 [(0,bf p f Z),(0,aK f),(0,.int (q:Nat)),(0,.int (g:Nat))]=.ret j (.lst (natL B)) [])->∃j,run G (n+1) 138 [(0,T),(0,K),(0,.int (q:Nat)),(0,.int (g:Nat))]=.ret j (.lst (natL B)) [])->Ou G (run G (n+1)) [] [o0 T,o0 K,o0 (eQ q w g),o0 (.int q),o0 (.str w),o0 (.int g)] (mh.body.drop 3) (λ_=>False) (λd=>d=R) λ_ _ _=>False)->∃j,run G (n+2) 107 [(k,bf p f Z),(k',aK f),(o,eQ q w g)]=.ret j R []:=by
    intro R hR;refine Ou.rq P.f107 ?_;show Ou _ _ _ [o0 (bf p f Z),o0 (aK f),o0 (eQ q w g),none,none,none] _ _ _ _;have:=hR (bf p f Z) (aK f) l (λ_ h=>h);generalize bf p f Z=T at r this;generalize aK f=K at I this;refine Ou.setT (j:=0) (ds:=[.int q,.str w,.int g]) rfl ?_;rw[<-u];refine Ou.iffN (j:=99) (c1 T K r) ?_;exact Ou.iffN (j:=99) (c2 T K I) this
   rcases Bp hw with rfl | rfl
   .cases m:d8 Z g with
    | some i=>
     refine .inl ?_;obtain⟨j,e⟩:=start (bD 3 [(2,.int g)]) (λT K l _=>by
      have e:wrND Z g=.int i:=by simp[wrND,m]
      rw[e] at l;refine Ou.iffT (j:=99) (by simp[-eS,gH,la,P.f137,iq,l]) ?_;exact Ou.ret (x:=(99,bD 3 [(2,.int g)])) rfl rfl)
     exact⟨j,_,_,_,.worn N L m,e⟩
    | none=>
     refine .inr ?_;obtain⟨j,e⟩:=start .non (λT K l _=>by
      have e:wrND Z g=.non:=by simp[wrND,m]
      rw[e] at l;refine Ou.iffN (j:=99) (by simp[-eS,gH,la,P.f137,iq,l]) ?_;refine Ou.iffN (j:=99) (by simp[-eS,gH,fZ,vX]) ?_;refine Ou.iffN (j:=99) (by simp[-eS,gH,fZ,vX]) ?_;exact Ou.ret (x:=(99,.non)) rfl rfl)
     exact⟨j,(q,true,g),rfl,⟨⟨L,N,λ_=>m,(λe=>nomatch e)⟩,(λe=>nomatch e)⟩,e⟩
   .by_cases H:g∈Z.getD q []
    .have e2:wrND Z g=.int q:=by simp[wrND,ur s.nd J H]
     obtain⟨j3,X⟩:=wT P n 0 0 0 0 p f Z q g _ C s J H L;have wn:=s.wn (GV J);cases M:bq (dQ f (Z.getD q []) g) with
     | nil=>
      have U:=(vJ C wn).mp M;rw[U] at X;refine .inr ?_;obtain⟨j,e⟩:=start .non (λT K l h3=>by
       rw[e2] at l;obtain⟨j4,q4⟩:=h3 [] ⟨j3,X⟩;refine Ou.iffN (j:=99) (by simp[-eS,gH,fZ,jP]) ?_;refine Ou.iffN (j:=99) (by simp[-eS,fZ,P.f137,iq,l,De]) ?_;refine Ou.iffN (j:=99) (by simp[-eS,fZ,P.f138,kg,q4,De,Ds,natL]) ?_;exact Ou.ret (x:=(99,.non)) rfl rfl)
      exact⟨j,(q,false,g),rfl,⟨⟨L,N,(λe=>nomatch e),λ_=>H⟩,λ_=>U⟩,e⟩
     | cons y t=>
      refine .inl ?_;have m6:∀x∈dQ f (Z.getD q []) g,x<6:=λx hx=>by
       have:=wn.lt x (qH hx);have:=C.m6;omega
      have mn:=xw m6 M;have ne:dQ f (Z.getD q []) g≠[]:=λz=>by rw[(vJ C wn).mpr z] at M; cases M
      generalize dQ f (Z.getD q []) g=B at X mn ne;have pu:(natL B).all (D.pur 59)=true:=by simp[natL]
      have eu:D.eqs (natL B) []=false:=by
       cases B with
       | nil=>exact absurd rfl ne
       | cons _ _=>simp[natL,Ds]
      obtain⟨j,e⟩:=start (bD 5 [(2,.int g),(3,.int y)]) (λT K l h3=>by
       rw[e2] at l;obtain⟨j4,q4⟩:=h3 B ⟨j3,X⟩;refine Ou.iffN (j:=99) (by simp[-eS,gH,fZ,jP]) ?_;refine Ou.iffN (j:=99) (by simp[-eS,fZ,P.f137,iq,l,De]) ?_;refine Ou.iffT (j:=99) (by simp[-eS,-List.all_eq_true,fZ,P.f138,kg,q4,De,pu,eu]) ?_;exact Ou.ret (x:=(99,bD 5 [(2,.int g),(3,.int y)])) (by simp[P.f138,kg,q4,mn,bD,nW]) rfl)
      exact⟨j,_,_,_,.cov J H M,e⟩
    .refine .inl ?_;have W:(wrND Z g).eq (.int q)=false:=by
      unfold wrND;cases m:d8 Z g with
      | none=>rfl
      | some i=>
       have:¬(i:Int)=q:=λz=>by
        have:i=q:=by omega
        subst this;obtain⟨O,E,F⟩:=vi m;rw[J] at E;cases E;exact H F
       simp[De,this]
     obtain⟨j,e⟩:=start (bD 4 [(2,.int g)]) (λT K l _=>by
      generalize wrND Z g=WW at l pw W;refine Ou.iffN (j:=99) (by simp[-eS,gH,fZ,jP]) ?_;refine Ou.iffT (j:=99) (by simp[-eS,fZ,Ch,P.f137,iq,l,pw,W]) ?_;exact Ou.ret (x:=(99,bD 4 [(2,.int g)])) rfl rfl)
     exact⟨j,_,_,_,.not J L H,e⟩
end
noncomputable def thT (t:Int×Str×Int):D:=eQ t.1 t.2.1 t.2.2
inductive Bt (cs:ac) (Z:af) (ts:List (Int×Str×Int)):Nat->List aH->Prop
 | ref {pre suf:List (Int×Str×Int)} {t:Int×Str×Int} {xs:List (Nat×Bool×Nat)} {due:D} {c:Nat} {fs:List aH} (e:ts=pre++t::suf) (ex:pre.map thT=xs.map dD) (hx:∀x∈xs,OkT cs Z x) (h:Rf cs Z (thT t) due c fs):Bt cs Z ts c fs
 | crs {xs:List (Nat×Bool×Nat)} {i j:Nat} (ex:ts.map thT=xs.map dD) (hx:∀x∈xs,OkT cs Z x) (h:FC cs xs i j):Bt cs Z ts 8 [(5,.int i),(6,.int j)]
def Bd (b:ac)(Z:af)(c:List (Int×Str×Int))(a:List (Nat×Bool×Nat)):Prop:=c.map thT=a.map dD/\(∀x∈a,OkT b Z x)/\NoC b a a.length 0
def zp (h:i<a.length):aR (.lst (a.map dD)) (.int (i:Nat))=o0 (dD (at3 a i)):=by
 have b:(i:Int)<a.length:=by omega
 simp[aR,fh,b,h,at3]
def tD c a:d7 true (bD c a)=some (99,.bl true):=by simp[bD]
section
variable {G:Pg}(P:Pe G)
include P
def yf n k k' a1 p g Z v (C:Cv p g)(s:Sg g Z)(hl:Z.length<=3)(ht:v.length<=10):∃j d,run G (n+3) 82 [(k,bf p g Z),(k',aK g),(a1,.lst (v.map thT))]=.ret j d []/\((∃c u,Bt g Z v c u/\d=bD c u)\/∃f,Bd g Z v f/\d=.non):=by
 have hS:v.length<=SL:=bC ht (by decide);have a7:11<=SL:=by decide
 have hf:=λa w b=>yW P n 0 0 0 p g Z a b w C s hl;have J:=λx y=>wq P (n+1) 0 0 0 p g x y C;refine Ou.rv P.f82 ?_;show Ou _ _ _ [o0 (bf p g Z),o0 (aK g),o0 (.lst (v.map thT)),none,none,none,none] _ _ _ _;generalize bf p g Z=T at hf;generalize aK g=K at hf J;refine Ou.each thT v (λpre a=>∃(E B:az) (f:List (Nat×Bool×Nat)),a=[o0 T,o0 K,o0 (.lst (v.map thT)),E,B,none,none]/\pre.map thT=f.map dD/\∀x∈f,OkT g Z x) (vs:=[(0,.lst (v.map thT))]) rfl rfl hS ⟨none,none,[],by simp[frz1],rfl,λ_ h=>nomatch h⟩ ?_ ?_
 .rintro pre t a2 a e ⟨E,B,f,l,ex,I⟩;subst l;refine⟨_,eI rfl,?_⟩;rcases hf t.1 t.2.1 t.2.2 with ⟨j,a6,c,u,hr,q⟩ | ⟨j,x,e1,ok,q⟩
  .refine Ou.set (x:=(j,bD c u)) (by
    have q':run G (n+2) 107 [(0,T),(0,K),(0,thT t)]=.ret j (bD c u) []:=q;generalize bD c u=FF at q';simp[P.f107,mh,q']) ?_
   have nn:=tD c u;refine Ou.iffT (j:=99) (by
    generalize bD c u=FF at nn;simp[-d7,nn]) ?_
   exact Ou.ret (x:=(0,bD c u)) rfl (.inl ⟨c,u,.ref e ex I hr,rfl⟩)
  .have q':run G (n+2) 107 [(0,T),(0,K),(0,thT t)]=.ret j .non []:=q;refine Ou.set (x:=(j,.non)) (by simp[P.f107,mh,q']) ?_;refine Ou.iffN (j:=99) rfl ?_;refine Ou.nil ⟨o0 (thT t),o0 .non,f++[x],by simp[frz1],by rw[HU,HU,ex]; exact congrArg (λz=>f.map dD++[z]) e1,λy hy=>?_⟩;rcases dL hy with h | h
   .exact I y h
   .rw[GI.mp h]; exact ok
 .rintro a ⟨E,B,f,l,ex,I⟩;subst l;have ln:f.length=v.length:=by simpa using (congrArg List.length ex).symm
  have hg:∀i,i<f.length->(at3 f i).2.2<g.length:=λi Y=>(I _ (by simp only[at3,GP,GJ Y,Option.getD_some]; exact G5 Y)).ok.lt;rw[ex];have Q:f.length<=SL:=by omega
  have A:=λi (h:i<f.length)=>zp h;have lL:dI (λzs=>some (99,D.int zs.length)) (.lst (f.map dD))=some (99,.int f.length):=by simp
  generalize D.lst (f.map dD)=L at A lL;refine Ou.each (λ(n:Nat)=>D.int n) (List.range f.length) (λpre a=>(∃x5 r:az,a=[o0 T,o0 K,o0 L,E,B,x5,r])/\NoC g f pre.length 0) (vs:=[(99,.int f.length)]) (by simp[-dI,lL]) (wk_rng1 Q) (by simpa using Q) ⟨⟨none,none,by cases E <;> cases B <;> simp[frz1]⟩,λa b _ _ z=>by simp at z⟩ ?_ ?_
  .rintro pre i a2 a hr ⟨⟨x5,r,l⟩,N⟩;subst l;obtain⟨Y,M⟩:=nA hr;rw[<-Y] at N;refine⟨_,eI rfl,?_⟩;have U:=wk_rng2 (k:=99) (k':=99) (i:=(i:Int)+1) (j:=(f.length:Int)) (by omega) (by omega);have em:((f.length:Int) - ((i:Int)+1)).toNat=f.length - (i+1):=by omega
   rw[em] at U;refine Ou.each (λ(m:Nat)=>D.int ((i:Int)+1+m)) (List.range (f.length - (i+1))) (λpre a=>(∃r:az,a=[o0 T,o0 K,o0 L,E,B,o0 (.int i),r])/\NoC g f i (i+1+pre.length)) (vs:=[(99,.int ((i:Int)+1)),(99,.int f.length)]) (by simp[-dI,lL]) U (by simp; omega) ⟨⟨r,by cases E <;> cases B <;> cases r <;> simp[frz1]⟩,λa b W X z=>N a b W X (by dsimp only[List.length_nil] at z; omega)⟩ ?_ ?_
   .rintro a4 m a3 a a0 ⟨⟨r,l⟩,o⟩;subst l;obtain⟨hj,a5⟩:=nA a0;rw[<-hj] at o;refine⟨_,eI rfl,?_⟩;have F:i+1+m<f.length:=by omega
    obtain⟨jc,H⟩:=J (at3 f i) (at3 f (i+1+m)) (hg i M) (hg _ F);have i1:=A i M;have i2:=A (i+1+m) F;have ej:(i:Int)+1+m=((i+1+m:Nat):Int):=by omega
    rw[ej];generalize dD (at3 f i)=DI at H i1;generalize dD (at3 f (i+1+m))=DJ at H i2;cases hc:cH g (at3 f i) (at3 f (i+1+m)) with
    | true=>
     rw[hc] at H;refine Ou.iffT (j:=jc) (by dsimp only[List.set,Fr.sl,List.map,Option.map,ii,bG,de,cK,gc]; simp[-aR,-Int.natCast_add,i1,i2,P.f144,md,H]) ?_;exact Ou.ret (x:=(99,bD 8 [(5,.int i),(6,.int ((i+1+m:Nat):Int))])) rfl (.inl ⟨8,_,.crs ex I ⟨by omega,F,hc,o⟩,rfl⟩)
    | false=>
     rw[hc] at H;refine Ou.iffN (j:=jc) (by dsimp only[List.set,Fr.sl,List.map,Option.map,ii,bG,de,cK,gc]; simp[-aR,-Int.natCast_add,i1,i2,P.f144,md,H]) ?_;refine Ou.nil ⟨⟨_,rfl⟩,λa b W X z=>?_⟩;by_cases e:a=i/\b=i+1+m
     .obtain⟨rfl,rfl⟩:=e; exact hc
     .refine o a b W X ?_;simp only[GQ,List.length_singleton] at z;omega
   .rintro a ⟨⟨r,l⟩,o⟩;subst l;refine Ou.nil ⟨⟨_,r,rfl⟩,λa b W X z=>o a b W X ?_⟩;simp only[GQ,List.length_singleton,IA] at z ⊢;omega
  .rintro a ⟨⟨x5,r,l⟩,N⟩;subst l;rw[IA] at N;exact Ou.ret (x:=(99,.non)) rfl (.inr ⟨f,⟨ex,I,N⟩,rfl⟩)
end
def rW {b:List (Int×Str×Int)}{a:List (Nat×Bool×Nat)}{t:Int×Str×Int}(e:b.map thT=a.map dD)(h:t∈b):∃x∈a,thT t=dD x:=by
 have:thT t∈a.map dD:=by rw[<-e]; exact G4 h
 obtain⟨x,c,e⟩:=eJ this;exact⟨x,c,e.symm⟩
section
variable {G:Pg}(P:Pe G)
include P
def Bq (n k k' B:Nat)(p:Nat)(b:ac)(Z:af)(f:List (Int×Str×Int))(c:Nat)(fs:List aH)(C:Cv p b)(s:Sg b Z)(Y:Z.length<=3)(ht:f.length<=10)(h:Bt b Z f c fs):run G (n+10) 56 [(k,wd p b),(k',bj p b Z),(B,.lst (f.map thT))]=.exc c fs []:=by
 have hS:f.length<=SL:=bC ht (by decide);have v:∀x,OkT b Z x->∃j L,run G (n+9) 43 [(0,wd p b),(0,bj p b Z),(0,dD x)]=.ret j (bj p b L) []:=λx ok=>by
  obtain⟨j,q⟩:=kN P.d (n+1) 0 0 0 p b Z _ _ C s Y ok.dd;exact⟨j,_,q⟩
 obtain⟨U,z,e,rfl,rfl⟩:=Ou.runX (n:=n+9) (vs:=[(k,wd p b),(k',bj p b Z),(B,.lst (f.map thT))]) (X:=λU z=>U=c/\z=fs) P.f56 rfl rfl (by
  show Ou _ _ _ [o0 (wd p b),o0 (bj p b Z),o0 (.lst (f.map thT)),none] _ _ _ _;cases h with
  | @ref pre a0 t H N c fs e ex F hr=>
   have Q:=Bb P.d (n+1) 0 0 0 p b Z (thT t) N c fs C s Y hr;generalize wd p b=W at v Q;have E:∀x,OkT b Z x->∃j d,run G (n+9) 43 [(0,W),(0,bj p b Z),(0,dD x)]=.ret j d []:=λx o=>by
    obtain⟨j,L,q⟩:=v x o;exact⟨j,_,q⟩
   clear v;generalize bj p b Z=T at E Q;refine Ou.each thT f (λg a=>(∃w:az,a=[o0 W,o0 T,o0 (.lst (f.map thT)),w])/\g.length<=pre.length) (vs:=[(0,.lst (f.map thT))]) rfl rfl hS ⟨⟨none,by simp[frz1]⟩,by simp⟩ ?_ ?_
   .rintro g u s' a I ⟨⟨w,y⟩,hp⟩;subst y;refine⟨_,eI rfl,?_⟩;have g1:f[g.length]? = some u:=by rw[I]; simp
    by_cases m:g.length<pre.length
    .have g2:f[g.length]? = some pre[g.length]:=by rw[e,HR m,GJ m]
     have hu:u∈pre:=by
      rw[g1] at g2;cases g2;exact G5 m
     obtain⟨x,r,l⟩:=rW ex hu;obtain⟨j,d,q⟩:=E x (F x r);rw[<-l] at q;refine Ou.ex (x:=(j,d)) (by simp[P.d.f43,gX,q]) ?_;refine Ou.nil ⟨⟨o0 (thT u),by simp[frz1]⟩,by simp; omega⟩
    .have A:g.length=pre.length:=by omega
     have g2:f[g.length]? = some t:=by rw[e,A]; simp
     rw[g1] at g2;cases g2;exact Ou.exX (by simp[P.d.f43,gX,Q]) ⟨rfl,rfl⟩
   .rintro a ⟨_,hp⟩;have:=congrArg List.length e;simp at this;omega
  | @crs H i j ex F hF=>
   have a1:H.length=f.length:=by simpa using (congrArg List.length ex).symm
   have M:run G (n+9) 55 [(0,wd p b),(0,.lst (H.map dD))]=.exc 8 [(5,.int (i:Nat)),(6,.int (j:Nat))] []:=by
    rcases ti P (n+1) 0 0 p b H C (λx h=>(F x h).ok.lt) (by omega) with ⟨_,_,hn⟩ | ⟨i',j',J,e⟩
    .exact (hn.not hF).elim
    .obtain⟨rfl,rfl⟩:=hF.un J;exact e
   rw[<-ex] at M;generalize wd p b=W at v M;have E:∀x,OkT b Z x->∃j d,run G (n+9) 43 [(0,W),(0,bj p b Z),(0,dD x)]=.ret j d []:=λx o=>by
    obtain⟨j,L,q⟩:=v x o;exact⟨j,_,q⟩
   clear v;generalize bj p b Z=T at E;refine Ou.each thT f (λg a=>∃w:az,a=[o0 W,o0 T,o0 (.lst (f.map thT)),w]) (vs:=[(0,.lst (f.map thT))]) rfl rfl hS ⟨none,by simp[frz1]⟩ ?_ ?_
   .rintro g u s' a I ⟨w,y⟩;subst y;refine⟨_,eI rfl,?_⟩;obtain⟨x,r,l⟩:=rW ex (show u∈f by rw[I]; simp);obtain⟨j,d,q⟩:=E x (F x r);rw[<-l] at q;refine Ou.ex (x:=(j,d)) (by simp[P.d.f43,gX,q]) ?_;exact Ou.nil ⟨o0 (thT u),by simp[frz1]⟩
   .rintro a ⟨w,y⟩;subst y;exact Ou.exX (by simp[P.f55,ou,M]) ⟨rfl,rfl⟩)
 exact e
def mH (n k H v:Nat)(p:Nat)(b:ac)(Z:af)(c:List (Int×Str×Int))(f:List (Nat×Bool×Nat))(C:Cv p b)(s:Sg b Z)(z:Z.length<=3)(E:c.length<=10)(h:Bd b Z c f):∃j,run G (n+10) 56 [(k,wd p b),(H,bj p b Z),(v,.lst (c.map thT))]=.ret j (bj p b (f.foldl bY Z)) []:=by
 have L:c.length<=SL:=bC E (by decide);obtain⟨ex,l,A⟩:=h;have J:f.length=c.length:=by simpa using (congrArg List.length ex).symm
 have t:∀x,OkT b Z x->∃j d,run G (n+9) 43 [(0,wd p b),(0,bj p b Z),(0,dD x)]=.ret j d []:=λx ok=>by
  obtain⟨j,q⟩:=kN P.d (n+1) 0 0 0 p b Z _ _ C s z ok.dd;exact⟨j,_,q⟩
 obtain⟨F,r⟩:∃j,run G (n+9) 55 [(0,wd p b),(0,.lst (f.map dD))]=.ret j .non []:=by
  rcases ti P (n+1) 0 0 p b f C (λx h=>(l x h).ok.lt) (by omega) with ⟨j,e,_⟩ | ⟨N,U,i,e⟩
  .exact⟨j,e⟩
  .exact (A.not i).elim
 obtain⟨M,g⟩:=yn P.d n 0 0 0 p b Z _ (f.map dD) C s z (by simp; omega) (walk_of C s l A.pw);rw[<-ex] at r g;refine Ou.rq P.f56 ?_;show Ou _ _ _ [o0 (wd p b),o0 (bj p b Z),o0 (.lst (c.map thT)),none] _ _ _ _;generalize wd p b=W at t r g;generalize bj p b Z=T at t g;refine Ou.each thT c (λI a=>∃w:az,a=[o0 W,o0 T,o0 (.lst (c.map thT)),w]) (vs:=[(0,.lst (c.map thT))]) rfl rfl L ⟨none,by simp[frz1]⟩ ?_ ?_
 .rintro I u Q a B ⟨w,o⟩;subst o;refine⟨_,eI rfl,?_⟩;obtain⟨x,y,m⟩:=rW ex (show u∈c by rw[B]; simp);obtain⟨j,d,q⟩:=t x (l x y);rw[<-m] at q;refine Ou.ex (x:=(j,d)) (by simp[P.d.f43,gX,q]) ?_;exact Ou.nil ⟨o0 (thT u),by simp[frz1]⟩
 .rintro a ⟨w,o⟩;subst o;refine Ou.ex (x:=(F,.non)) (by simp[P.f55,ou,r]) ?_;exact Ou.ret (x:=(M,bj p b (f.foldl bY Z))) (by simp[frz1,P.d.f44,oi,g]) rfl
end
mutual
theorem pI:∀d:D,∀n,d.pur n=true->d.eq d=true:=by
 intro hZ;cases hZ with
 | lst a=>
  intro n h;cases n with
  | zero=>cases h
  | succ n=>exact zCP a n h
 | tup a=>
  intro n h;cases n with
  | zero=>cases h
  | succ n=>exact zCP a n h
 | ins _ _=>intro n h; cases n <;> cases h
 | exc _ _=>intro n h; cases n <;> cases h
 | non=>exact λ_ _=>rfl
 | bl b=>intro _ _; cases b <;> rfl
 | int i=>intro _ _; simp[De]
 | str s=>intro _ _; simp[De]
theorem zCP:∀a:ax,∀n,a.all (D.pur n)=true->D.eqs a a=true
 | [],_,_=>rfl
 | d::a,n,h=>by
  rw[List.all_cons,tw] at h;simp[Ds,pI d n h.1,zCP a n h.2]
end
def qo p a Z:(bj p a Z).pur 60=true:=by simp[bj,bo,bu,natL]
def E3 {a:List (Int×Str×Int)}(h:∀t∈a,t.2.1.cps.all (·<1114112)=true):(a.map thT).all (D.pur 59)=true:=by
 rw[List.all_map,List.all_eq_true];intro t b;have:=h t b;show (D.tup [.int t.1,.str t.2.1,.int t.2.2]).pur 59=true;simp only[tZ,Af,eS,List.all_cons,List.all_nil,this,JN]
def Db c:(nW c).cps.all (·<1114112)=true:=by
 have h:((Str.ofString "deed").cps.all (·<1114112))=true/\((Str.ofString "garment").cps.all (·<1114112))=true/\((Str.ofString "worn").cps.all (·<1114112))=true/\((Str.ofString "notworn").cps.all (·<1114112))=true/\((Str.ofString "covered").cps.all (·<1114112))=true/\((Str.ofString "crossed").cps.all (·<1114112))=true:=by decide +kernel
 unfold nW;split <;> first | exact h.1 | exact h.2.1 | exact h.2.2.1 | exact h.2.2.2.1 | exact h.2.2.2.2.1 | exact h.2.2.2.2.2
def FX (h:Bt m Z k c e):(bD c e).pur 59=true:=by
 have i:=Db c;have key:∀e:List aH,(e.map (·.2)).all (D.pur 58)=true->(bD c e).pur 59=true:=λe h=>by
  unfold bD;simp only[tZ,eS,List.all_cons,i,h,JN]
 refine key e ?_;cases h with
 | @ref _ _ t _ g c e _ _ _ f=>
  obtain⟨a,w,b⟩:=t;generalize hd:thT (a,w,b)=d at f;cases f with
  | deed=>rfl
  | no l j o n h=>
   cases hd;rfl
  | worn=>rfl
  | not=>rfl
  | cov=>rfl
 | crs=>rfl
def zv (h:e.Pairwise λx y=>cH f x y=false):NoC f e e.length 0:=λa b d c _=>by
 rw[List.pairwise_iff_getElem] at h;have:=h a b (Nat.lt_trans d c) c d;simpa[at3,c,Nat.lt_trans d c] using this
def Bd.rev (h:Bd f Z c d):Bd f Z c.reverse d.reverse:=by
 obtain⟨b,a,g⟩:=h;refine⟨by rw[List.map_reverse,List.map_reverse,b],λx i=>a x (Jo.mp i),zv ?_⟩;rw[List.pairwise_reverse];exact g.pw.imp λe=>by rw[oz]; exact e
def Fg (h:Z≠[]):aY (Z.map λO=>((1:Nat),rwL O))=1:=by
 cases Z with
 | nil=>exact absurd rfl h
 | cons O Z=>simp[aY,bg,rwL]
structure Pf (G:Pg):Prop where
 e:Pe G
 kinds:∀{n k cs Z ts c fs},Bt cs Z ts c fs->∃j,run G (n+1) 146 [(k,.exc c fs)]=.ret j (.lst [bD c fs]) []
 isx:∀{cs Z ts c fs},Bt cs Z ts c fs->aZ G (.exc c fs) (.cls 0)=true
section
variable {G:Pg}(P:Pf G)
include P
def Gy n k p a Z (C:Cv p a)(b:1<=Z.length/\Z.length<=3):run G (n+1) 141 [(k,bj p a Z)]=.ret 3 (bf p a Z) []:=by
 have h:Z.length<=SL:=bC b.2 (by decide);have f:p<=SL:=bC C.p6 (by decide);have c:∀R:af,aW (compF G (run G n) [none,none] (.one 1) [] (.op .list [(.var 1)])) (R.map bu)=.ok (R.map λr=>((1:Nat),rwL r)):=λR=>gO λr _=>by simp[compF,rwL,bu]
 have i:∀O,aY ((aJ a p O).map λr=>((1:Nat),rwL r))=1:=λO=>Fg λz=>by
  have:=congrArg List.length z;rw[ik] at this;have:=C.p1;simp at *; omega
 have j:aW (compF G (run G n) [none,none] (.one 1) [] (.comp [none,none] (.one 1) .seq [(.var 1)] [] (.op .list [(.var 1)]))) (Z.map λO=>bo (aJ a p O))=.ok (Z.map λO=>((2:Nat),wrL (aJ a p O))):=gO λO _=>by
  have d:(aJ a p O).length<=SL:=by rw[ik]; exact f
  simp[compF,wrL,c,d,bo,Function.comp_def,i]
 have g:aY (Z.map λO=>((2:Nat),wrL (aJ a p O)))=2:=by
  cases Z with
  | nil=>simp at b
  | cons O Z=>simp[aY,bg,wrL]
 rw[run,P.e.f141];simp[nD,bj,j,h,g,bf,Function.comp_def]
def Gj n k l d p a Z b c fs (C:Cv p a)(s:Sg a Z)(f:Z.length<=3)(o:b.length<=10)(h:Bt a Z b c fs):∃j,run G (n+11) 147 [(k,wd p a),(l,bj p a Z),(d,.lst (b.map thT))]=.ret j (.lst [bD c fs]) []:=by
 have q:=Bq P.e n 0 0 0 p a Z b c fs C s f o h;obtain⟨g,m⟩:=P.kinds (n:=n+9) (k:=0) h;have i:=P.isx h;refine Ou.rq P.e.f147 ?_;show Ou _ _ _ [o0 (wd p a),o0 (bj p a Z),o0 (.lst (b.map thT)),none,none] _ _ _ _;generalize wd p a=W at q;generalize bj p a Z=T at q;generalize D.lst (b.map thT)=L at q;refine Ou.set (x:=(99,.non)) rfl ?_;refine Ou.tryE ?_;refine Ou.exX (c:=c) (fs:=fs) (by simp[P.e.f56,lS,q]) ?_;refine⟨i,rfl,by simp[cN],rfl,by decide,by simp[cN],?_⟩;exact Ou.ret (x:=(g,.lst [bD c fs])) (by simp[cN,P.e.f146,pQ,m]) rfl
def xj (n k k1 k2 k3:Nat)(p:Nat)(cs:ac)(Z:af)(ts:List (Int×Str×Int))(C:Cv p cs)(s:Sg cs Z)(hl:1<=Z.length/\Z.length<=3)(ht:ts.length<=10)(hw:∀t∈ts,t.2.1.cps.all (·<1114112)=true):∃j,run G (n+12) 113 [(k,wd p cs),(k1,aK cs),(k2,bf p cs Z),(k3,.lst (ts.map thT))]=.ret j (.bl true) []:=by
 obtain⟨jf,qf⟩:=xt P.e (n+10) 0 p cs Z C hl.2;obtain⟨jd,d,qd,hd⟩:=yf P.e (n+8) 0 0 0 p cs Z ts C s hl.2 ht;have pl:=E3 hw;have el:=zCP _ 59 pl;refine Ou.rq P.e.f113 ?_;show Ou _ _ _ [o0 (wd p cs),o0 (aK cs),o0 (bf p cs Z),o0 (.lst (ts.map thT)),none,none,none,none,none,none] _ _ _ _;rcases hd with ⟨c,fs,hB,rfl⟩ | ⟨xs,hB,rfl⟩
 .obtain⟨jr,qr⟩:=Gj P n 0 0 0 p cs Z ts c fs C s hl.2 ht hB;have pf:=FX hB;have ef:=pI _ 59 pf;have nn:=tD c fs;generalize bD c fs=FF at qd qr pf ef nn;generalize wd p cs=W at qr;generalize aK cs=K at qd;generalize bf p cs Z=T at qf qd;generalize bj p cs Z=O at qf qr;generalize ts.map thT=L at qd qr pl el;refine Ou.set (x:=(jf,O)) (by simp[P.e.f140,k9,qf]) ?_;refine Ou.set (x:=(jd,FF)) (by simp[frz1,P.e.f82,nJ,qd]) ?_;refine Ou.set (x:=(1,.lst L)) rfl ?_;refine Ou.low (a':=[o0 W,o0 K,o0 T,o0 (.lst L),o0 O,o0 FF,o0 (.lst L),none,none,none]) (.of_eq rfl) ?_;refine Ou.iffT (j:=99) (by simp[-d7,nn]) ?_;exact Ou.ret (x:=(99,.bl true)) (by simp[-List.all_eq_true,P.e.f147,rT,qr,De,Ds,pf,ef,pl,el]) rfl
 .obtain⟨ex,hx,hn⟩:=hB;obtain⟨jb,qb⟩:=mH P.e (n+1) 0 0 0 p cs Z ts xs C s hl.2 ht ⟨ex,hx,hn⟩;obtain⟨jb2,qb2⟩:=mH P.e (n+1) 0 0 1 p cs Z ts.reverse xs.reverse C s hl.2 (by simpa using ht) (Bd.rev ⟨ex,hx,hn⟩);rw[yI hn.pw λx h=>(hx x h).ok.ql,List.map_reverse] at qb2;have qt:=Gy P (n+10) 0 p cs Z C hl;have hxl:xs.length=ts.length:=by simpa using (congrArg List.length ex).symm
  have okB:OkB cs Z xs:=⟨λx h=>(hx x h).ok,hn.pw,by omega⟩
  have qdn:=λi (hi:3<=i)=>v7 P.e (n+9) i 0 0 p cs Z xs C s hi okB;obtain⟨s',l',_⟩:=nQ (pre:=xs) (rest:=[]) (by simpa using okB.ok) (by simpa using okB.un.imp λh=>nU h) s;obtain⟨jf2,qf2⟩:=xt P.e (n+10) 0 p cs _ C (by rw[l']; exact hl.2);have po:=qo p cs (xs.foldl bY Z);have eo:=pI _ 60 po;have ty:aZ G (bj p cs (xs.foldl bY Z)) .tuple=true:=rfl;have fb3:∀z,3<=z->(bf p cs (xs.foldl bY Z)).fb z=true:=λz hz=>pY hz;rw[<-ex] at qdn;have ncv:D.fb 0 (aK cs)=false:=rfl;generalize bf p cs (xs.foldl bY Z)=T2 at qdn qf2 fb3;generalize bj p cs (xs.foldl bY Z)=O2 at qb qb2 qf2 po eo ty;generalize wd p cs=W at qb qb2;generalize aK cs=K at qd qdn ncv;generalize bf p cs Z=T at qf qd qt qdn;generalize bj p cs Z=O at qf qb qb2 qt;generalize ts.map thT=L at qd qb qb2 pl el qdn;refine Ou.set (x:=(jf,O)) (by simp[P.e.f140,k9,qf]) ?_;refine Ou.set (x:=(jd,.non)) (by simp[frz1,P.e.f82,nJ,qd]) ?_;refine Ou.set (x:=(1,.lst L)) rfl ?_;refine Ou.low (a':=[o0 W,o0 K,o0 T,o0 (.lst L),o0 O,o0 .non,o0 (.lst L),none,none,none]) (.of_eq rfl) ?_;refine Ou.iffN (j:=99) rfl ?_;refine Ou.set (x:=(jb,O2)) (by simp[P.e.f56,lS,qb]) ?_;refine Ou.set (x:=(jb2,O2)) (by simp[frz1,P.e.f56,lS,qb2]) ?_;refine Ou.low (a':=[o0 W,o0 K,o0 T,o0 (.lst L),o0 O,o0 .non,o0 (.lst L),o0 O2,o0 O2,none]) (.of_eq rfl) ?_;refine Ou.setD (j:=3) (x:=(3,T)) (by simp[P.e.f141,nD,qt]) (bA _) ?_;refine Ou.low (a':=[o0 W,o0 K,o0 T,o0 (.lst L),o0 O,o0 .non,o0 (.lst L),o0 O2,o0 O2,some (3,T)]) (.of_eq rfl) ?_;have ea:setA [(.var 1),(.var 3)] [(0,K),(0,.lst L)] [o0 W,o0 K,o0 T,o0 (.lst L),o0 O,o0 .non,o0 (.lst L),o0 O2,o0 O2,some (3,T)]=[o0 W,o0 K,o0 T,o0 (.lst L),o0 O,o0 .non,o0 (.lst L),o0 O2,o0 O2,some (3,T)]:=by
   dsimp only[setA,settle,ncv];simp[frz1]
  refine Ou.byref (k:=3) (k2:=3) (d:=T) (d':=T2) (F:=lB) (vs:=[(0,K),(0,.lst L)]) (by simp[dJ,P.e.f88,lB]) rfl (by rw[ea]; rfl) qdn fb3 ?_;rw[ea];exact Ou.ret (x:=(99,.bl true)) (by simp[-List.all_eq_true,P.e.f140,k9,qf2,po,eo,ty,pl,el,De]) rfl
end
def Ou.insK (m:a[x]? = some (some (k+1,.lst xs)))(s:eval G c a.sl e=.ok (jj,.int i))(t:eval G c a.sl (.var j)=.ok (0,d))(l:d.fb 0=true)(f:0<=i/\i.toNat<=xs.length)(n:xs.length<SL)(h:Ou G c io (a.set x (some (1,.lst (xs.take i.toNat++d::xs.drop i.toNat)))) p N V X) :
  Ou G c io a (.mut x [] .insert [e,.var j]::p) N V X:=
 .step λA r=>by
  obtain⟨u,g⟩:=r.own m;have o:cQ A[x]? = true:=by rw[g]; rfl
  have q:([(jj,.int i),(0,d)]:aw).all (λv=>v.2.fb v.1)=true:=by
   simp only[List.all_cons,List.all_nil,JN,l]; exact EY jj i
  have b:0<=i/\i.toNat<=xs.length/\xs.length<SL:=⟨f.1,f.2,n⟩
  simp only[k8,o,if_true,de,bG,r.sl,s,t,R.bind,R.toO,eU,q];rw[g];simp only[fe,t6,if_pos b];exact⟨_,r.set (.refl _) x,h⟩
noncomputable def tOf (x:Nat×Bool×Nat):Int×Str×Int:=(x.1,(if x.2.1 then "on" else "off"),x.2.2)
def FD (a:List (Nat×Bool×Nat)):(a.map tOf).map thT=a.map dD:=by rw[Jd]; rfl
def jC:((Str.ofString "on").cps.all (·<1114112))=true/\((Str.ofString "off").cps.all (·<1114112))=true/\((Str.ofString "On").cps.all (·<1114112))=true/\((Str.ofString "").cps.all (·<1114112))=true:=by decide +kernel
def FR x:(tOf x).2.1.cps.all (·<1114112)=true:=by
 obtain⟨q,b,g⟩:=x;cases b
 .exact jC.2.1
 .exact jC.1
def sm (h:v<6):∃w:Str,w.cps.all (·<1114112)=true/\aR (.lst [.str "on",.str "off",.str "on",.str "off",.str "On",.str ""]) (.int (v:Nat))=o0 (.str w):=by
 have a:v=0\/v=1\/v=2\/v=3\/v=4\/v=5:=by omega
 rcases a with rfl | rfl | rfl | rfl | rfl | rfl
 .exact⟨_,jC.1,rfl⟩
 .exact⟨_,jC.2.1,rfl⟩
 .exact⟨_,jC.1,rfl⟩
 .exact⟨_,jC.2.1,rfl⟩
 .exact⟨_,jC.2.2.1,rfl⟩
 .exact⟨_,jC.2.2.2,rfl⟩
section
variable {G:Pg}(P:Pe G)
include P
def kn (n k a:Nat)(b:ak)(j:Int)(e:0<=j):∃d c,run G (n+1) 135 [(k,.lst (b.map .int)),(a,.int j)]=.ret d (.int c) []:=by
 obtain⟨u,rfl⟩:∃u:Nat,j=(u:Int):=⟨j.toNat,by omega⟩
 obtain⟨d,q⟩:=Fu P n k a b u;exact⟨d,_,q⟩
def Az (n k Q k2 M:Nat)(r:ak)(p:List (Int×Str×Int))(l m:Nat)(B:p.length<=6)(hw:∀t∈p,t.2.1.cps.all (·<1114112)=true):∃(j:Nat) (b:List (Int×Str×Int)),run G (n+2) 80 [(k,.lst (r.map .int)),(Q,.lst (p.map thT)),(k2,.int l),(M,.int m)]=.ret j (.lst (b.map thT)) []/\b.length<=8/\∀t∈b,t.2.1.cps.all (·<1114112)=true:=by
 have a0:11<=SL:=by decide
 obtain⟨d5,c5,T⟩:=kn P n 0 99 r 5 (by decide);obtain⟨v,jv,qv,v0,v1⟩:=gg P n d5 99 99 c5 2 3 (by decide) (by decide);obtain⟨q,rfl⟩:∃q:Nat,v=(q:Int):=⟨v.toNat,by omega⟩
 have hq:q<=2:=by omega
 have w:q<=SL:=by omega
 have hd:=λj X=>kn P n 0 99 r j X;have key:Ou G (run G (n+1)) [] [o0 (.lst (r.map .int)),o0 (.lst (p.map thT)),o0 (.int l),o0 (.int m),none,none,none,none,none] nM.body (λ_=>False) (λd=>∃b:List (Int×Str×Int),d=.lst (b.map thT)/\b.length<=8/\∀t∈b,t.2.1.cps.all (·<1114112)=true) λ_ _ _=>False:=by
  generalize D.lst (r.map .int)=NN at T hd;refine Ou.setD (j:=1) (x:=(1,.lst (p.map thT))) rfl (bA _) ?_;refine Ou.low (a':=[o0 NN,some (1,.lst (p.map thT)),o0 (.int l),o0 (.int m),none,none,none,none,none]) (.of_eq rfl) ?_;refine Ou.each (λ(n:Nat)=>D.int n) (List.range q) (λpre a=>∃(F I A z s:az) (b:List (Int×Str×Int)),a=[o0 NN,some (1,.lst (b.map thT)),o0 (.int l),o0 (.int m),F,I,A,z,s]/\b.length<=6+pre.length/\∀t∈b,t.2.1.cps.all (·<1114112)=true) (vs:=[(jv,.int (q:Int))]) (by simp[P.f135,gZ,T,P.f71,e7,qv]) (wk_rng1 w) (by simpa using w) ⟨none,none,none,none,none,p,by simp[frz1],by simpa using B,hw⟩ ?_ ?_
  .rintro pre i a1 a hr ⟨F,I,A,z,s,b,E,J,o⟩;subst E;obtain⟨hi,Z⟩:=nA hr;refine⟨_,eI rfl,?_⟩;obtain⟨d,c,qd⟩:=hd (6+(i:Int)) (by omega);refine Ou.set (x:=(d,.int c)) (by simp[P.f135,gZ,qd]) ?_;obtain⟨g,j1,m1,_,_⟩:=gg P n 0 99 99 c 1 ((l:Int)+2) (by omega) (by decide);obtain⟨L,j3,m3,a3,b3⟩:=gg P n 0 99 99 c 3 6 (by decide) (by decide);obtain⟨y,j4,m4,_,_⟩:=gg P n 0 99 99 c 4 ((m:Int)+2) (by omega) (by decide);obtain⟨N,j5,U,a5,b5⟩:=gg P n 0 99 99 c 5 ((b.length:Int)+1) (by omega) (by decide);obtain⟨u3,rfl⟩:∃u:Nat,L=(u:Int):=⟨L.toNat,by omega⟩
   obtain⟨H,rfl⟩:∃u:Nat,N=(u:Int):=⟨N.toNat,by omega⟩
   obtain⟨f,C,Y⟩:=sm (v:=u3) (by omega);refine Ou.low (a':=[o0 NN,some (1,.lst (b.map thT)),o0 (.int l),o0 (.int m),o0 (.int i),o0 (.int c),A,z,s]) (.of_eq rfl) ?_;refine Ou.set (x:=(99,.int (g - 1))) (by simp[P.f71,e7,m1]) ?_;refine Ou.low (a':=[o0 NN,some (1,.lst (b.map thT)),o0 (.int l),o0 (.int m),o0 (.int i),o0 (.int c),o0 (.int (g - 1)),z,s]) (.of_eq rfl) ?_;refine Ou.set (x:=(0,.str f)) (by simp[-aR,P.f71,e7,m3,Y]) ?_;refine Ou.low (a':=[o0 NN,some (1,.lst (b.map thT)),o0 (.int l),o0 (.int m),o0 (.int i),o0 (.int c),o0 (.int (g - 1)),o0 (.str f),s]) (.of_eq rfl) ?_;refine Ou.set (x:=(99,thT (g - 1,f,y - 1))) (by simp[P.f71,e7,m4,thT,eQ]) ?_;refine Ou.low (a':=[o0 NN,some (1,.lst (b.map thT)),o0 (.int l),o0 (.int m),o0 (.int i),o0 (.int c),o0 (.int (g - 1)),o0 (.str f),o0 (thT (g - 1,f,y - 1))]) (.of_eq rfl) ?_;have lt':dI (λxs=>some (99,D.int xs.length)) (.lst (b.map thT))=some (99,.int b.length):=by simp
   refine Ou.insK (k:=0) (jj:=j5) (xs:=b.map thT) (i:=(H:Int)) (d:=thT (g - 1,f,y - 1)) rfl (by
    generalize D.lst (b.map thT)=LL at lt';simp[-dI,lt',P.f71,e7,U]) rfl rfl ⟨by omega,by simp; omega⟩ (by simp; omega) ?_
   refine Ou.nil ⟨o0 (.int i),o0 (.int c),o0 (.int (g - 1)),o0 (.str f),o0 (thT (g - 1,f,y - 1)),b.take H++(g - 1,f,y - 1)::b.drop H,by simp[IN,IP],?_,?_⟩
   .simp only[GQ,List.length_cons,HD,Ih,List.length_nil];omega
   .intro t B;rcases dL B with h | h
    .exact o t (List.mem_of_mem_take h)
    .rcases ck h with rfl | h
     .exact C
     .exact o t (List.mem_of_mem_drop h)
  .rintro a ⟨F,I,A,z,s,b,E,J,o⟩;subst E;rw[IA] at J;exact Ou.ret (x:=(0,.lst (b.map thT))) rfl ⟨b,rfl,by omega,o⟩
 obtain⟨j,d,e,b,rfl,h1,W⟩:=Ou.rv (vs:=[(k,.lst (r.map .int)),(Q,.lst (p.map thT)),(k2,.int l),(M,.int m)]) P.f80 key;exact⟨j,b,e,h1,W⟩
end
def Eo (hp:1<=p/\p<=6)(hm:cs.length<=6)(ok:∀c∈cs,OkC p c):Cv p cs:=by
 have h:∀g,aM cs g=[]/\cs.length<=g\/OkC p (aM cs g):=λg=>by
  unfold aM;rw[GP];by_cases d:g<cs.length
  .rw[GJ d]; exact .inr (ok _ (G5 d))
  .rw[GR (by omega)]; exact .inl ⟨rfl,by omega⟩
 refine⟨hp.1,hp.2,hm,λg d=>?_,λg i b=>?_,λg=>?_,λg=>?_⟩
 .rcases h g with ⟨_,e⟩ | o
  .omega
  .exact o.ne
 .rcases h g with ⟨e,_⟩ | o
  .rw[e] at b; cases b
  .exact o.rg i b
 .rcases h g with ⟨e,_⟩ | o
  .rw[e]; exact .nil
  .exact o.nd
 .rcases h g with ⟨e,_⟩ | o
  .rw[e]; simp
  .exact o.ln
def AX (f:α->β)(b:List α) lo a:cutD (b.map f) lo a=(cutD b lo a).map f:=by
 simp[cutD,IN,IP]
def Fo (a:List α) lo b:(cutD a lo b).length<=a.length:=by
 unfold cutD;rw[HD,Ih];omega
section
variable {G:Pg}(P:Pf G)
include P
def rY:br G 17 2=some (18,lP,.ins 17 []):=by
 simp[br,P.e.d.p.v.a.c17,P.e.d.p.v.a.f18,lP]
def At (n k:Nat)(ns:ak)(hl:ns.length<=63):∃kk,run G (n+13) 69 [(k,.lst (ns.map .int))]=.ret kk (.bl true) []:=by
 obtain⟨d0,c0,q0⟩:=kn P.e (n+11) 0 99 ns 0 (by decide);obtain⟨d1,c1,q1⟩:=kn P.e (n+11) 0 99 ns 1 (by decide);obtain⟨d2,c2,q2⟩:=kn P.e (n+11) 0 99 ns 2 (by decide);obtain⟨d3,c3,q3⟩:=kn P.e (n+11) 0 99 ns 3 (by decide);obtain⟨d4,c4,q4⟩:=kn P.e (n+11) 0 99 ns 4 (by decide);obtain⟨v0,e0,m0,a0,b0⟩:=gg P.e (n+11) d0 99 99 c0 1 6 (by decide) (by decide);obtain⟨v1,e1,m1,a1,b1⟩:=gg P.e (n+11) d1 99 99 c1 1 7 (by decide) (by decide);obtain⟨v2,e2,m2,a2,b2⟩:=gg P.e (n+11) d2 99 99 c2 1 3 (by decide) (by decide);obtain⟨p,hp⟩:∃p:Nat,1+v0=(p:Int):=⟨(1+v0).toNat,by omega⟩
 obtain⟨m,rfl⟩:∃m:Nat,v1=(m:Int):=⟨v1.toNat,by omega⟩
 obtain⟨l,a9⟩:∃l:Nat,1+v2=(l:Int):=⟨(1+v2).toNat,by omega⟩
 have H:1<=p/\p<=6:=by omega
 have a7:m<=6:=by omega
 have a8:1<=l/\l<=3:=by omega
 obtain⟨jc,f,qc,hm,ok⟩:=C1 P.e (n+10) d3 0 0 c3 p m H a7;have C:=Eo H (by omega) ok;have a3:f.length<=SL:=bC (by omega) (show 6<=SL by decide);have b6:101<=SL:=by decide
 have Q:aK f=.lst (f.map λc=>D.lst (c.map .int)):=rfl;have c5:aW (compF G (run G (n+12)) [none,none] (.one 1) [] (.op .list [.var 1])) (f.map λc=>D.lst (c.map .int))=.ok (f.map λc=>(1,.lst (c.map .int))):=
  gO λc _=>by simp[compF]
 have qw:∀k,run G (n+12) 18 [(1,.ins 17 []),(0,.int p),(k,aK f)]=.ret 99 .non [(100,wd p f)]:=λk=>BY P.e.d.p.v.a (n+8) 0 k p f (by omega) (by omega) (λc Y=>(ok c Y).gd) λc Y=>bC (ok c Y).ln (by decide);obtain⟨jb,qb,hb⟩:=D0 P.e (n+11) 0 0 p l f H a8;have w:Sg f (List.replicate l []):=⟨by simp,by simp⟩
 have lZ:(List.replicate l ([]:aj)).length=l:=by simp
 have ct:∀a b:Int,sl2D a (.lst (ns.map .int)) (.int b)=.ok (1,.lst ((cutD ns (some a) (some b)).map .int)):=λa b=>by simp[sl2D,AX]
 have b8:=Fo ns (some 8) (some 20);have a6:D.fb 0 (aK f)=false:=rfl;generalize List.replicate l ([]:aj)=Z at qb w lZ;refine Ou.rq P.e.f69 ?_;show Ou _ _ _ [o0 (.lst (ns.map .int)),none,none,none,none,none,none,none,none] _ _ _ _;refine Ou.set (x:=(99,.int p)) (by simp[P.e.f135,gZ,q0,P.e.f71,e7,m0,hp]) ?_;refine Ou.set (x:=(e1,.int m)) (by simp[frz1,P.e.f135,gZ,q1,P.e.f71,e7,m1]) ?_;refine Ou.low (a':=[o0 (.lst (ns.map .int)),o0 (.int p),o0 (.int m),none,none,none,none,none,none]) (.of_eq rfl) ?_;refine Ou.set (x:=(99,.int l)) (by simp[P.e.f135,gZ,q2,P.e.f71,e7,m2,a9]) ?_;refine Ou.set (x:=(jc,aK f)) (by simp[frz1,P.e.f135,gZ,q3,P.e.f99,ot,qc]) ?_;refine Ou.low (a':=[o0 (.lst (ns.map .int)),o0 (.int p),o0 (.int m),o0 (.int l),o0 (aK f),none,none,none,none]) (.of_eq rfl) ?_;refine Ou.setE (d:=wd p f) (by simp[Q,a3,c5,rY P,lP,Function.comp_def]; rw[<-Q]; simp[qw]) ?_;refine Ou.low (a':=[o0 (.lst (ns.map .int)),o0 (.int p),o0 (.int m),o0 (.int l),o0 (aK f),o0 (wd p f),none,none,none]) (.of_eq rfl) ?_;refine Ou.setD (j:=3) (x:=(jb,bf p f Z)) (by simp[P.e.f142,nP,qb]) hb ?_;refine Ou.low (a':=[o0 (.lst (ns.map .int)),o0 (.int p),o0 (.int m),o0 (.int l),o0 (aK f),o0 (wd p f),some (3,bf p f Z),none,none]) (.of_eq rfl) ?_;have M:=λI=>Az P.e (n+10) 0 0 0 0 ns I l m;generalize D.lst (ns.map .int)=N at ct q4 M;refine Ou.each D.int (cutD ns (some 8) (some 20)) (λpre a=>∃(J:az) (Z:af),a=[o0 N,o0 (.int p),o0 (.int m),o0 (.int l),o0 (aK f),o0 (wd p f),some (3,bf p f Z),J,none]/\Sg f Z/\Z.length=l) (vs:=[(1,.lst ((cutD ns (some 8) (some 20)).map .int))]) (by simp[ct,-sl2D]) rfl (by omega) ⟨none,Z,by simp[frz1],w,lZ⟩ ?_ ?_
 .rintro pre c b9 a Y ⟨J,Z,y,w,lZ⟩;subst y;refine⟨_,eI rfl,?_⟩;obtain⟨j,o,e,hj,B,_⟩:=ww P.e (n+8) 0 0 0 99 p 1 f Z c C w (by omega) (by decide);have A:run G (n+12) 145 [(0,bf p f Z),(0,aK f),(0,.int c),(99,.int 1)]=.ret j (.lst (o.map dD)) []:=e;obtain⟨s',l',_⟩:=nQ (pre:=o) (rest:=[]) (by simpa using B.ok) (by simpa using B.un.imp λh=>nU h) w;have r:=λi (hi:3<=i)=>v7 P.e (n+10) i 0 j p f Z o C w hi B;have X:∀z,3<=z->(bf p f (o.foldl bY Z)).fb z=true:=λz hz=>pY hz;have a5:(D.lst (o.map dD)).fb j=true:=by
   obtain⟨u,rfl⟩:∃u,j=u+1:=⟨j - 1,by omega⟩
   simp only[nN,List.all_map,List.all_eq_true];intro x _;cases u with
   | zero=>rfl
   | succ v=>cases v <;> rfl
  have y:setA [(.var 4),(.call 145 [(.var 6),(.var 4),(.var 7),(.cst (.int (1)))])] [(0,aK f),(j,.lst (o.map dD))] [o0 N,o0 (.int p),o0 (.int m),o0 (.int l),o0 (aK f),o0 (wd p f),some (3,bf p f Z),o0 (.int c),none]=[o0 N,o0 (.int p),o0 (.int m),o0 (.int l),o0 (aK f),o0 (wd p f),some (3,bf p f Z),o0 (.int c),none]:=by
   simp only[setA,settle,a6,a5];simp[frz1]
  have fin:∃(J:az) (Z':af),[o0 N,o0 (.int p),o0 (.int m),o0 (.int l),o0 (aK f),o0 (wd p f),some (3,bf p f (o.foldl bY Z)),o0 (.int c),none]=[o0 N,o0 (.int p),o0 (.int m),o0 (.int l),o0 (aK f),o0 (wd p f),some (3,bf p f Z'),J,none]/\Sg f Z'/\Z'.length=l:=⟨_,_,rfl,s',by omega⟩
  generalize bf p f (o.foldl bY Z)=T2 at r X fin;generalize bf p f Z=T at A r y;generalize D.lst (o.map dD)=L at A r y;generalize wd p f=W at y fin;generalize aK f=K at A r y fin;refine Ou.low (a':=[o0 N,o0 (.int p),o0 (.int m),o0 (.int l),o0 K,o0 W,some (3,T),o0 (.int c),none]) (.refl _) ?_;refine Ou.byref (k:=3) (k2:=3) (d:=T) (d':=T2) (F:=lB) (vs:=[(0,K),(j,L)]) (by simp[dJ,P.e.f88,lB]) (by simp[P.e.f145,lm,A]) (by rw[y]; rfl) r X ?_;rw[y];exact Ou.nil fin
 .rintro a ⟨J,Z,y,w,lZ⟩;subst y;obtain⟨j,o,e,hj,B,h6⟩:=ww P.e (n+8) 0 0 d4 99 p 6 f Z c4 C w (by omega) (by decide);rw[<-FD] at e;have hw:∀t∈o.map tOf,t.2.1.cps.all (·<1114112)=true:=λt ht=>by
   obtain⟨x,_,rfl⟩:=eJ ht;exact FR x
  have E:(o.map tOf).length<=6:=by simpa using h6
  generalize o.map tOf=I at e hw E;obtain⟨j1,q⟩:=xj P n 0 0 0 0 p f Z I C w (by omega) (by omega) hw;obtain⟨js,U,qs,b7,a4⟩:=M I E hw;obtain⟨j2,s⟩:=xj P n 0 0 0 js p f Z U C w (by omega) (by omega) a4;have A:run G (n+12) 145 [(0,bf p f Z),(0,aK f),(d4,.int c4),(99,.int 6)]=.ret j (.lst (I.map thT)) []:=e;generalize bf p f Z=T at A q s;generalize wd p f=W at q s;generalize aK f=K at A q s;generalize D.lst (I.map thT)=L at A q qs;generalize D.lst (U.map thT)=L2 at qs s;refine Ou.set (x:=(j,L)) (by simp[P.e.f135,gZ,q4,P.e.f145,lm,A]) ?_;refine Ou.low (a':=[o0 N,o0 (.int p),o0 (.int m),o0 (.int l),o0 K,o0 W,o0 T,J,o0 L]) (.of_eq rfl) ?_;refine Ou.iffN (j:=99) (by simp[P.e.f113,nH,q]) ?_;exact Ou.ret (x:=(j2,.bl true)) (by simp[P.e.f113,nH,P.e.f80,nM,qs,s]) rfl
end
noncomputable def Run.dat:Run->Option D
 | .ret _ d []=>some d
 | _=>none
theorem Run.of_dat:∀{r:Run} {d:D},r.dat=some d->∃j,r=.ret j d []
 | .ret j _ [],_,h=>⟨j,by cases h; rfl⟩
 | .ret _ _ (_::_),_,h=>by cases h
 | .exc _ _ _,_,h=>by cases h
 | .bad,_,h=>by cases h
def iT (h:Bt g Z f c e):∃j,run G_k31 (n+1) 146 [(k,.exc c e)]=.ret j (.lst [bD c e]) []:=by
 cases h with
 | @ref _ _ t _ _ _ _ _ _ _ h=>
  obtain⟨a,w,b⟩:=t;generalize hd:thT (a,w,b)=d at h;cases h with
  | no=>
   cases hd;exact Run.of_dat (by kernel_rfl)
  | _=>exact Run.of_dat (by kernel_rfl)
 | crs=>exact Run.of_dat (by kernel_rfl)
def l3 (h:Bt b Z e c a):aZ G_k31 (.exc c a) (.cls 0)=true:=by
 cases h with
 | ref _ _ _ h=>
  generalize thT _=d at h;cases h <;> rfl
 | crs=>rfl
def Fi:Pf G_k31:=⟨⟨⟨⟨⟨⟨rfl,rfl,rfl,rfl,rfl,rfl,rfl,rfl,rfl,rfl,rfl,rfl⟩,rfl,rfl,rfl,rfl⟩,rfl,rfl,rfl⟩,rfl,rfl,rfl,rfl,rfl,rfl,rfl,rfl,rfl⟩,rfl,rfl,rfl,rfl,rfl,rfl,rfl,rfl,rfl,rfl,rfl,rfl,rfl,rfl,rfl,rfl,rfl,rfl,rfl,rfl,rfl,rfl,rfl,rfl,rfl,rfl,rfl,rfl⟩,iT,l3⟩
def xB (a:ak)(b:a.length<=63):∃c,run G_k31 13 69 [(0,.lst (a.map .int))]=.ret c (.bl true) []:=At Fi 0 0 a b
end Ip
namespace Ek31
open PySem PySem.Spec PyProof.Rows L2
def FJ {W:Wd}(h:Hd.qD W.K nY=Hd.aD nY):DefAt W Ip.T_k31 Ip.l6 nY.f:=Hd.zi (ps:=["value", "depth"]) (io:=[]) (t:=29) (u:=.int 0 206) (v:=(.int 0)) (dd:=(.int 0)) h rfl (Hd.se (by kernel_rfl)) (by kernel_rfl) rfl rfl ⟨_,rfl⟩ (λ_=>.int) (λ_ _ _ _ _ _ _ _ _ _ lt s us KX hl=>by
 obtain⟨_,_,rfl⟩:=jQ (show us.length=2 by simpa using hl);first | exact .of_eq rfl | exact .of_defaults rfl (KX _ _ lt) rfl rfl rfl) (λ_ _ _ _ _ _ _ _ _ _ lt s us KX hl=>by
 obtain⟨_,rfl⟩:=kS (show us.length=1 by simpa using hl);exact .of_defaults rfl (KX _ _ lt) rfl rfl rfl)
def EZ:FnScope (Ip.fk (aO nr) (bW nr)) ["_law_script"] (bW nr):=(Hd.se (by kernel_rfl))
theorem yg:Ip.cF Ip.T_k31 [] nr=some Ip.qg:=by kernel_rfl
end Ek31
section
namespace Ek31
open PySem PySem.Spec PySem.W PySem.Calls PyProof.Rows L2 Hd
set_option maxHeartbeats 0
def facts {w:World}{K:Frag}{mg:Str->aA}{fa:Addr}{h:Heap}(hq:B.q lb K=B.a lb Ip.G_k31)(KX:K.In h)(Gl:h.Ns mainGlobals mg)(hmg:mg "law" = some (.ref fa)) :
  ∃fd:FuncData,(∀(s:Shared) (u:Value),BindsTo s fd ⟨[u],[]⟩ [("_law_script",u)])/\∀base:Heap,K.In base->base.Ns mainGlobals mg->FnOk Pw w K mg base (dM Pw w) (rm 13) fa fd ["_law_script"] (gy K):=by
 have A:=FL hq;obtain⟨g0,gt⟩:=B3 (T:=Ip.T_k31) (cw:=0) Ip.clL_k31 KX Gl A (λ_=>rfl) rfl (by decide +kernel) (by decide +kernel) rfl (by decide +kernel) (by decide +kernel)
  (Cn ⟨_,rfl,λh=>Hd.bV (ps:=["value"]) (io:=[]) h⟩ <| Cn ⟨_,rfl,λh=>Hd.bV (ps:=["value", "bound"]) (io:=[]) h⟩ <| Cn ⟨_,rfl,FJ⟩ <| Cn ⟨_,rfl,λh=>Hd.bV (ps:=["numbers"]) (io:=[]) h⟩ <| Cn ⟨_,rfl,λh=>Hd.bV (ps:=["told", "spots"]) (io:=[]) h⟩ <| Cn ⟨_,rfl,λh=>Hd.bV (ps:=["wardrobe", "garment"]) (io:=[]) h⟩ <| Cn ⟨_,rfl,λh=>Hd.bV (ps:=["wearing"]) (io:=[]) h⟩ <| Cn ⟨_,rfl,λh=>Hd.bV (ps:=["wardrobe", "wearing", "garment"]) (io:=[]) h⟩ <| Cn ⟨_,rfl,λh=>Hd.bV (ps:=["wardrobe", "wearing", "garment"]) (io:=[]) h⟩ <| Cn ⟨_,rfl,λh=>Hd.bV (ps:=["wardrobe", "wearing", "garment"]) (io:=[]) h⟩ <| Cn ⟨_,rfl,λh=>Hd.bV (ps:=["standing", "garment"]) (io:=[]) h⟩ <| Cn ⟨_,rfl,λh=>Hd.bV (ps:=["wardrobe", "standing", "garment"]) (io:=[]) h⟩ <| Cn ⟨_,rfl,λh=>Hd.bV (ps:=["wardrobe", "standing", "deed"]) (io:=[]) h⟩ <| Cn ⟨_,rfl,λh=>Hd.bV (ps:=["wardrobe", "standing", "deeds"]) (io:=[]) h⟩ <| Cn ⟨_,rfl,λh=>Hd.bV (ps:=["wardrobe", "one", "other"]) (io:=[]) h⟩ <| Cn ⟨_,rfl,λh=>Hd.bV (ps:=["wardrobe", "beat"]) (io:=[]) h⟩ <| Cn ⟨_,rfl,λh=>Hd.bV (ps:=["wardrobe", "standing", "beat"]) (io:=[]) h⟩ <| Cn ⟨_,rfl,λh=>Hd.bV (ps:=["_law_script", "_law_k"]) (io:=[]) h⟩ <| Cn ⟨_,rfl,λh=>Hd.bV (ps:=["_law_cell", "_law_turn", "_law_many"]) (io:=[]) h⟩ <| Cn ⟨_,rfl,λh=>Hd.bV (ps:=["_law_cell", "_law_k"]) (io:=[]) h⟩ <| Cn ⟨_,rfl,λh=>Hd.bV (ps:=["_law_cell", "_law_places", "_law_many"]) (io:=[]) h⟩ <| Cn ⟨_,rfl,λh=>Hd.bV (ps:=["_law_state", "_law_garment"]) (io:=[]) h⟩ <| Cn ⟨_,rfl,λh=>Hd.bV (ps:=["_law_state", "_law_covers_here", "_law_player", "_law_garment"]) (io:=[]) h⟩ <| Cn ⟨_,rfl,λh=>Hd.bV (ps:=["_law_state", "_law_covers_here", "_law_deed_here"]) (io:=[0]) h⟩ <| Cn ⟨_,rfl,λh=>Hd.bV (ps:=["_law_state"]) (io:=[]) h⟩ <| Cn ⟨_,rfl,λh=>Hd.bV (ps:=["_law_standing"]) (io:=[]) h⟩ <| Cn ⟨_,rfl,λh=>Hd.bV (ps:=["_law_players", "_law_places"]) (io:=[]) h⟩ <| Cn ⟨_,rfl,λh=>Hd.bV (ps:=["_law_state", "_law_covers_here", "_law_deed_here"]) (io:=[]) h⟩ <| Cn ⟨_,rfl,λh=>Hd.bV (ps:=["_law_covers_here", "_law_one", "_law_other"]) (io:=[]) h⟩ <| Cn ⟨_,rfl,λh=>Hd.bV (ps:=["_law_state", "_law_covers_here", "_law_number"]) (io:=[]) h⟩ <| Cn ⟨_,rfl,λh=>Hd.bV (ps:=["_law_state", "_law_covers_here", "_law_cell", "_law_most"]) (io:=[]) h⟩ <| Cn ⟨_,rfl,λh=>Hd.bV (ps:=["_law_state", "_law_covers_here", "_law_beat_here"]) (io:=[0]) h⟩ <| Cn ⟨_,rfl,λh=>Hd.bV (ps:=["_law_state", "_law_covers_here", "_law_deed_here"]) (io:=[]) h⟩ <| Cn ⟨_,rfl,λh=>Hd.bV (ps:=["_law_state", "_law_covers_here", "_law_beat_here"]) (io:=[]) h⟩ <| Cn ⟨_,rfl,λh=>Hd.bV (ps:=["_law_kept"]) (io:=[]) h⟩ <| Cn ⟨_,rfl,λh=>Hd.bV (ps:=["_law_wardrobe", "_law_standing", "_law_beat_here"]) (io:=[]) h⟩ <| Cn ⟨_,rfl,λh=>Hd.bV (ps:=["_law_script", "_law_beat_here", "_law_players", "_law_many"]) (io:=[]) h⟩ <| Cn ⟨_,rfl,λh=>Hd.bV (ps:=["_law_wardrobe", "_law_covers_here", "_law_state", "_law_beat_here"]) (io:=[]) h⟩ <| Cn ⟨_,rfl,λh=>Hd.bV (ps:=["_law_script"]) (io:=[]) h⟩ <| Nl)
  (Cn ⟨⟨_,rfl,λh=>Hd.bV (ps:=["self", "places", "covers"]) (io:=[0]) h⟩,rfl,_,rfl,rfl,rfl⟩ <| Nl)
  (Cn ⟨⟨_,rfl,λh=>Hd.bV (ps:=["self", "garment"]) (io:=[0]) h⟩,rfl,_,rfl,rfl,rfl⟩ <| Cn ⟨⟨_,rfl,λh=>Hd.bV (ps:=["self", "garment"]) (io:=[0]) h⟩,rfl,_,rfl,rfl,rfl⟩ <| Cn ⟨⟨_,rfl,λh=>Hd.bV (ps:=["self", "garment"]) (io:=[0]) h⟩,rfl,_,rfl,rfl,rfl⟩ <| Cn ⟨⟨_,rfl,λh=>Hd.bV (ps:=["self", "garment", "over"]) (io:=[0]) h⟩,rfl,_,rfl,rfl,rfl⟩ <| Cn ⟨⟨_,rfl,λh=>Hd.bV (ps:=["self", "first", "second"]) (io:=[0]) h⟩,rfl,_,rfl,rfl,rfl⟩ <| Nl)
  (Cn ⟨_,rfl,rfl⟩ <| Cn ⟨_,rfl,rfl⟩ <| Cn ⟨_,rfl,rfl⟩ <| Cn ⟨_,rfl,rfl⟩ <| Cn ⟨_,rfl,rfl⟩ <| Cn ⟨_,rfl,rfl⟩ <| Cn ⟨_,rfl,rfl⟩ <| Cn ⟨_,rfl,rfl⟩ <| Cn ⟨_,rfl,rfl⟩ <| Cn ⟨_,rfl,rfl⟩ <| Cn ⟨_,rfl,rfl⟩ <| Cn ⟨_,rfl,rfl⟩ <| Nl)
  (Cn ⟨_,rfl,λh=>Hd.bV (ps:=["self"]) (io:=[]) h⟩ <| Cn ⟨_,rfl,λh=>Hd.bV (ps:=["self", "garment"]) (io:=[]) h⟩ <| Cn ⟨_,rfl,λh=>Hd.bV (ps:=["self", "one", "other"]) (io:=[]) h⟩ <| Nl) (by decide +kernel) (by simp[B,Ip.T_k31]) (by decide +kernel) rfl (by decide +kernel)
 obtain⟨a1,_,a3⟩:=A.f vg (by simp[B]);have e:=hmg.symm.trans (mg_of KX Gl a1);cases e;exact Au (n:=13) g0 gt A.l rfl rfl (uv (IE a3).1) EZ yg rfl (λ_ _ _ _ _ _ _=>rfl) Ip.xB
noncomputable abbrev hk:Hook:=jG u9 (B.q lb) (B.a lb Ip.G_k31)
def left:LeftO Pw (view Pw [67]) looseL Xt (Hook.obs hk) (Hook.val hk) 5718:=
 xO (T0:=T0) (m₀:=11) (ann:=some (.ref 6)) (life:=λP=>(boot_heap P).life) (by kernel_rfl) (by decide) (λs=>rfl) (λw=>by kernel_rfl) t0 Dt
end Ek31
open PySem PySem.W PyProof.Rows L2 Hd in
set_option maxRecDepth 100000 in
set_option maxHeartbeats 0 in
theorem PySem.Challenge.cw_quickchange_k31_a_beat_done_holds : PySem.Challenge.rw_quickchange_k31_a_beat_done.Holds := by
 w_on; o_law
 refine holds_open (r:=PySem.Challenge.rw_quickchange_k31_a_beat_done.row) (q:=view Ek31.Pw [67]) (loose:=Ek31.looseL) (Xt:=Ek31.Xt) (XP:=XL (view Ek31.Pw [67]) []) (Yf:=Hook.obs Ek31.hk) (Ya:=Hook.val Ek31.hk) (YP:=Hook.says Ek31.hk) (N:=5718) Ek31.left (Hook.of Ek31.hk) (Hook.keeps Ek31.hk) (λs e=>xl_of s (H0.mp e).1) XL.keeps (by rfl) (by rfl) (by rfl) (λs e=>recFacts_of (H0.mp e).2) (by rfl) (by first | assumption | decide +kernel) (by decide +kernel) ⟨rfl,rfl,rfl,rfl,rfl,by decide +kernel⟩ ?hw ?hc
 case hw=>w_witness2
 case hc=>
  refine Cu (l:=PySem.Challenge.rw_quickchange_k31_a_beat_done) (n:=63) (k:=L2.rm 13) (x := "_law_script") (CX:=λw=>L2.dM PySem.Challenge.pw_quickchange_k31_a_beat_done w) (sp:=λ_ K=>L2.gy K) rfl (by decide) rfl ⟨rfl,by decide,by decide⟩ ?F ?S ?C
  case F=>exact λw K mg fa h hq KX G hmg=>Ek31.facts hq KX G hmg
  case S=>exact λw K H a ns hl _ hS=>⟨a,ns,rfl,hS,hl,λ_=>rfl⟩
  case C=>
   rintro w H s e s' ⟨_,_,_,_,_,_,_,_,_,_,_,_,_,_,z⟩;exact z
#print axioms PySem.Challenge.cw_quickchange_k31_a_beat_done_holds
end
