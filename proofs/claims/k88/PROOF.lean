import PyProof.Rows.All
import Wide.All
import OpenK.AllK
import Wide.FinOn
import Lean
import PyProof.EqAt
import PyProof.EqKinds
import PyProof.TupleCall
import PySem.Challenge.RW_undercells_k88_desks_by_turns
set_option autoImplicit true
set_option relaxedAutoImplicit true
set_option Elab.async false
set_option linter.all false
set_option maxRecDepth 100000
set_option compiler.extract_closed false
set_option maxHeartbeats 4000000
local macro_rules|`($a<|>$b)=>`(autoParam $a $b)
local macro_rules|`(command|abbrev $n:declId $s:optDeclSig $v:declVal)=>`(command|noncomputable def $n:declId $s:optDeclSig $v:declVal)|`(command|meta abbrev $n:declId $s:optDeclSig $v:declVal)=>`(command|@[reducible]noncomputable def $n:declId $s:optDeclSig $v:declVal)
local macro_rules|`(∅)=>`(by decide +kernel)
local macro_rules|`(⋯)=>`(by decide)
local macro_rules|`(tactic|dsimp[$l,*])=>`(tactic|simp only[$l,*])|`(tactic|dsimp[$l,*]$o:location)=>`(tactic|simp only[$l,*]$o:location)
local macro_rules(kind:=Lean.Parser.Term.structInst)|`({})=>`({cls:=.type "list",data:=.seq ([]:List PySem.Value).toArray})
set_option hygiene false
local macro_rules|`(tactic|room)=>`(tactic|obtain⟨ρ,S,τ,R,r,h⟩:=h9)
local macro_rules|`(tactic|z_go)=>`(tactic|intro pins s σ H Q I h)
local macro_rules|`(tactic|x_go)=>`(tactic|obtain⟨ρ,S,a,b,R,va,vb,h⟩:=h9)
local macro_rules|`(tactic|w_up)=>`(tactic|intro X hP hw hK hc i pins s σ H E I hf st hg)
local macro_rules|`(tactic|fin2)=>`(tactic|intro pins s σ H xs us Q I r h)
local macro_rules|`(tactic|k_ne)=>`(tactic|intro pins s σ H x y v u Q I rx ry h)
local macro_rules|`(tactic|kt_k)=>`(tactic|obtain⟨w,rfl,ρ,S,x,R,hv,h⟩:=KH h0)
local macro_rules|`(tactic|kd_p)=>`(tactic|obtain⟨f0,f1,f2,f3,f4,f5⟩:=hf it (by simp))
local macro_rules|`(tactic|gn_on)=>`(tactic|obtain⟨xs,hn,h⟩:=gD h)
local macro_rules|`(tactic|gp_on)=>`(tactic|obtain⟨ρ,S,τ,R,r,h⟩:=h)
local macro_rules|`(tactic|kj_on)=>`(tactic|obtain⟨t,rfl⟩:=rx)
local macro_rules|`(tactic|kcf_m)=>`(tactic|intro pins s σ H D I h)
local macro_rules|`(tactic|kcj_m)=>`(tactic|exact⟨ρ1,S1,τ,R1,r.ext e1,gq h1 e1 λ_ _ z=>z.ext e1⟩)
local macro_rules|`(tactic|kpc_g)=>`(tactic|have hfree:∀y∈scope.names,y.2=.free->∃c,X.env.cells.lookup y.1=some c:=λy hy e=>I.ok.has _ (S.fr y hy e))
local macro_rules|`(tactic|kpf_c)=>`(tactic|obtain⟨ρ,S,o,as,R,vo,va,h⟩:=h9)
local macro_rules|`(tactic|ksr_p)=>`(tactic|refine⟨ρ,S,τ,R,r,gq (gu h) .refl λx S1 h1 ρ1 H1 v e1 R1 v1=>?_⟩)
local macro_rules|`(tactic|kst_p)=>`(tactic|obtain⟨u,rfl,rx⟩:=vals1 r)
local macro_rules|`(tactic|kln_w)=>`(tactic|have k1:(PySem.W.hideAll g' (frs (X.env::X.outer))).StaysIn s'.heap:=λb o q=>M.keeps b o (cC _ q))
set_option hygiene true
local macro_rules|`(())=>`(by lia)
@[reducible]def am:=List Int
@[reducible]def ar:=List Nat
@[reducible]def ba:=List PySem.Str
@[reducible]def bd:=List PySem.Value
@[reducible]def be:=List PySem.Addr
@[reducible]def bi:=Option PySem.Value
@[reducible]def bj:=Option Int
@[reducible]def bo:=Option Bool
@[reducible]def bp:=Option Nat
@[reducible]def bt:=List<|PySem.Addr×PySem.Obj
def aG:=@PySem.wpAny_bind
def aH:=@List.length_map
def aI:=@List.getElem?_eq_some_iff
def aJ:=@Nat.le_refl
def aK:=@PySem.Heap.get?_push_of_some
def aL:=@List.getElem?_eq_getElem
def aM:=@PySem.wpAny_pure
def aN:=@List.size_toArray
def aO:=@if_neg
def aP:=@PySem.Heap.lt_size
def aQ:=@Option.some.inj
def aR:=@if_pos
def aS:=@List.getElem?_append_left
def aT:=@List.getElem?_set_ne
def aU:=@List.length_append
def aV:=@List.getD_eq_getElem?_getD
def aW:=@List.mem_cons_of_mem
def aX:=@Option.map_eq_some_iff
def aY:=@Nat.lt_of_lt_of_le
def aZ:=@List.mem_cons_self
def a_:=@List.mem_singleton
def bf:=@List.map_cons
def bh:=@Nat.ne_of_lt
def bq:=@List.length_cons
def br:=@List.mem_append_right
def bu:=@List.getElem?_set_self
def bx:=@List.length_set
def bz:=@PySem.Heap.get?_push_size
def bA:=@List.forall_mem_cons
def bB:=@decide_eq_true
def bC:=@Bool.false_ne_true
def bD:=@Option.bind_eq_some_iff
def bE:=@decide_eq_false
def bF:=@PySem.W.mg_none_of
def bG:=@beq_self_eq_true
def bH:=@PySem.sizeLine_eq
def bI:=@Nat.le_trans
def bJ:=@List.mem_cons
def bK:=@List.mem_append_left
def bL:=@List.append_assoc
def bM:=@Ne.symm
def bN:=@beq_eq_false_iff_ne
def bO:=@List.mem_append
def bP:=@List.mem_of_getElem?
def bQ:=@PySem.wpAny_newObj_type
def bR:=@List.mem_map
def bT:=@PySem.W.mg_of
def bU:=@PyProof.Rows.slot_tuple_getitem
def bV:=@PySem.mem_of_lookup
def bW:=@PySem.W.kia_one
def bX:=@List.append_nil
def bY:=@PySem.wpAny_mono
def bZ:=@List.map_append
def b_:=@PySem.wpAny_holding
def cg:=@Bool.and_eq_true
def cj:=@List.lookup_cons
def ck:=@Bool.not_true
def cz:=@PySem.W.hideAll_get
def cA:=@Array.length_toList
def cB:=@List.getElem?_map
def cC:=@PySem.W.of_hideAll
def cD:=@Nat.lt_succ_self
def cE:=@List.all_eq_true
def cF:=@List.find?_cons
def cG:=@List.filter_cons_of_neg
def cH:=@PySem.wpAny_truthy_bool
def cI:=@List.replicate_succ
def cJ:=@PySem.F.slot_dict_get
def cK:=@Option.bind_some
def cL:=@Option.isSome_iff_exists
def cM:=@List.map_map
def cN:=@List.filter_cons_of_pos
def cO:=@congrArg
def cP:=@PyProof.Rows.callWith_type1
def cQ:=@List.take_of_length_le
def cR:=@Nat.lt_irrefl
def cS:=@Option.getD_some
def cT:=@List.mem_filterMap
def cU:=@PySem.Heap.size_push
def cV:=@List.getElem?_append_right
def cW:=@Bool.false_eq_true
def cX:=@PySem.tupleKind_room_in1
def cY:=@List.getElem?_eq_none_iff
def cZ:=@PySem.wpAny_passesOwn
def c6:=@PySem.PassesOwn.never
def c7:=@PySem.wpAny_field
def c8:=@List.flatten_cons
def c9:=@List.range_eq_range'
def c_:=@List.filterMap_cons
def dc:=@List.length_reverse
def dg:=@List.range'_succ
def dh:=@List.prefix_refl
def di:=@PySem.W.cellsFrom_some
def dj:=@PySem.Heap.get?_update_other
def dw:=@PySem.F.entry_dict_get
def dz:=@List.prefix_append
def dB:=@List.any_cons
def dD:=@List.length_singleton
def dF:=@PySem.F.slot_str_join
def dG:=@PySem.F.type_str_join
def dH:=@if_true
def dI:=@List.nodup_append
def dJ:=@decide_eq_true_eq
def dM:=@of_decide_eq_true
def dN:=@beq_iff_eq
def dO:=@if_false
def dP:=@List.Perm.refl
def dQ:=@PySem.F.excBase_ValueError
def dR:=@Nat.le_of_lt
def dS:=@List.length_drop
def dW:=@List.filter_cons
def dX:=@List.getElem_mem
def dY:=@PySem.F.args_tuple_add_2
def dZ:=@PySem.F.slot_list_append
def d7:=@PySem.F.type_list_append
def d8:=@PySem.wpAny_execs_nil
def d_:=@List.nodup_cons
def ee:=@PySem.wpAny_Call_Name_kw
def ef:=@PySem.call_meets
def eg:=@Option.isSome_some
def eo:=@Int.emod_lt_of_pos
def er:=@Nat.zero_le
def ez:=@List.getElem?_replicate
def eB:=@PySem.F.entry_tuple_add
def eE:=@List.mem_range
def eF:=@PySem.codeAny_mono
def eG:=@PySem.F.slot_tuple_add
def eK:=@List.reverse_cons
def eN:=@Option.isSome_map
def eO:=@PySem.call_meetsIn
def eS:=@PySem.W.funFrames_hide
def eT:=@PySem.wpAny_noteFrame_againW
def eU:=@PySem.Heap.get?_update_self
def eV:=@List.length_filter_le
def eW:=@PySem.W.KIN.num_reads
def eX:=@List.getElem_inj
def eY:=@List.length_take
def eZ:=@PySem.wpAny_standAt
def e_:=@PySem.strLen_append
def ff:=@PySem.Sem.wp_pure
def fj:=@List.mem_iff_getElem
def fm:=@List.take_append_of_le_length
def fq:=@PyProof.Rows.joinParts_consE
def fu:=@Int.emod_nonneg
def fy:=@PySem.W.plainGet_of
def fB:=@ne_true_of_eq_false
def fD:=@List.filter_eq_self
def fE:=@PySem.Calls.Constant_str
def fF:=@PySem.Heap.IsSliceOf.new
def fG:=@PySem.typeIs_str
def fH:=@PySem.F.args_str_split_2
def fJ:=@PySem.Obj.data_mapFields
def fK:=@List.pairwise_cons
def fL:=@Array.getElem?_eq_some_iff
def fM:=@PySem.slot_list_getitem
def fN:=@PySem.F.entry_str_split
def fQ:=@PySem.Paired.length
def fR:=@PySem.evalPart_none
def fS:=@List.cons_append
def fU:=@List.not_mem_nil
def fV:=@Nat.ne_of_gt
def fW:=@PySem.wpAny_call
def fX:=@List.map_nil
def fY:=@List.map_set
def fZ:=@List.mem_filter
def f6:=@List.of_mem_zip
def f7:=@Bool.or_eq_true
def f9:=@Bool.and_false
def f_:=@List.drop_zero
def gf:=@Bool.not_false
@[reducible]def aa:=PySem.Value
@[reducible]def af:=PySem.World
@[reducible]def ah:=PySem.Program
@[reducible]def aj:=PySem.Addr
@[reducible]def ak:=PySem.Heap
@[reducible]def au:=PySem.W.Frag
@[reducible]def az:=PySem.Around
@[reducible]def aA:=PySem.Shared
@[reducible]def aE:=PySem.Expr
@[reducible]def aF:=PySem.Stmt
def anI{a b:Prop}(h:a)(k:b):a/\b:=⟨h,k⟩
open Array (all_toList)
open List (all_cons map_drop)
open Nat (log2_lt not_lt sub_self succ_mul zero_add)
open Option (getD_none isSome_none)
namespace L2
open PySem PySem.Spec PyProof.Rows
meta abbrev Key:=Sum Int Str
abbrev v5:Key->aa->Bool
 | .inl k,v=>Value.isInt k v
 | .inr x,v=>Value.isStrOf x v
abbrev Ur (w:af):Key->Int
 | .inl k=>hashInt k
 | .inr x=>hashStr w x
def iU:∀{k:Key}{v:aa},v5 k v=true->(∃i t,k=Sum.inl i/\v=Value.int i t)\/(∃x t,k=Sum.inr x/\v=Value.str x t)
 | .inl i,v,h=>by
  obtain⟨t,e⟩:=Value.isInt_shape (k:=i) (v:=v) h;exact .inl ⟨i,t,rfl,e⟩
 | .inr x,v,h=>by
  obtain⟨t,e⟩:=Value.isStrOf_shape (x:=x) (v:=v) h;exact .inr ⟨x,t,rfl,e⟩
def E3(i:Int)(t:Tok):v5 (.inl i) (.int i t)=true:=by simp[v5,Value.isInt]
def Ff(x:Str)(t:Tok):v5 (.inr x) (.str x t)=true:=by simp[v5,Value.isStrOf]
def NN(a b:Int):decide ((Sum.inl a:Key)=Sum.inl b)=(a == b):=by
 by_cases e:a=b
 ·subst e;simp
 ·have h:¬(Sum.inl a:Key)=Sum.inl b:=λq=>e<|Sum.inl.inj q;rw[bE h];exact(bN.mpr e).symm
def OD(a b:Str):decide ((Sum.inr a:Key)=Sum.inr b)=decide (a=b):=by
 by_cases e:a=b
 ·subst e;simp
 ·have h:¬(Sum.inr a:Key)=Sum.inr b:=λq=>e<|Sum.inr.inj q;rw[bE h,bE e]
def Oj(a:Int)(b:Str):decide ((Sum.inl a:Key)=Sum.inr b)=false:=bE λq=>nomatch q
def Pz(a:Str)(b:Int):decide ((Sum.inr a:Key)=Sum.inl b)=false:=bE λq=>nomatch q
abbrev g9 (prog:ah)(w:af):PySem.KeyKind prog w Key where
 is:=v5
 hash:=Ur w
 inj:=λv a b g d=>by
  rcases iU g with⟨i,t,rfl,rfl⟩|⟨x,t,rfl,rfl⟩
  ·rcases iU d with⟨j,u,rfl,e⟩|⟨y,u,rfl,e⟩
   ·injection e with e1 _;rw[e1]
   ·exact nomatch e
  ·rcases iU d with⟨j,u,rfl,e⟩|⟨y,u,rfl,e⟩
   ·exact nomatch e
   ·injection e with e1 _;rw[e1]
 byValue:=λk v h=>by
  rcases iU h with⟨i,t,rfl,rfl⟩|⟨x,t,rfl,rfl⟩<;>rfl
 pyHash:=λhv h=>by
  rcases iU hv with⟨i,t,rfl,rfl⟩|⟨x,t,rfl,rfl⟩
  ·exact wpAny_pyHash_int h
  ·exact wpAny_pyHash_str h
 eqBool:=λf hv h=>by
  rcases iU f with⟨i,t,rfl,rfl⟩|⟨x,t,rfl,rfl⟩
  ·rcases iU hv with⟨j,u,rfl,rfl⟩|⟨y,u,rfl,rfl⟩
   ·rw[NN]at h;exact wpAny_eqBool_int h
   ·rw[Oj]at h;exact SeqAt.EqAt.int_str i t y u _ _ _ _ h
  ·rcases iU hv with⟨j,u,rfl,rfl⟩|⟨y,u,rfl,rfl⟩
   ·rw[Pz]at h;exact SeqAt.EqAt.str_int x t j u _ _ _ _ h
   ·rw[OD]at h;exact wpAny_eqBool_str h
 «strs»:=λk x t v h=>by
  rcases iU h with⟨i,u,rfl,e⟩|⟨y,u,rfl,e⟩
  ·exact nomatch e
  ·injection e with e1 _
   subst e1
   cases v<;>rfl
def AM(prog:ah)(w:af)(i:Int)(t:Tok):(g9 prog w).is (.inl i) (.int i t)=true:=E3 i t
def Ay(prog:ah)(w:af)(x:Str)(t:Tok):(g9 prog w).is (.inr x) (.str x t)=true:=Ff x t
inductive V where
 | non|bl (b:Bool)|int (i:Int)|str (x:Str)|byt (b:Array UInt8)|flt (b:UInt64)|ref (a:aj)|ty (n:String)
 deriving DecidableEq
abbrev RelV:V->aa->Prop
 | .non,u=>u=Value.none
 | .bl b,u=>u=Value.bool b
 | .int i,u=>∃t,u=Value.int i t
 | .str x,u=>∃t,u=Value.str x t
 | .byt b,u=>∃t,u=Value.bytes b t
 | .flt b,u=>∃t,u=Value.float b t
 | .ref a,u=>u=Value.ref a
 | .ty n,u=>u=Value.type n
meta abbrev Vals:List V->bd->Prop:=Paired RelV
def Vals.length{xs:List V}{us:bd}(r:Vals xs us):xs.length=us.length:=fQ r
theorem Vals.get:∀{xs:List V}{us:bd}{i:Nat}{x:V},Vals xs us->xs[i]?=some x->∃u,us[i]?=some u/\RelV x u
 | _,_,_,_,.nil,e=>by simp at e
 | _,_,0,_,.cons r _,e=>by simp at e;subst e;exact⟨_,rfl,r⟩
 | _,_,i+1,x,.cons _ t,e=>by
  obtain⟨u,h1,d⟩:=Vals.get (i:=i) (x:=x) t (by simpa using e);exact⟨u,by simpa using h1,d⟩
theorem Vals.set{x:V}(r:RelV x u):∀{xs:List V}{us:bd}(i:Nat),Vals xs us->Vals (xs.set i x) (us.set i u)
 | _,_,_,.nil=>.nil
 | _,_,0,.cons _ t=>.cons r t
 | _,_,i+1,.cons q t=>.cons q<|Vals.set r i t
theorem Vals.append:∀{xs ys:List V}{us ws:bd},Vals xs us->Vals ys ws->Vals (xs++ys) (us++ws)
 | _,_,_,_,.nil,s=>s
 | _,_,_,_,.cons r t,s=>.cons r<|Vals.append t s
theorem Vals.take:∀{xs:List V}{us:bd}(n:Nat),Vals xs us->Vals (xs.take n) (us.take n)
 | _,_,0,_=>.nil
 | _,_,_+1,.nil=>.nil
 | _,_,n+1,.cons r t=>.cons r<|Vals.take n t
theorem Vals.drop:∀{xs:List V}{us:bd}(n:Nat),Vals xs us->Vals (xs.drop n) (us.drop n)
 | _,_,0,r=>r
 | _,_,_+1,.nil=>.nil
 | _,_,n+1,.cons _ t=>Vals.drop n t
abbrev oV:Option V->bi->Prop
 | some v,some u=>RelV v u
 | none,none=>True
 | _,_=>False
abbrev KV {κ:Type}:List (κ×V)->List (κ×aa)->Prop:=Paired λ(p:κ×V) (q:κ×aa)=>p.1=q.1/\RelV p.2 q.2
abbrev kV:Key->V
 | .inl i=>.int i
 | .inr x=>.str x
inductive HO where
 | lst (xs:List V)
 | tup (xs:List V)
 | dK (kvs:List<|Key×V)|dT (kvs:List<|List Key×V)
 | set (S:Int->Bool) (n:Nat)
 | ins (C dx:aj) (fs:List<|Str×V)
 | own (x:aj)
 | xd (fs:List<|Str×V)
 | met (f x:aj)
 | rng (lo hi:Int)
 | frz (o:Obj) (u:HO)
 | tbl (ps:Array aa)
 | ext (φ:ak->Prop)
meta abbrev Hp:=aj->Option HO
abbrev upd (H:Hp)(a:aj)(o:HO):Hp:=λb=>if b=a then some o else H b
def g8{H:Hp}{a:aj}{o:HO}:upd H a o a=some o:=by unfold upd;rw[aR rfl]
def gy{H:Hp}{a:aj}{o:HO}(h:b≠a):upd H a o b=H b:=by unfold upd;rw[aO h]
def QE{H:Hp}{a:aj}{o:HO}(h:H a=some o)(h':H b=some u)(d:o≠u):a≠b:=by
 intro e;subst e;rw[h]at h';exact d<|aQ h'
def gI{H:Hp}{a:aj}{o:HO}(h:H a=some o)(h':H b=none):a≠b:=by
 intro e;subst e;rw[h]at h';cases h'
abbrev kc (h:ak)(a:aj)(j:Array aa):Prop:=∃o,h.get? a=some o/\o.cls=.type "tuple" /\ o.dict=none/\∃n,o.data=.seq j n
def kc.tup{a:aj}:kc h a items->IsTup h a items:=λ⟨o,e,c,_,n,d⟩=>⟨o,e,c,n,d⟩
def kc.new(h:ak)(j:Array aa):kc (h.push { cls:=.type "tuple",data:=.seq j }) h.objs.size j:=⟨_,bz _ rfl,rfl,rfl,_,rfl⟩
def kc.lt{h:ak}{a:aj}(x:kc h a items):a<h.objs.size:=let⟨_,ho,_⟩:=x;aP ho
section
variable (P:ah) (w:af)
abbrev iS (H:Hp)(h:ak)(a:aj):HO->Prop
 | .lst xs=>xs.length<=sizeLine/\∃(d:bd) (n:Nat),Vals xs d/\h.get? a=some { cls:=.type "list",data:=.seq d.toArray n }
 | .tup xs=>xs.length<=sizeLine/\∃d:bd,Vals xs d/\kc h a d.toArray
 | .dK kvs=>kvs.length<=sizeLine/\(a == sysModules)=false/\∃k,KV kvs k/\h.DictOf (g9 P w) a k
 | .dT kvs=>kvs.length<=sizeLine/\(a == sysModules)=false/\∃xs:List<|List Key×aj×aa,
   Paired (λ(p:List Key×V) (q:List Key×aj×aa)=>p.1=q.1/\H q.2.1=some (.tup<|p.1.map kV)/\RelV p.2 q.2.2) kvs xs /\
   ∃o es m,h.get? a=some o/\o.ExactDict/\o.data=.dict es m/\es.toList=xs.map (entryOfKey<|tupleKind<|g9 P w)/\(xs.map (·.1)).Nodup
 | .set S n=>h.SetOf (intKind P w) a S n
 | .ins C dx fs=>H dx=some (.own a)/\fs.length<=1000/\dx≠a/\h.get? a=some (PySem.W.instObj C dx) /\
   ∃mA,h.Ns1 dx mA/\(∀f,oV (fs.lookup f)<|mA f)/\PySem.Within mA (fs.map (·.1))
 | .own _=>∃o,h.get? a=some o
 | .xd fs=>∃mA,h.Ns1 a mA/\∀f,oV (fs.lookup f) (mA f)
 | .rng lo hi=>∃t u v,h.get? a=some { cls:=.type "range",data:=.fields #[.int lo t,.int hi u,.int 1 v]}
 | .frz o u=>h.get? a=some o/\iS H h a u
 | .tbl ps=>h.get? a=some { cls:=.none,data:=.fields ps }
 | .met f x=>h.get? a=some (PySem.W.methodObj (.ref f)<|.ref x)
 | .ext g=>g h/\(∃o,h.get? a=some o)/\∀h1 j:ak,g h1->(∀o,h1.get? a=some o->j.get? a=some o)->g j
abbrev qh (H:Hp)(h:ak):Prop:=∀a o,H a=some o->iS P w H h a o
end
section
variable {P:ah}{w:af}{H H':Hp}{h h':ak}{a:aj}{o:HO}
def iS.lt(x:iS P w H h a o):a<h.objs.size:=by
 cases o with
 | lst xs=>obtain⟨_,_,_,_,e⟩:=x;exact aP e
 | tup xs=>obtain⟨_,_,_,p⟩:=x;exact kc.lt p
 | dK kvs=>obtain⟨_,_,_,_,o,_,_,e,_⟩:=x;exact aP e
 | dT kvs=>obtain⟨_,_,_,_,o,_,_,e,_⟩:=x;exact aP e
 | set S n=>obtain⟨o,_,_,_,e,_⟩:=x;exact aP e
 | ins C dx fs=>obtain⟨_,_,_,e,_⟩:=x;exact aP e
 | own y=>obtain⟨_,e⟩:=x;exact aP e
 | xd fs=>obtain⟨_,⟨_,_,_,e,_⟩,_⟩:=x;exact aP e
 | rng lo hi=>obtain⟨_,_,_,e⟩:=x;exact aP e
 | frz ob u=>obtain⟨e,_⟩:=x;exact aP e
 | tbl ps=>exact aP (show h.get? a=some _ from x)
 | met f y=>exact aP (show h.get? a=some _ from x)
 | ext d=>obtain⟨_,⟨_,e⟩,_⟩:=x;exact aP e
theorem Paired.NW{α β:Type}{F G:α->β->Prop}:∀{l₁:List α}{l₂:List β},Paired F l₁ l₂->(∀a b,F a b->G a b)->Paired G l₁ l₂
 | _,_,.nil,_=>.nil
 | _,_,.cons r t,f=>.cons (f _ _ r)<|Paired.NW t f
def iS.stay(x:iS P w H h a o)(k:∀b u,(b=a\/H b=some (.own a))->h.get? b=some u->h'.get? b=some u)
  (J:∀b,H b=some (.own a)->H' b=some (.own a)) (L:∀b xs,H b=some (.tup xs)->H' b=some (.tup xs)):iS P w H' h' a o:=by
 induction o with
 | lst xs=>obtain⟨z,j,n,r,e⟩:=x;exact⟨z,j,n,r,k _ _ (.inl rfl) e⟩
 | tup xs=>obtain⟨z,j,r,ob,e,c⟩:=x;exact⟨z,j,r,ob,k _ _ (.inl rfl) e,c⟩
 | dK kvs=>obtain⟨z,y,m,r,ob,es,g,e,c⟩:=x;exact⟨z,y,m,r,ob,es,g,k _ _ (.inl rfl) e,c⟩
 | dT kvs=>
  obtain⟨z,y,xs,r,ob,es,g,e,c⟩:=x;exact⟨z,y,xs,Paired.NW r λp q z=>⟨z.1,L _ _ z.2.1,z.2.2⟩,ob,es,g,k _ _ (.inl rfl) e,c⟩
 | set S n=>obtain⟨ob,es,g,t,e,c⟩:=x;exact⟨ob,es,g,t,k _ _ (.inl rfl) e,c⟩
 | ins C dx fs=>
  obtain⟨d,z,ne,e,mA,⟨od,es,g,e2,c⟩,r⟩:=x;exact⟨J _ d,z,ne,k _ _ (.inl rfl) e,mA,⟨od,es,g,k _ _ (.inr d) e2,c⟩,r⟩
 | own y=>obtain⟨ob,e⟩:=x;exact⟨ob,k _ _ (.inl rfl) e⟩
 | xd fs=>obtain⟨mA,⟨od,es,g,e,c⟩,r⟩:=x;exact⟨mA,⟨od,es,g,k _ _ (.inl rfl) e,c⟩,r⟩
 | rng lo hi=>obtain⟨t,u,v,e⟩:=x;exact⟨t,u,v,k _ _ (.inl rfl) e⟩
 | frz ob u B=>obtain⟨e,q⟩:=x;exact⟨k _ _ (.inl rfl) e,B q⟩
 | tbl ps=>
  have e:h.get? a=some { cls:=.none,data:=.fields ps }:=x
  skip
  exact k a _ (.inl rfl) e
 | met f y=>
  have e:h.get? a=some (PySem.W.methodObj (.ref f)<|.ref y):=x
  skip
  exact k a _ (.inl rfl) e
 | ext F=>obtain⟨p,⟨o,e⟩,st⟩:=x;exact⟨st _ _ p λo q=>k _ _ (.inl rfl) q,⟨o,k _ _ (.inl rfl) e⟩,st⟩
def qh.lt(x:qh P w H h)(e:H a=some o):a<h.objs.size:=(x a o e).lt
def qh.fresh(x:qh P w H h)(e:h.objs.size<=a):H a=none:=by
 cases q:H a with
 | none=>rfl
 | some u=>exact absurd (aY (x.lt q) e)<|cR _
def qh.kept(x:qh P w H h)(k:∀b u,h.get? b=some u->h'.get? b=some u):qh P w H h':=λa o e=>
 (x a o e).stay (λb u _ q=>k b u q) (λ_ q=>q) λ_ _ q=>q
def qh.laid(x:qh P w H h)(k:∀b u,h.get? b=some u->h'.get? b=some u)(hp:h.objs.size<=a)(new:iS P w (upd H a o) h' a o):qh P w (upd H a o) h':=λb u e=>by
 have hn:=x.fresh hp;by_cases d:b=a
 ·subst d;rw[g8]at e;cases e;exact new
 ·rw[gy d]at e;exact(x b u e).stay (λc v _ q=>k c v q) (λc q=>by rw[gy<|gI q hn];exact q) λc xs q=>by rw[gy<|gI q hn];exact q
end
abbrev Rd (H:Hp)(a:aj)(u:HO):Prop:=H a=some u\/∃o,H a=some (.frz o u)
def Rd.ok{P:ah}{w:af}{H:Hp}{a:aj}(r:Rd H a u)(x:qh P w H h):iS P w H h a u:=by
 rcases r with r|⟨o,r⟩
 ·exact x a u r
 ·obtain⟨_,q⟩:=x a _ r;exact q
abbrev Ry:Option HO->Prop
 | some (.lst _)=>True
 | some (.dK _)=>True
 | some (.dT _)=>True
 | some (.set _ _)=>True
 | some (.ins _ _ _)=>True
 | some (.ext _)=>True
 | _=>False
section
variable {P:ah}{w:af}{H:Hp}{h h':ak}{x e:aj}{o':HO}
def qh.write(ok:qh P w H h)(J:Ry<|H x)(U:e=x\/H e=some (.own x))(k:∀b u,b≠e->h.get? b=some u->h'.get? b=some u)(L:∃u,h'.get? e=some u)
  (new:iS P w (upd H x o') h' x o'):qh P w (upd H x o') h':=λb u q=>by
 have f:∀c y,H c=some (.own y)->c≠x:=λc y r z=>by subst z;rw[r]at J;exact J
 have g:∀c xs,H c=some (.tup xs)->c≠x:=λc xs r z=>by subst z;rw[r]at J;exact J
 by_cases j:b=x
 ·subst j;rw[g8]at q;cases q;exact new
 ·rw[gy j]at q;by_cases d:b=e
  ·have q':H b=some (.own x):=by
    rcases U with z|z
    ·exact absurd (d.trans z) j
    ·rw[d];exact z
   rw[q]at q';cases q';obtain⟨v,hv⟩:=L;exact⟨v,by rw[d];exact hv⟩
  ·refine(ok b u q).stay (λc v hc r=>k c v ?_ r) (λc r=>by rw[gy<|f c b r];exact r) λc xs r=>by rw[gy<|g c xs r];exact r
   rcases hc with rfl|hc
   ·exact d
   ·rintro rfl
    rcases U with z|z
    ·exact f c b hc z
    ·rw[hc]at z;cases z;exact j rfl
end
structure Un (fs ex:be)(H H':Hp)(h h':ak):Prop where
 keep:∀b o,h.get? b=some o->H b=none->b∉fs->b∉ex->h'.get? b=some o
 slot:∀b o,h.get? b=some o->H b=none->b∈fs->b∉ex->∃sl,h'.get? b=some { o with slots:=sl }
 free:∀b o,h.get? b=some o->H b=none->b∉ex->H' b=none
 there:∀b o,h.get? b=some o->b∉ex->∃o',h'.get? b=some o'
 tups:∀b xs,H b=some (.tup xs)->H' b=some (.tup xs)
 frzs:∀b o u,H b=some (.frz o u)->H' b=some (.frz o u)
 tbls:∀b ps,H b=some (.tbl ps)->∃more,H' b=some (.tbl<|ps++more)
section
variable {fs ex:be}{H H1:Hp}{h h1 h':ak}{a x e:aj}{o:HO}
def Un.any(u:Un fs ex H H1 h h1){ob:Obj}(q:h.get? b=some ob)(n:H b=none)(j:b∉ex):∃sl,h1.get? b=some { ob with slots:=sl }:=by
 by_cases d:b∈fs
 ·exact u.slot b ob q n d j
 ·exact⟨ob.slots,u.keep b ob q n d j⟩
def Un.kept(k:∀b u,h.get? b=some u->h'.get? b=some u):Un fs ex H H h h':=
 ⟨λb ob q _ _ _=>k b ob q,λb ob q _ _ _=>⟨ob.slots,k b ob q⟩,λ_ _ _ n _=>n,λb ob q _=>⟨ob,k b ob q⟩,λ_ _ q=>q,λ_ _ _ q=>q,λ_ ps q=>⟨#[],by rw[q];simp⟩⟩
def Un.refl:Un fs ex H H h h:=Un.kept λ_ _ q=>q
def Un.laid(k:∀b u,h.get? b=some u->h'.get? b=some u)(hp:h.objs.size<=a)(hn:H a=none):Un fs ex H (upd H a o) h h' where
 keep:=λb u q _ _ _=>k b u q
 slot:=λb u q _ _ _=>⟨u.slots,k b u q⟩
 free:=λb u q n _=>by rw[gy<|bh<|aY (aP q) hp];exact n
 there:=λb u q _=>⟨u,k b u q⟩
 tups:=λb xs q=>by rw[gy<|gI q hn];exact q
 frzs:=λb u xs q=>by rw[gy<|gI q hn];exact q
 tbls:=λb ps q=>⟨#[],by rw[gy<|gI q hn,q];simp⟩
def Un.write(J:Ry<|H x)(U:e=x\/H e=some (.own x))(k:∀b u,b≠e->h.get? b=some u->h'.get? b=some u)(L:∃u,h'.get? e=some u):Un fs ex H (upd H x o) h h':=by
 have j:∀b,H b=none->b≠x:=λb n z=>by subst z;rw[n]at J;exact J
 have g:∀b,H b=none->b≠e:=λb n z=>by
  subst z
  rcases U with r|r
  ·exact j b n r
  ·rw[n]at r;cases r
 have f:∀b u,H b=some u->¬Ry (some u)->b≠x:=λb u q nm z=>by subst z;rw[q]at J;exact nm J
 refine⟨λb u q n _ _=>k b u (g b n) q,λb u q n _ _=>⟨u.slots,k b u (g b n) q⟩,λb u q n _=>by rw[gy<|j b n];exact n,λb u q _=>?_,
  λb xs q=>by rw[gy<|f b _ q λz=>z];exact q,λb u xs q=>by rw[gy<|f b _ q λz=>z];exact q,λb ps q=>⟨#[],by rw[gy<|f b _ q λz=>z,q];simp⟩⟩
 by_cases d:b=e
 ·subst d;exact L
 ·exact⟨u,k b u d q⟩
end
abbrev Si (h:ak)(H:Hp):be:=(List.range h.objs.size).filter λa=>(H a).isSome
abbrev yL (h:ak)(H:Hp):ak:=PySem.W.hideAll h<|Si h H
def FG(h:ak)(H:Hp):(yL h H).objs.size=h.objs.size:=PySem.W.hideAll_size _ _
def IK{h:ak}{H:Hp}{o:Obj}(e:h.get? b=some o)(n:H b=none):(yL h H).get? b=some o:=
 cz _ e λd=>by
  have q:(H b).isSome=true:=(fZ.mp d).2;rw[n]at q;simp at q
def Lc{h:ak}{H:Hp}{o:Obj}(e:(yL h H).get? b=some o):h.get? b=some o/\H b=none:=by
 have d:h.get? b=some o:=cC (Si h H) e;refine⟨d,?_⟩
 cases q:H b with
 | none=>rfl
 | some x=>
  have f:b∈Si h H:=fZ.mpr ⟨eE.mpr<|aP d,by simp[q]⟩;have z:(yL h H).get? b=none:=PySem.W.hideAll_none (Si h H) f;rw[z]at e;cases e
abbrev Ll (g h:ak)(L:aj):bt:=(List.range h.objs.size).filterMap λa=>if a=L\/(g.get? a).isSome=true then none else(h.get? a).map λo=>(a,o)
abbrev rest (g h:ak)(L d:aj):bt:=(Ll g h L).filter λp=>decide<|p.1≠d
structure Mod (K:au)(mg:Str->bi)(base:ak):Prop where
 kin:K.In base
 glob:base.Ns mainGlobals mg
 blt:∃mb,base.Ns builtinsNs mb/\∀x:Str,x ≠ "__name__" -> mb x=bootBuiltins x
 nolimit:base.NoLimit
structure Cx where
 prog:ah
 w:af
 K:au
 mg:Str->bi
 base:ak
 A:az
 N:ba
 s₀:aA
 H₀:Hp
 env:Env
 outer:List Env
 stack:List Env
 ex:be
 fn:Str->Bool
 calm:Bool
 pn:bt
 xe:aa->aA->Prop
abbrev frs (l:List Env):be:=l.filterMap (·.frame)
meta abbrev Cx.fs (X:Cx):be:=frs X.outer
abbrev Sv (j:Scope)(x:Str):Prop:=j.names.lookup x=some .local\/j.names.lookup x=some .cell\/j.names.lookup x=some .free
abbrev Loc (j:Scope)(x:Str):Prop:=j.names.lookup x=some .local\/j.names.lookup x=some .cell
abbrev Look (env:Env)(h:ak)(m:Str->bi)(x:Str)(u:aa):Prop:=
 (env.kindOf x=some .local/\m x=some u)\/((env.kindOf x=some .cell\/env.kindOf x=some .free)/\∃c,env.cells.lookup x=some c/\h.IsCell c (some u))
structure Cx.Ok (X:Cx):Prop where
 mod:Mod X.K X.mg X.base
 kind:X.env.scope.kind=.function
 glob:X.env.globals=mainGlobals
 blt:X.env.builtins=builtinsNs
 above:X.s₀.heap.objs.size<=X.env.locals
 inj:∀x y c,X.env.cells.lookup x=some c->X.env.cells.lookup y=some c->x=y
 has:∀x,(X.env.kindOf x=some .cell\/X.env.kindOf x=some .free)->∃c,X.env.cells.lookup x=some c
 cab:∀x c,X.fn x=true->X.env.cells.lookup x=some c->X.s₀.heap.objs.size<=c
 hd:X.calm=true->X.A.handled=none
 frames:X.A.frames=some X.stack
 stk:X.stack=X.outer\/(X.stack=X.env::X.outer/\X.env.frame=some X.env.locals)
 exf:∀b∈X.ex,b≠X.env.locals/\∀x c,X.env.cells.lookup x=some c->c≠b
 bs:∀b o,X.base.get? b=some o->X.s₀.heap.get? b=some o/\X.H₀ b=none
 bsz:X.base.objs.size<=X.s₀.heap.objs.size
 noex:∀b o,X.base.get? b=some o->b∉X.ex
 exfs:∀b∈X.ex,b∉X.fs
 oW:X.s₀.heap.FunFrames X.base X.outer
 frf:∀b∈X.fs,X.H₀ b=none
structure Inv (X:Cx)(pins:bt)(σ:List (Option V))(H:Hp)(s:aA):Prop where
 ok:X.Ok
 os:s.os=X.s₀.os
 bare:AllBare s.gens
 base:Un X.fs X.ex X.H₀ H X.s₀.heap s.heap
 loc:∃m,s.heap.Ns X.env.locals m/\∀(i:Nat) (x:Str) (v:V),X.N[i]?=some x->σ[i]?=some (some v)->Sv X.env.scope x->∃u,RelV v u/\Look X.env s.heap m x u
 cell:∀x c,X.env.cells.lookup x=some c->∃v,s.heap.IsCell c v
 free:H X.env.locals=none
 freeC:∀x c,X.env.cells.lookup x=some c->H c=none
 pin:∀p∈X.pn++pins,s.heap.get? p.1=some p.2/\H p.1=none/\p.1≠X.env.locals/\p.1∉X.fs/\∀v,p.2.data≠.cell v
 hok:qh X.prog X.w H s.heap
 len:σ.length=X.N.length
section
variable {X:Cx}{pins:bt}{σ:List (Option V)}{H H':Hp}{s:aA}{h':ak}
def Cx.Ok.Um(ok:X.Ok){o:Obj}(e:X.base.get? b=some o):b∉X.fs:=λd=>by
 have:=(ok.oW.mem d).1;rw[e]at this;cases this
def Inv.bs(I:Inv X pins σ H s):∀b o,X.base.get? b=some o->s.heap.get? b=some o/\H b=none:=λb o e=>
 ⟨I.base.keep b o (I.ok.bs b o e).1 (I.ok.bs b o e).2 (I.ok.Um e)<|I.ok.noex b o e,I.base.free b o (I.ok.bs b o e).1 (I.ok.bs b o e).2<|I.ok.noex b o e⟩
def Inv.bk(I:Inv X pins σ H s):∀b o,X.base.get? b=some o->s.heap.get? b=some o:=λb o e=>(I.bs b o e).1
def Inv.mod(I:Inv X pins σ H s):Mod X.K X.mg X.base:=I.ok.mod
def Inv.rg(I:Inv X pins σ H s):X.K.In s.heap:=I.ok.mod.kin.keeps I.bk
def Inv.lt(I:Inv X pins σ H s):X.env.locals<s.heap.objs.size:=let⟨_,hn,_⟩:=I.loc;hn.lt
def Inv.sz(I:Inv X pins σ H s):X.s₀.heap.objs.size<=s.heap.objs.size:=bI I.ok.above<|dR I.lt
def Inv.Ud(I:Inv X pins σ H s){a:aj}(h:s.heap.objs.size<=a):a∉X.fs:=λd=>by
 obtain⟨_,o,f,_⟩:=I.ok.oW.mem d;exact absurd (aY (aP f)<|bI I.sz h)<|cR _
def Inv.Mf(I:Inv X pins σ H s):∀x c,X.env.cells.lookup x=some c->c≠X.env.locals:=λx c e z=>by
 obtain⟨v,o,g,hd⟩:=I.cell x c e;obtain⟨m,⟨o',es,j,d,f,_⟩,_⟩:=I.loc;rw[z,d]at g;cases g;rw[f]at hd;cases hd
def Inv.oW(I:Inv X pins σ H s):s.heap.FunFrames X.base X.outer:=by
 have all:∀(l:List Env),(∀b∈frs l,b∈X.fs)->X.s₀.heap.FunFrames X.base l->s.heap.FunFrames X.base l:=by
  intro l
  induction l with
  | nil=>intro _ _;trivial
  | cons env r g=>
   intro hs p;obtain⟨k,⟨L,o,hf,hn,m,hd⟩,j⟩:=p;have f:L∈X.fs:=hs L (by unfold frs;rw[c_,hf];exact aZ);obtain⟨B,e⟩:=I.base.slot L o m (I.ok.frf L f) f λz=>I.ok.exfs L z f;exact⟨k,⟨L,_,hf,hn,e,hd⟩,g (λb d=>hs b<|by unfold frs;rw[c_,hf];exact aW _ d) j⟩
 exact all X.outer (λ_ d=>d) I.ok.oW
def Inv.stack(I:Inv X pins σ H s):s.heap.FunFrames X.base X.stack:=by
 rcases I.ok.stk with e|⟨e,hf⟩
 ·rw[e];exact I.oW
 ·rw[e];obtain⟨m,hn,_⟩:=I.loc;refine .cons (by rw[I.ok.kind];decide) hf hn ?_ I.oW;exact Heap.get?_none_of_le<|bI I.ok.bsz I.ok.above
def Inv.tV(I:Inv X pins σ H s):∀b∈frs X.stack,b∈X.env.locals::X.fs:=λb d=>by
 rcases I.ok.stk with e|⟨e,hf⟩
 ·rw[e]at d;exact aW _ d
 ·rw[e]at d;unfold frs at d;rw[c_,hf]at d;exact d
def Inv.qg(I:Inv X pins σ H s):∀b∈frs X.stack,H b=none:=λb d=>by
 rcases bJ.mp (I.tV b d)with e|d
 ·rw[e];exact I.free
 ·obtain⟨_,o,f,_⟩:=I.ok.oW.mem d;exact I.base.free b o f (I.ok.frf b d) λz=>I.ok.exfs b z d
def Inv.step{g':Array GenState}{t':Nat}{d':Drawn}{ch:be}(I:Inv X pins σ H s)
  (U:∀b∈ch,(b∈X.ex\/X.s₀.heap.objs.size<=b)/\b≠X.env.locals/\(∀x c,X.env.cells.lookup x=some c->c≠b)/\∀p∈X.pn++pins,p.1≠b)
  (keep:∀b o,b≠X.env.locals->b∉X.fs->b∉ch->s.heap.get? b=some o->H b=none->h'.get? b=some o)
  (slot:∀b o,b≠X.env.locals->b∈X.fs->b∉ch->s.heap.get? b=some o->H b=none->∃sl,h'.get? b=some { o with slots:=sl }) (free:∀b o,b∉ch->s.heap.get? b=some o->H b=none->H' b=none)
  (there:∀b o,b∉ch->s.heap.get? b=some o->∃o',h'.get? b=some o')
  (tups:∀b xs,H b=some (.tup xs)->H' b=some (.tup xs)) (frzs:∀b o u,H b=some (.frz o u)->H' b=some (.frz o u)) (tbls:∀b ps,H b=some (.tbl ps)->∃more,H' b=some (.tbl<|ps++more))
  (ns:∀m,s.heap.Ns X.env.locals m->h'.Ns X.env.locals m) (Z:qh X.prog X.w H' h') (hg:AllBare g') :
  Inv X pins σ H' { s with heap:=h',gens:=g',drawn:=d',toks:=t' }:=by
 have G:∀b o,X.s₀.heap.get? b=some o->b≠X.env.locals:=λb o e=>bh<|aY (aP e) I.ok.above;have B:∀b o,X.s₀.heap.get? b=some o->b∉X.ex->b∉ch:=λb o e f C=>by
  rcases(U b C).1 with z|z
  ·exact f z
  ·exact absurd (aY (aP e) z)<|cR _
 have j:∀x c,X.env.cells.lookup x=some c->∀v,s.heap.IsCell c v->h'.IsCell c v:=λx c e v ⟨o,F,hd⟩=>by
  have g:c∉ch:=λz=>(U c z).2.2.1 x c e rfl;by_cases hc:c∈X.fs
  ·obtain⟨sl,q⟩:=slot c o (I.Mf x c e) hc g F<|I.freeC x c e;exact⟨_,q,hd⟩
  ·exact⟨o,keep c o (I.Mf x c e) hc g F<|I.freeC x c e,hd⟩
 refine⟨I.ok,I.os,hg,⟨λb o e n C f=>?_,λb o e n C f=>?_,λb o e n f=>?_,λb o e f=>?_,λb xs e=>tups b xs<|I.base.tups b xs e,λb o xs e=>frzs b o xs<|I.base.frzs b o xs e,λb ps e=>?_⟩,?_,λx c e=>?_,?_,λx c e=>?_,λp hp=>?_,Z,I.len⟩
 ·exact keep b o (G b o e) C (B b o e f) (I.base.keep b o e n C f) (I.base.free b o e n f)
 ·obtain⟨sl,e1⟩:=I.base.slot b o e n C f;obtain⟨J,e2⟩:=slot b _ (G b o e) C (B b o e f) e1<|I.base.free b o e n f;exact⟨J,e2⟩
 ·obtain⟨o',e1⟩:=I.base.there b o e f;exact free b o' (B b o e f) e1 (I.base.free b o e n f)
 ·obtain⟨o',e1⟩:=I.base.there b o e f;exact there b o' (B b o e f) e1
 ·obtain⟨L,e1⟩:=I.base.tbls b ps e;obtain⟨N,e2⟩:=tbls b _ e1;exact⟨L++N,by rw[e2,Array.append_assoc]⟩
 ·obtain⟨m,hn,O⟩:=I.loc;refine⟨m,ns m hn,λi x v e1 e2 e3=>?_⟩;obtain⟨u,r,l⟩:=O i x v e1 e2 e3;refine⟨u,r,?_⟩
  rcases l with l|⟨k,c,e,z⟩
  ·exact .inl l
  ·exact .inr ⟨k,c,e,j x c e _ z⟩
 ·obtain⟨v,z⟩:=I.cell x c e;exact⟨v,j x c e v z⟩
 ·obtain⟨m,⟨o,_,_,F,_⟩,_⟩:=I.loc;exact free _ o (λz=>(U _ z).2.1 rfl) F I.free
 ·obtain⟨v,o,F,hd⟩:=I.cell x c e;exact free c o (λz=>(U c z).2.2.1 x c e rfl) F (I.freeC x c e)
 ·obtain⟨e,n,ne,K,d⟩:=I.pin p hp;have g:p.1∉ch:=λz=>(U p.1 z).2.2.2 p hp rfl;exact⟨keep p.1 p.2 ne K g e n,free p.1 p.2 g e n,ne,K,d⟩
def Inv.un{t':Nat}(I:Inv X pins σ H s)(u:Un X.fs [] H H' s.heap h')(L:qh X.prog X.w H' h'):Inv X pins σ H' { s with heap:=h',toks:=t' }:=by
 obtain⟨m,⟨o,es,F,k,r⟩,_⟩:=id I.loc;obtain⟨G,p⟩:=u.any k I.free (by simp);exact I.step (g':=s.gens) (d':=s.drawn) (ch:=[]) (nofun) (λb o _ f _ e n=>u.keep b o e n f<|by simp) (λb o _ f _ e n=>u.slot b o e n f<|by simp) (λb o _ e n=>u.free b o e n<|by simp) (λb o _ e=>u.there b o e<|by simp) u.tups u.frzs u.tbls (λJ B=>by
  obtain⟨o',j,g,d,C⟩:=B;rw[k]at d;cases d;exact⟨_,j,g,p,C⟩) L I.bare
def Inv.call{g':Array GenState}{t':Nat}{d':Drawn}{ch:be}(I:Inv X pins σ H s)(u:Un (frs X.stack) ch H H' s.heap h')(U:qh X.prog X.w H' h')(hg:AllBare g')
  (L:∀b∈ch,(b∈X.ex\/X.s₀.heap.objs.size<=b)/\b≠X.env.locals/\(∀x c,X.env.cells.lookup x=some c->c≠b)/\∀p∈X.pn++pins,p.1≠b) :
  Inv X pins σ H' { s with heap:=h',gens:=g',drawn:=d',toks:=t' }:=by
 obtain⟨m,⟨o,es,G,k,r⟩,_⟩:=id I.loc;obtain⟨J,g⟩:=u.any k I.free λz=>(L _ z).2.1 rfl;exact I.step (ch:=ch) L (λb o g B hc e n=>u.keep b o e n (λz=>(bJ.mp<|I.tV b z).elim g B) hc) (λb o _ _ hc e n=>u.any e n hc) (λb o hc e n=>u.free b o e n hc) (λb o hc e=>u.there b o e hc) u.tups u.frzs u.tbls (λK C=>by
  obtain⟨o',j,f,d,F⟩:=C;rw[k]at d;cases d;exact⟨_,j,f,g,F⟩) U hg
def Inv.turned{t':Nat}{it:aj}(I:Inv X pins σ H s)(k:∀b o,b≠it->s.heap.get? b=some o->h'.get? b=some o)(hn:H it=none)(J:it≠X.env.locals)
  (h1:it∈X.ex\/X.s₀.heap.objs.size<=it) (L:∀x c,X.env.cells.lookup x=some c->c≠it) (U:∀p∈X.pn++pins,p.1≠it):Inv X pins σ H { s with heap:=h',toks:=t' }:=by
 have d:∀b u,H b=some u->b≠it:=λb u e z=>by rw[z,hn]at e;cases e
 refine I.step (g':=s.gens) (d':=s.drawn) (ch:=[it]) (λb f=>?_) (λb o _ _ hc e _=>k b o (λz=>hc<|by simp[z]) e) (λb o _ _ hc e _=>⟨o.slots,k b o (λz=>hc<|by simp[z]) e⟩) (λ_ _ _ _ n=>n)
  (λb o hc e=>⟨o,k b o (λz=>hc<|by simp[z]) e⟩) (λ_ _ e=>e) (λ_ _ _ e=>e) (λb ps e=>⟨#[],by rw[e];simp⟩) (λm j=>?_) (λb u e=>?_) I.bare
 ·have e:b=it:=by simpa using f
  subst e;exact⟨h1,J,L,U⟩
 ·obtain⟨o,es,g,B,r⟩:=j;exact⟨o,es,g,k _ o (bM J) B,r⟩
 ·refine(I.hok b u e).stay (λc v hc q=>k c v ?_ q) (λ_ q=>q) λ_ _ q=>q
  rcases hc with z|z
  ·rw[z];exact d b u e
  ·exact d c _ z
def Inv.tok(I:Inv X pins σ H s)(t:Nat):Inv X pins σ H { s with toks:=t }:=I.un (h':=s.heap) (t':=t) Un.refl I.hok
def Inv.kept{t':Nat}(I:Inv X pins σ H s)(k:∀b u,s.heap.get? b=some u->h'.get? b=some u):Inv X pins σ H { s with heap:=h',toks:=t' }:=I.un (Un.kept k)<|I.hok.kept k
def Inv.laid{a:aj}{o:HO}{t':Nat}(I:Inv X pins σ H s)(k:∀b u,s.heap.get? b=some u->h'.get? b=some u)(hp:s.heap.objs.size<=a)(new:iS X.prog X.w (upd H a o) h' a o) :
  Inv X pins σ (upd H a o) { s with heap:=h',toks:=t' }:=I.un (Un.laid k hp<|I.hok.fresh hp)<|I.hok.laid k hp new
def Inv.write{x:aj}{o:HO}{t':Nat}(I:Inv X pins σ H s)(J:Ry<|H x)(L:e=x\/H e=some (.own x))(k:∀b u,b≠e->s.heap.get? b=some u->h'.get? b=some u)(j:∃u,h'.get? e=some u)
  (new:iS X.prog X.w (upd H x o) h' x o):Inv X pins σ (upd H x o) { s with heap:=h',toks:=t' }:=I.un (Un.write J L k j)<|I.hok.write J L k j new
def Inv.Ez{pins':bt}(I:Inv X pins σ H s)(h:∀p∈pins',s.heap.get? p.1=some p.2/\H p.1=none/\p.1≠X.env.locals/\p.1∉X.fs/\∀v,p.2.data≠.cell v):Inv X pins' σ H s:=
 ⟨I.ok,I.os,I.bare,I.base,I.loc,I.cell,I.free,I.freeC,λp hp=>(bO.mp hp).elim (λz=>I.pin p<|bK _ z)<|h p,I.hok,I.len⟩
def vC{N:ba}(J:N.Nodup){i j:Nat}{x:Str}(a:N[i]?=some x)(b:N[j]?=some x):i=j:=by
 obtain⟨h1,e1⟩:=aI.mp a;obtain⟨d,e2⟩:=aI.mp b;exact(eX J).mp (e1.trans e2.symm)
def _root_.γ0(h:1=1:=by first|exact .inl rfl|exact .inr rfl|assumption):1=1:=h
def _root_.γ:Lean.Syntax:=γ0._auto_1
def _root_.δ0(h:1=1:=by decide):1=1:=h
def _root_.δ:Lean.Syntax:=δ0._auto_1
def _root_.ε0(h:1=1:=by rfl):1=1:=h
def _root_.ε:Lean.Syntax:=ε0._auto_1
def _root_.ζ0(h:1=1:=by intro _;rfl):1=1:=h
def _root_.ζ:Lean.Syntax:=ζ0._auto_1
def _root_.η0(h:1=1:=by with_unfolding_all rfl):1=1:=h
def _root_.η:Lean.Syntax:=η0._auto_1
def _root_.θ0(h:1=1:=by exact λ_ _=>rfl):1=1:=h
def _root_.θ:Lean.Syntax:=θ0._auto_1
def Fw{A:az}{E:aa->aA->Prop}{i:Nat}{x:Str}{v:V}{Q:Unit->aA->Prop}(I:Inv X pins σ H s)(hN:X.N.Nodup)(hi:X.N[i]?=some x)(hx:Loc X.env.scope x)(r:RelV v u)
  (h:∀s',Inv X pins (σ.set i<|some v) H s'->(∃a,Heap.SameBut a s.heap s'.heap/\(a=X.env.locals\/X.env.cells.lookup x=some a))->Q Unit.unit s') (hf:X.fn x=true\/X.env.scope.names.lookup x=some .local<|>γ):wpAny M A (storeName X.env x u) Q E s:=by
 obtain⟨m,hn,hl⟩:=id I.loc;have P:(X.env.scope.kind == .class || (X.env.scope.kind == .module && X.env.locals != X.env.globals))=false:=by rw[I.ok.kind];rfl
 have g:i<σ.length:=by rw[I.len];exact(aI.mp hi).1
 have Mf:=I.Mf;have f:∀{a:aj} {h':ak},(∃o,s.heap.get? a=some o/\H a=none)->Heap.SameBut a s.heap h'->qh X.prog X.w H h':=λ{a h'} ha hs b ob e=>by
  obtain⟨_,_,hfree⟩:=ha;refine(I.hok b ob e).stay (λc U hc q=>(hs.2 c ?_).trans q) (λ_ q=>q) λ_ _ q=>q;rintro rfl
  rcases hc with rfl|hc
  ·rw[hfree]at e;cases e
  ·rw[hfree]at hc;cases hc
 rcases hx with B|B
 ·refine wpAny_storeName_local B hn (λh' hn' hs=>?_) P;obtain⟨oL,_,_,hoL,_⟩:=id hn;refine h _ ⟨I.ok,I.os,I.bare,⟨λb o e n F hx=>?_,λb o e n F hx=>?_,I.base.free,λb o e hx=>?_,I.base.tups,I.base.frzs,I.base.tbls⟩,⟨_,hn',λj y v' e1 e2 e3=>?_⟩,λy c e=>?_,I.free,I.freeC,λp hp=>?_,f ⟨oL,hoL,I.free⟩ hs,by simpa using I.len⟩ ⟨_,hs,.inl rfl⟩
  ·exact(hs.2 b<|bh<|aY (aP e) I.ok.above).trans (I.base.keep b o e n F hx)
  ·obtain⟨sl,e1⟩:=I.base.slot b o e n F hx;exact⟨sl,(hs.2 b<|bh<|aY (aP e) I.ok.above).trans e1⟩
  ·obtain⟨o',e1⟩:=I.base.there b o e hx;exact⟨o',(hs.2 b<|bh<|aY (aP e) I.ok.above).trans e1⟩
  ·by_cases C:j=i
   ·subst C;rw[hi]at e1;cases e1;rw[bu g]at e2
    cases e2
    exact⟨u,r,.inl ⟨B,by simp⟩⟩
   ·rw[aT<|bM C]at e2;obtain⟨Z,r',q⟩:=hl j y v' e1 e2 e3;refine⟨Z,r',?_⟩
    rcases q with⟨k,e⟩|⟨k,c,e,z⟩
    ·refine .inl ⟨k,?_⟩;have:y≠x:=λe=>C<|vC hN e1<|e ▸ hi;simp[this,e]
    ·exact .inr ⟨k,c,e,z.sameBut hs<|Mf y c e⟩
  ·obtain⟨U,z⟩:=I.cell y c e;exact⟨U,z.sameBut hs<|Mf y c e⟩
  ·obtain⟨e,n,ne,Y,d⟩:=I.pin p hp;exact⟨(hs.2 p.1 ne).trans e,n,ne,Y,d⟩
 ·have G:X.fn x=true:=by
   rcases hf with z|z
   ·exact z
   ·rw[z]at B;cases B
  obtain⟨c,hc⟩:=I.ok.has x<|.inl B;obtain⟨U,z⟩:=I.cell x c hc;refine wpAny_storeName_cell I.ok.kind B hc z λh' J hs=>?_;obtain⟨oc,O,L⟩:=id z;refine h { s with heap:=h' } ⟨I.ok,I.os,I.bare,⟨λb o e n F hx=>?_,λb o e n F hx=>?_,I.base.free,λb o e hx=>?_,I.base.tups,I.base.frzs,I.base.tbls⟩,⟨m,hn.sameBut hs<|bM<|Mf x c hc,λj y v' e1 e2 e3=>?_⟩,λy T e=>?_,I.free,I.freeC,λp hp=>?_,f ⟨oc,O,I.freeC x c hc⟩ hs,by simpa using I.len⟩ ⟨c,hs,.inr hc⟩
  ·exact(hs.2 b<|bh<|aY (aP e)<|I.ok.cab x c G hc).trans (I.base.keep b o e n F hx)
  ·obtain⟨sl,e1⟩:=I.base.slot b o e n F hx;exact⟨sl,(hs.2 b<|bh<|aY (aP e)<|I.ok.cab x c G hc).trans e1⟩
  ·obtain⟨o',e1⟩:=I.base.there b o e hx;exact⟨o',(hs.2 b<|bh<|aY (aP e)<|I.ok.cab x c G hc).trans e1⟩
  ·by_cases C:j=i
   ·subst C;rw[hi]at e1;cases e1;rw[bu g]at e2
    cases e2
    exact⟨u,r,.inr ⟨.inl B,c,hc,J⟩⟩
   ·rw[aT<|bM C]at e2;obtain⟨Z,r',q⟩:=hl j y v' e1 e2 e3;refine⟨Z,r',?_⟩
    rcases q with q|⟨k,T,e,z'⟩
    ·exact .inl q
    ·refine .inr ⟨k,T,e,z'.sameBut hs ?_⟩;rintro rfl;exact C<|vC hN e1<|I.ok.inj _ _ _ e hc ▸ hi
  ·by_cases K:T=c
   ·subst K;exact⟨_,J⟩
   ·obtain⟨w2,z2⟩:=I.cell y T e;exact⟨w2,z2.sameBut hs K⟩
  ·obtain⟨e,n,ne,Y,d⟩:=I.pin p hp;refine⟨(hs.2 p.1 ?_).trans e,n,ne,Y,d⟩;intro q;rw[q,O]at e;have q':oc=p.2:=aQ e;exact d U<|by rw[<- q'];exact L
def sG{A:az}{E:aa->aA->Prop}{i:Nat}{x:Str}{v:V}{Q:Unit->aA->Prop}(I:Inv X pins σ H s)(j:X.N.Nodup)(hi:X.N[i]?=some x)(J:Loc X.env.scope x)(r:RelV v u)
  (h:∀s',Inv X pins (σ.set i<|some v) H s'->Q Unit.unit s') (hf:X.fn x=true\/X.env.scope.names.lookup x=some .local<|>γ):wpAny M A (storeName X.env x u) Q E s:=
 Fw I j hi J r (λs' d _=>h s' d) hf
def Inv.GX{s':aA}{ch:be}(I:Inv X pins σ H s)(L:s'.os=s.os)(u:Un (frs X.stack) ch H H' s.heap s'.heap)(j:qh X.prog X.w H' s'.heap)(hg:AllBare s'.gens)
  (J:∀b∈ch,(b∈X.ex\/X.s₀.heap.objs.size<=b)/\b≠X.env.locals/\(∀x c,X.env.cells.lookup x=some c->c≠b)/\∀p∈X.pn++pins,p.1≠b):Inv X pins σ H' s':=by
 obtain⟨h',g',d',t',o'⟩:=s';have e:o'=s.os:=L;subst e;exact I.call (g':=g') (t':=t') (d':=d') u j hg J
end
meta abbrev XK:=aa->Option aj->Hp->Prop
meta abbrev St:=List<|Option V
meta abbrev VK:=V->Hp->Prop
meta abbrev TE:=St->Hp->VK->Prop
meta abbrev TT:=St->Hp->(Bool->Hp->Prop)->Prop
meta abbrev TA:=St->Hp->(List V->Hp->Prop)->Prop
structure Ends where
 nx:St->Hp->Prop
 rt:VK
 bk:St->Hp->Prop:=λ_ _=>False
 ct:St->Hp->Prop:=λ_ _=>False
meta abbrev TS:=Ends->St->Hp->Prop
abbrev EP (X:Cx)(pins:bt)(σ:St)(Q:VK)(u:aa)(s':aA):Prop:=∃v H',Inv X pins σ H' s'/\RelV v u/\Q v H'
abbrev TP (X:Cx)(pins:bt)(σ:St)(Q:Bool->Hp->Prop)(b:Bool)(s':aA):Prop:=∃H',Inv X pins σ H' s'/\Q b H'
abbrev AP (X:Cx)(pins:bt)(σ:St)(Q:List V->Hp->Prop)(us:bd)(s':aA):Prop:=∃d H',Inv X pins σ H' s'/\Vals d us/\Q d H'
abbrev SP (X:Cx)(pins:bt)(D:Ends)(f:Flow)(s':aA):Prop:=
 match f with
 | .next=>∃d H',Inv X pins d H' s'/\D.nx d H'
 | .brk=>∃d H',Inv X pins d H' s'/\D.bk d H'
 | .cont=>∃d H',Inv X pins d H' s'/\D.ct d H'
 | .ret u=>∃v d H',Inv X pins d H' s'/\RelV v u/\D.rt v H'
abbrev PE (X:Cx)(e:aE)(t:TE):Prop:=
 ∀(pins:bt) (s:aA) (σ:St) (H:Hp) (Q:VK),Inv X pins σ H s->t σ H Q->wpAny (model X.prog X.w) X.A (eval e X.env) (EP X pins σ Q) X.xe s
abbrev PT (X:Cx)(e:aE)(t:TT):Prop:=
 ∀(pins:bt) (s:aA) (σ:St) (H:Hp) (Q:Bool->Hp->Prop),Inv X pins σ H s->t σ H Q->wpAny (model X.prog X.w) X.A (isTrue e X.env<|eval e X.env) (TP X pins σ Q) X.xe s
abbrev PW (X:Cx)(e:aE)(t:TT):Prop:=
 ∀(d:Sem aa) (pins:bt) (s:aA) (σ:St) (H:Hp) (Q:Bool->Hp->Prop),Inv X pins σ H s->t σ H Q->wpAny (model X.prog X.w) X.A (isTrue e X.env d) (TP X pins σ Q) X.xe s
abbrev PA (X:Cx)(es:List aE)(t:TA):Prop:=
 ∀(pos:Pos) (pins:bt) (s:aA) (σ:St) (H:Hp) (Q:List V->Hp->Prop),Inv X pins σ H s->t σ H Q->wpAny (model X.prog X.w) X.A (spliced<|backTo pos<|starEach es X.env) (AP X pins σ Q) X.xe s
abbrev PS (X:Cx)(st:aF)(t:TS):Prop:=
 ∀(pins:bt) (s:aA) (σ:St) (H:Hp) (D:Ends),Inv X pins σ H s->t D σ H->wpAny (model X.prog X.w) X.A (exec st X.env) (SP X pins D) X.xe s
abbrev xR (X:Cx)(st:List aF)(t:TS):Prop:=
 ∀(pins:bt) (s:aA) (σ:St) (H:Hp) (D:Ends),Inv X pins σ H s->t D σ H->wpAny (model X.prog X.w) X.A (execs st X.env) (SP X pins D) X.xe s
def iQ{α:Type}{t:Sem α}{Q Q':α->aA->Prop}{A:az}{E:aa->aA->Prop}(h:wpAny M A t Q E s)(j:∀a s,Q a s->Q' a s):wpAny M A t Q' E s:=bY h j λ_ _ x=>x
section
variable {X:Cx}
abbrev Ug (i:Nat):TE:=λσ H Q=>∃v,σ[i]?=some (some v)/\Q v H
abbrev tC (v:V):TE:=λ_ H Q=>Q v H
def Oa{i:Nat}{x:Str}(L:X.N[i]?=some x)(hv:Sv X.env.scope x)(hd:(x == ("__debug__" : Str))=false<|>δ)(J:(x == ("__classdict__" : Str))=false<|>δ):PE X (.Name x pos) (Ug i):=by
 z_go;obtain⟨v,e,h⟩:=h;obtain⟨m,hn,j⟩:=I.loc;obtain⟨u,r,l⟩:=j i x v L e hv;have g:EP X pins σ Q u s:=⟨v,H,I,r,h⟩
 rcases l with⟨f,k⟩|⟨f,c,hc,d⟩
 ·exact wpAny_Name (wpAny_loadName_local I.ok.kind f hn k g) hd
 ·rcases f with f|f
  ·exact wpAny_Name (wpAny_loadName_cell I.ok.kind f hc d g) hd
  ·exact wpAny_Name (wpAny_loadName_free I.ok.kind f hc d g J) hd
def Bw{i j pos}:PE X (.Constant (.int i) j pos) (tC<|.int i):=λ_ _ _ H _ I h=>wpAny_Constant_int ⟨.int i,H,I.tok _,⟨_,rfl⟩,h⟩
def Sd{b j pos}:PE X (.Constant (.bool b) j pos) (tC<|.bl b):=λ_ _ _ H _ I h=>Constant_bool ⟨.bl b,H,I,rfl,h⟩
def Pa{j pos}:PE X (.Constant .none j pos) (tC .non):=λ_ _ _ H _ I h=>Constant_none ⟨.non,H,I,rfl,h⟩
def Im{x j pos}:PE X (.Constant (.str x) j pos) (tC<|.str x):=λ_ _ _ H _ I h=>fE ⟨.str x,H,I.tok _,⟨_,rfl⟩,h⟩
abbrev Gl (X:Cx)(x:Str):Prop:=X.env.kindOf x=some .globalImplicit
def r9{E:aa->aA->Prop}{H:Hp}{x:Str}{Q:aa->aA->Prop}(I:Inv X pins σ H s)(hg:Gl X x)(j:X.mg x=some u)(h:Q u s)
  (hd:(x == ("__debug__" : Str))=false<|>δ):wpAny (model X.prog X.w) X.A (eval (.Name x pos) X.env) Q E s:=
 Calls.Name_function_global I.ok.kind hg (Calls.loadGlobal_global (by rw[I.ok.glob];exact I.mod.glob.keeps I.bk) j h) hd
def uo{E:aa->aA->Prop}{H:Hp}{x:Str}{Q:aa->aA->Prop}(I:Inv X pins σ H s)(hg:Gl X x)(j:X.mg x=none)(hv:bootBuiltins x=some u)(h:Q u s)
  (hn:x ≠ "__name__"<|>δ) (hd:(x == ("__debug__" : Str))=false<|>δ):wpAny (model X.prog X.w) X.A (eval (.Name x pos) X.env) Q E s:=by
 obtain⟨f,h1,d⟩:=I.mod.blt;exact Calls.Name_function_global I.ok.kind hg (Calls.loadGlobal_builtin (by rw[I.ok.glob];exact I.mod.glob.keeps I.bk) j (by rw[I.ok.blt];exact h1.keeps I.bk) ((d x hn).trans hv) h) hd
def qf{x:Str}{v:V}(hg:Gl X x)(j:X.mg x=some u)(r:RelV v u)(hd:(x == ("__debug__" : Str))=false<|>δ):PE X (.Name x pos) (tC v):=
 λ_ _ _ H _ I h=>r9 I hg j ⟨v,H,I,r,h⟩ hd
def K8{x:Str}{v:V}(hg:Gl X x)(j:X.mg x=none)(hv:bootBuiltins x=some u)(r:RelV v u)(hn:x ≠ "__name__"<|>δ)(hd:(x == ("__debug__" : Str))=false<|>δ):PE X (.Name x pos) (tC v):=
 λ_ _ _ H _ I h=>uo I hg j hv ⟨v,H,I,r,h⟩ hn hd
variable {a b:aE}{ta tb:TE}{pos:Pos}
variable {tA tB':TT}{rest:List aE}
abbrev QD (t u:TT):TT:=λσ H Q=>t σ H λc H1=>if c=true then u σ H1 Q else Q false H1
abbrev UD (t u:TT):TT:=λσ H Q=>t σ H λc H1=>if c=true then Q true H1 else u σ H1 Q
abbrev SY (t:TT):TT:=λσ H Q=>t σ H λc H1=>Q (!c) H1
def LX(j:PT X a tA):PW X (.BoolOp .And [a] pos) tA:=by
 intro d pins s σ H Q I h;refine isTrue_and (iQ (j pins s σ H Q I h) λc f e=>?_)
 cases c with
 | true=>exact isTrue_and_nil e
 | false=>exact e
def O4(j:PT X a tA):PW X (.BoolOp .Or [a] pos) tA:=by
 intro d pins s σ H Q I h;refine isTrue_or (iQ (j pins s σ H Q I h) λc f e=>?_)
 cases c with
 | false=>exact isTrue_or_nil e
 | true=>exact e
def PR(J:PT X a tA)(hb:PW X (.BoolOp .And (b::rest) pos) tB'):PW X (.BoolOp .And (a::b::rest) pos) (QD tA tB'):=by
 intro g pins s σ H Q I h;refine isTrue_and (iQ (J pins s σ H _ I h) λc j ⟨H1,f,d⟩=>?_)
 cases c with
 | true=>exact hb g pins j σ H1 Q f d
 | false=>exact⟨H1,f,d⟩
def Rr(J:PT X a tA)(hb:PW X (.BoolOp .Or (b::rest) pos) tB'):PW X (.BoolOp .Or (a::b::rest) pos) (UD tA tB'):=by
 intro g pins s σ H Q I h;refine isTrue_or (iQ (J pins s σ H _ I h) λc j ⟨H1,f,d⟩=>?_)
 cases c with
 | true=>exact⟨H1,f,d⟩
 | false=>exact hb g pins j σ H1 Q f d
def Px(j:PT X a tA):PT X (.UnaryOp .Not a pos) (SY tA):=by
 z_go;exact isTrue_not<|j pins s σ H (λc H1=>Q (!c) H1) I h
abbrev RY (ta tb:TE):TE:=λσ H Q=>ta σ H λx H1=>∃c,x=.bl c/\if c=true then tb σ H1 Q else Q (.bl false) H1
abbrev QH (ta:TE):TE:=λσ H Q=>ta σ H λx H1=>∃c,x=.bl c/\Q (.bl<|!c) H1
def Oq{op}{t:TE}(h:PE X a t):PE X (.BoolOp op [a] pos) t:=λpins s σ H Q I hw=>BoolOp_one<|h pins s σ H Q I hw
def Oi(j:PE X a ta)(hb:PE X (.BoolOp .And (b::rest) pos) tb):PE X (.BoolOp .And (a::b::rest) pos) (RY ta tb):=by
 z_go;refine BoolOp_and<|iQ (j pins s σ H _ I h) λv g ⟨x,H1,f,r1,d⟩=>?_;obtain⟨c,rfl,d⟩:=d
 cases r1
 refine cH ?_
 cases c with
 | true=>exact hb pins g σ H1 Q f d
 | false=>exact⟨.bl false,H1,f,rfl,d⟩
def Ph(j:PE X a ta):PE X (.UnaryOp .Not a pos) (QH ta):=by
 z_go;refine UnaryOp_<|iQ (j pins s σ H _ I h) λv g ⟨x,H1,f,r1,d⟩=>?_;obtain⟨c,rfl,d⟩:=d
 cases r1
 exact not_of<|cH ⟨.bl<|!c,H1,f,rfl,d⟩
abbrev Vj (t:TT)(ta tb:TE):TE:=λσ H Q=>t σ H λc H1=>if c=true then ta σ H1 Q else tb σ H1 Q
def F9{c:aE}(hc:PT X c tA)(J:PE X a ta)(hb:PE X b tb):PE X (.IfExp c a b pos) (Vj tA ta tb):=by
 z_go;refine wpAny_IfExp (iQ (hc pins s σ H _ I h) λd j ⟨H1,g,f⟩=>?_)
 cases d with
 | true=>exact J pins j σ H1 Q g f
 | false=>exact hb pins j σ H1 Q g f
end
abbrev jM (K:au)(H:Hp)(a:aj)(xs:List V):Prop:=
 Rd H a (.lst xs) \/
  ∃(o:Obj) (d:Array aa) (n:Nat),K.lookup a=some o/\o.cls=.type "list" /\ o.dict=none/\o.data=.seq d n/\d.size<=sizeLine/\Vals xs d.toList
abbrev kN (K:au)(H:Hp)(a:aj)(xs:List V):Prop:=
 Rd H a (.tup xs) \/
  ∃(o:Obj) (d:Array aa) (n:Nat),K.lookup a=some o/\o.cls=.type "tuple" /\ o.dict=none/\o.data=.seq d n/\d.size<=sizeLine/\Vals xs d.toList
abbrev T4:aa->Option V
 | .none=>some .non
 | .bool b=>some (.bl b)
 | .int i _=>some (.int i)
 | .str x _=>some (.str x)
 | .bytes b _=>some (.byt b)
 | .float b _=>some (.flt b)
 | .ref a=>some (.ref a)
 | .type n=>some (.ty n)
 | _=>none
def RelV.abs{x:V}(r:RelV x u):T4 u=some x:=by
 cases x with
 | non=>cases r;rfl
 | bl _=>cases r;rfl
 | int _=>obtain⟨t,rfl⟩:=r;rfl
 | str _=>obtain⟨t,rfl⟩:=r;rfl
 | byt _=>obtain⟨t,rfl⟩:=r;rfl
 | flt _=>obtain⟨t,rfl⟩:=r;rfl
 | ref _=>cases r;rfl
 | ty _=>cases r;rfl
def RelV.inj{x:V}(r:RelV x u)(q:RelV y u):x=y:=aQ<|r.abs.symm.trans q.abs
theorem Vals.inj:∀{xs ys:List V}{us:bd},Vals xs us->Vals ys us->xs=ys
 | _,_,_,.nil,.nil=>rfl
 | _,_,_,.cons r t,.cons d f=>by rw[r.inj d,Vals.inj t f]
section
variable {X:Cx}{pins:bt}{σ:St}{H:Hp}{s:aA}{a:aj}{xs ys:List V}
def jM.of{K:au}(h:H a=some (.lst xs)):jM K H a xs:=.inl<|.inl h
def kN.of{K:au}(h:H a=some (.tup xs)):kN K H a xs:=.inl<|.inl h
def Inv.list(I:Inv X pins σ H s)(h:jM X.K H a xs):∃its:bd,Vals xs its/\PlainL s.heap a its.toArray/\xs.length<=sizeLine:=by
 rcases h with h|⟨o,its,n,d,hc,hd,hs,f,r⟩
 ·obtain⟨z,its,n,r,e⟩:=h.ok I.hok;exact⟨its,r,⟨_,n,e,rfl,rfl,rfl⟩,z⟩
 ·refine⟨its.toList,r,⟨o,n,I.rg a o d,hc,hd,by simpa using hs⟩,?_⟩;have e:=r.length;dsimp[cA]at e
  lia
def Inv.tuple(I:Inv X pins σ H s)(h:kN X.K H a xs):∃its:bd,Vals xs its/\IsTup s.heap a its.toArray/\xs.length<=sizeLine:=by
 rcases h with h|⟨o,its,n,d,hc,_,hs,f,r⟩
 ·obtain⟨z,its,r,p⟩:=h.ok I.hok;exact⟨its,r,p.tup,z⟩
 ·refine⟨its.toList,r,⟨o,I.rg a o d,hc,n,by simpa using hs⟩,?_⟩;have e:=r.length;dsimp[cA]at e
  lia
def Inv.vK(I:Inv X pins σ H s)(h:jM X.K H a xs)(h':jM X.K H a ys):xs=ys:=by
 obtain⟨g,r,⟨o,n,e,_,_,d⟩,_⟩:=I.list h;obtain⟨f,p,⟨o',B,k,_,_,j⟩,_⟩:=I.list h';rw[e]at k;cases k;rw[d]at j
 injection j with m _
 have:g=f:=by simpa using cO Array.toList m
 subst this;exact r.inj p
def Inv.xU(I:Inv X pins σ H s)(h:kN X.K H a xs)(h':kN X.K H a ys):xs=ys:=by
 obtain⟨g,r,⟨o,e,_,n,d⟩,_⟩:=I.tuple h;obtain⟨f,p,⟨o',k,_,B,j⟩,_⟩:=I.tuple h';rw[e]at k;cases k;rw[d]at j
 injection j with m _
 have:g=f:=by simpa using cO Array.toList m
 subst this;exact r.inj p
end
meta abbrev Cx.xx (X:Cx)(E:aa->aA->Prop):Cx:={ X with xe:=E }
meta abbrev Cx.Qw (X:Cx):Cx:=X.xx λ_ _=>False
def Cx.Ok.xx{X:Cx}(ok:X.Ok)(E:aa->aA->Prop):(X.xx E).Ok:=
 ⟨ok.mod,ok.kind,ok.glob,ok.blt,ok.above,ok.inj,ok.has,ok.cab,ok.hd,ok.frames,ok.stk,ok.exf,ok.bs,ok.bsz,ok.noex,ok.exfs,ok.oW,ok.frf⟩
def Cx.Ok.p8{X:Cx}{E:aa->aA->Prop}(ok:(X.xx E).Ok):X.Ok:=
 ⟨ok.mod,ok.kind,ok.glob,ok.blt,ok.above,ok.inj,ok.has,ok.cab,ok.hd,ok.frames,ok.stk,ok.exf,ok.bs,ok.bsz,ok.noex,ok.exfs,ok.oW,ok.frf⟩
section
variable {X:Cx}{pins:bt}{σ:St}{H:Hp}{s:aA}{E:aa->aA->Prop}
def Inv.xx(I:Inv X pins σ H s)(E:aa->aA->Prop):Inv (X.xx E) pins σ H s:=⟨I.ok.xx E,I.os,I.bare,I.base,I.loc,I.cell,I.free,I.freeC,I.pin,I.hok,I.len⟩
def Inv.p8(I:Inv (X.xx E) pins σ H s):Inv X pins σ H s:=⟨I.ok.p8,I.os,I.bare,I.base,I.loc,I.cell,I.free,I.freeC,I.pin,I.hok,I.len⟩
def SP.p8{f:Flow}(h:SP (X.xx E) pins D f s'):SP X pins D f s':=by
 cases f with
 | next=>obtain⟨d,H',I,q⟩:=h;exact⟨d,H',I.p8,q⟩
 | brk=>obtain⟨d,H',I,q⟩:=h;exact⟨d,H',I.p8,q⟩
 | cont=>obtain⟨d,H',I,q⟩:=h;exact⟨d,H',I.p8,q⟩
 | ret u=>obtain⟨v,d,H',I,r,q⟩:=h;exact⟨v,d,H',I.p8,r,q⟩
def xR.Qw{st:List aF}{t:TS}(h:xR X.Qw st t):xR X st t:=λpins s σ H D I hw=>
 bY (h pins s σ H D (I.xx _) hw) (λ_ _ q=>q.p8) λ_ _ z=>False.elim z
end
section
variable {X:Cx}{st:aF}{rest:List aF}{t u:TS}{e:aE}{te:TE}{pos:Pos}
abbrev RM:TS:=λD σ H=>D.nx σ H
abbrev QJ (t u:TS):TS:=λD σ H=>t { D with nx:=u D } σ H
def K_:xR X [] RM:=λ_ _ σ H _ I h=>d8 ⟨σ,H,I,h⟩
def GY(h1:PS X st t)(J:xR X rest u):xR X (st::rest) (QJ t u):=by
 kcf_m;refine wpAny_execs_cons (iQ (h1 pins s σ H { D with nx:=u D } I h) λf j q=>?_)
 cases f with
 | next=>
  obtain⟨d,H',g,q⟩:=q;exact J pins j d H' D g q
 | ret v=>exact q
 | brk=>exact q
 | cont=>exact q
def Lx(h1:PS X st t):xR X [st] t:=by
 kcf_m;refine wpAny_execs_cons (iQ (h1 pins s σ H D I h) λf d q=>?_)
 cases f with
 | next=>exact d8 q
 | ret v=>exact q
 | brk=>exact q
 | cont=>exact q
def Inv.quiet{H:Hp}(I:Inv X pins σ H s):interactive X.env=false:=by simp[interactive,I.ok.kind]
abbrev Rk (te:TE):TS:=λD σ H=>te σ H λ_ H1=>D.nx σ H1
def Me(j:PE X e te)(hs:swapsWith e none pos.line X.env=pure false<|>ε):PS X (.Expr e pos) (Rk te):=by
 kcf_m;exact wpAny_Expr_any (iQ (j pins s σ H _ I h) λv g ⟨x,H1,f,r1,d⟩=>⟨σ,H1,f,d⟩) I.quiet hs
abbrev SQ (te:TE):TS:=λD σ H=>te σ H D.rt
def O6(j:PE X e te):PS X (.Return (some e) pos) (SQ te):=by
 kcf_m;exact wpAny_Return_some<|iQ (j pins s σ H _ I h) λv g ⟨x,H1,f,r1,d⟩=>⟨x,σ,H1,f,r1,d⟩
abbrev Up (c:TT)(t u:TS):TS:=λD σ H=>c σ H λb H1=>if b=true then t D σ H1 else u D σ H1
def RZ{c:aE}{a:List aF}{tc:TT}(hc:PT X c tc)(J:xR X a t)(hb:xR X b u):PS X (.If c a b pos) (Up tc t u):=by
 kcf_m;refine wpAny_If (iQ (hc pins s σ H _ I h) λd j ⟨H1,g,f⟩=>?_)
 cases d with
 | true=>exact J pins j σ H1 D g f
 | false=>exact hb pins j σ H1 D g f
abbrev ND:TS:=λ_ _ _=>False
def Ky:PS X st ND:=λ_ _ _ _ _ _ h=>h.elim
end
meta abbrev TG:=V->St->Hp->(St->Hp->Prop)->Prop
meta abbrev Nv:=List V->St->Hp->(St->Hp->Prop)->Prop
abbrev PG (X:Cx)(j:aE)(t:TG):Prop:=
 ∀(pins:bt) (s:aA) (σ:St) (H:Hp) (v:V) (u:aa) (Q:St->Hp->Prop),Inv X pins σ H s->RelV v u->t v σ H Q ->
  wpAny (model X.prog X.w) X.A (assign j X.env u) (λ_ s'=>∃d H',Inv X pins d H' s'/\Q d H') X.xe s
abbrev Rw (X:Cx)(ts:List aE)(t:Nv):Prop:=
 ∀(pins:bt) (s:aA) (σ:St) (H:Hp) (f:List V) (us:bd) (Q:St->Hp->Prop),Inv X pins σ H s->Vals f us->t f σ H Q ->
  wpAny (model X.prog X.w) X.A (assignInOrder ((assignEach ts X.env).map (·.2)) us) (λ_ s'=>∃d H',Inv X pins d H' s'/\Q d H') X.xe s
meta abbrev Ka:=V->V->V->Hp->(Hp->Prop)->Prop
abbrev Iz (X:Cx)(t:Ka):Prop:=
 ∀(pins:bt) (s:aA) (σ:St) (H:Hp) (o i v:V) (d iv u:aa) (Q:Hp->Prop),Inv X pins σ H s->RelV o d->RelV i iv->RelV v u->t o i v H Q ->
  wpAny (model X.prog X.w) X.A (setItem d iv u) (λ_ s'=>∃H',Inv X pins σ H' s'/\Q H') X.xe s
meta abbrev Vh:=V->V->Hp->VK->Prop
section
variable {X:Cx}{pos:Pos}
abbrev Hf (i:Nat):TG:=λv σ H Q=>Q (σ.set i<|some v) H
def Ef{i:Nat}{x:Str}(j:X.N.Nodup)(hi:X.N[i]?=some x)(J:Loc X.env.scope x)(hf:X.fn x=true\/X.env.scope.names.lookup x=some .local<|>γ):PG X (.Name x pos) (Hf i):=by
 intro pins s σ H v u Q I r h;exact wpAny_assign_Name<|sG I j hi J r (λs' d=>⟨_,H,d,h⟩) hf
abbrev S_:Nv:=λd σ H Q=>d=[]/\Q σ H
abbrev QO (t:TG)(u:Nv):Nv:=λf σ H Q=>∃v r,f=v::r/\t v σ H λd H'=>u r d H' Q
def LY:Rw X [] S_:=by
 intro pins s σ H d us Q I r h;obtain⟨e,h⟩:=h;subst e
 cases r
 exact assignInOrder_nil ⟨σ,H,I,h⟩
def HF{t:TG}{u:Nv}(h1:PG X e t)(J:Rw X es u)
  (hs:(assignEach (e::es) X.env).map (·.2)=assign e X.env::(assignEach es X.env).map (·.2)<|>ε):Rw X (e::es) (QO t u):=by
 intro pins s σ H m us Q I r h;obtain⟨v,p,e1,h⟩:=h;subst e1
 cases r with
 | cons r g=>
  rw[hs];refine assignInOrder_cons<|iQ (h1 pins s σ H _ _ _ I r h) λ_ k ⟨d,H1,j,f⟩=>?_;exact J pins k d H1 _ _ Q j g f
abbrev SS (K:au)(n:Nat)(t:Nv):TG:=λv σ H Q=>∃a xs,v=.ref a/\kN K H a xs/\xs.length=n/\t xs σ H Q
def Pe{k:Nat}{t:Nv}{n:Nat}(hc:X.calm=true)(h:Rw X es t)
  (hn:(assignEach es X.env).length=n<|>ε) (J:(assignEach es X.env).findIdx? (·.1)=none<|>ε):PG X (.Tuple es k pos) (SS X.K n t):=by
 intro pins s σ H v u Q I r hw;obtain⟨a,xs,e1,g,p,hw⟩:=hw;subst e1
 cases r
 obtain⟨j,d,B,C⟩:=I.tuple g;refine assign_Tuple_tuple (I.ok.hd hc) B (by simp[hn,<- p,d.length]) J λh' f=>?_;have m:Inv X pins σ H { s with heap:=h' }:=I.kept (t':=s.toks) λb o e=>f b o (bh<|aP e) e;exact h pins _ σ H xs _ Q m (by simpa using d) hw
abbrev Tv (to j:TE)(t:Ka):TG:=λv σ H Q=>to σ H λo H1=>j σ H1 λi H2=>t o i v H2 λH3=>Q σ H3
def Gk{o:aE}{to J:TE}{t:Ka}(L:PE X o to)(hi:PE X i J)(hs:Iz X t)
  (U:(∀v,assign (.Subscript o i pos) X.env v=(do
   let ov <- holding [v] (eval o X.env)
   let iv <- holding [v,ov] (eval i X.env)
   standAt pos
   holding [v,ov,iv] (setItem ov iv v)
   release [v,ov,iv] []))<|>ζ):PG X (.Subscript o i pos) (Tv to J t):=by
 intro pins s σ H v u Q I r h;rw[U];refine aG<|b_<|iQ (L pins s σ H _ I h) λov p ⟨x,H1,m,r1,k⟩=>?_;refine aG<|b_<|iQ (hi pins p σ H1 _ m k) λiv s2 ⟨y,H2,d,r2,f⟩=>?_;refine aG<|eZ<|aG<|b_<|iQ (hs pins s2 σ H2 x y v ov iv u _ d r1 r2 r f) λ_ s3 ⟨H3,g,j⟩=>?_;exact wpAny_release ⟨σ,H3,g,j⟩
abbrev Lb (te:TE)(g:TG):TS:=λD σ H=>te σ H λx H1=>g x σ H1 D.nx
def Oe{tg:aE}{te:TE}{g:TG}(J:PE X e te)(hg:PG X tg g)(hs:swapsWithSole [tg] e pos.line X.env=pure false<|>ε)(hw:swappedStores [tg] e X.env=pure none<|>ε)
  (h1:(assignEach [tg] X.env).map (·.2)=[assign tg X.env]<|>ε):PS X (.Assign [tg] e pos) (Lb te g):=by
 kcf_m;refine wpAny_Assign_stores (iQ (J pins s σ H _ I h) λv j ⟨x,H1,f,r1,d⟩=>?_) hs hw;rw[h1];exact iQ (hg pins j σ H1 x v _ f r1 d) λ_ s2 q=>q
def Ny{i:Nat}{x:Str}{te:TE}(J:X.N.Nodup)(hi:X.N[i]?=some x)(L:Loc X.env.scope x)(U:PE X e te)(hs:(swapsWith e (some<|.Name x pos') pos.line X.env=pure false)<|>ε)(hf:X.fn x=true\/X.env.scope.names.lookup x=some .local<|>γ) :
  PS X (.Assign [.Name x pos'] e pos) (Lb te<|Hf i):=by
 kcf_m;refine wpAny_Assign_Name (iQ (U pins s σ H _ I h) λv j ⟨y,H1,g,r1,d⟩=>?_) hs;exact sG g J hi L r1 (λs2 f=>⟨_,H1,f,d⟩) hf
end
section
variable {X:Cx}{pos:Pos}
abbrev Jk (c:TT)(tb:TS):TS:=λD σ H=>∃W:Nat->St->Hp->Prop,(∃m,W m σ H)/\∀m σ H,W m σ H ->
 c σ H λb H1=>if b=true then ∃N:St->Hp->Prop,(∀d H',N d H'->∃f,f<m/\W f d H')/\tb { D with nx:=N,ct:=N,bk:=D.nx } σ H1 else D.nx σ H1
def HN{c:aE}{tc:TT}{tb:TS}(hp:PassesOwn (model X.prog X.w) X.A X.env X.xe)(hc:PT X c tc)(hb:xR X body tb):PS X (.While c body [] pos) (Jk tc tb):=by
 kcf_m;obtain⟨W,⟨O,L⟩,turn⟩:=h;refine wpAny_While<|codeAny_whileLoop (λn s'=>∃j H',Inv X pins j H' s'/\W n j H') ?_ O ⟨σ,H,I,L⟩;rintro n U ⟨g,H1,T,P⟩;refine cZ hp (iQ (hc pins U g H1 _ T<|turn n g H1 P) λb s2 ⟨H2,J,m⟩=>?_)
 cases b with
 | true=>
  obtain⟨N,K,m⟩:=m;rw[aR rfl];refine cZ hp (iQ (hb pins s2 g H2 _ J m) λf s3 k=>?_)
  cases f with
  | next=>
   obtain⟨d,H3,B,p⟩:=k;obtain⟨C,F,G⟩:=K d H3 p;exact⟨C,F,d,H3,B,G⟩
  | cont=>
   obtain⟨d,H3,B,p⟩:=k;obtain⟨C,F,G⟩:=K d H3 p;exact⟨C,F,d,H3,B,G⟩
  | brk=>exact k
  | ret v=>exact k
 | false=>
  rw[aO bC];exact d8 ⟨g,H2,J,m⟩
end
structure It where
 go:Nat->Hp->Prop
 yld:Nat->Hp->V->Hp->Prop
 stop:Nat->Hp->Prop
abbrev n8 (X:Cx)(pins:bt)(H:Hp)(b:aj):Prop:=
 H b=none/\b≠X.env.locals/\b∉X.fs/\(b∈X.ex\/X.s₀.heap.objs.size<=b)/\(∀x c,X.env.cells.lookup x=some c->c≠b)/\∀p∈X.pn++pins,p.1≠b
def Inv.B5{H H':Hp}{s:aA}(I:Inv X pins σ H s)(hb:s.heap.objs.size<=b)(hn:H' b=none):n8 X pins H' b:=by
 refine⟨hn,fV<|aY I.lt hb,I.Ud hb,.inr<|bI I.sz hb,λx c e z=>?_,λp hp z=>?_⟩
 ·obtain⟨v,q⟩:=I.cell x c e;exact absurd (aY q.lt<|by rw[z];exact hb) (cR _)
 ·exact absurd (aY (aP (I.pin p hp).1)<|by rw[z];exact hb)<|cR _
structure Turn (P:ah)(w:af)(K:au)(tg:aE)(J:It)(fp:be)(it:aj)(tn:Nat->ak->Prop):Prop where
 mem:it∈fp
 obj:∀i h,tn i h->∀b∈fp,∃o,h.get? b=some o/\∀v,o.data≠.cell v
 keep:∀i h h',tn i h->(∀b∈fp,∀o,h.get? b=some o->h'.get? b=some o)->tn i h'
 item:∀(X:Cx),X.prog=P->X.w=w->X.K=K->X.calm=true->∀(i:Nat) (pins:bt) (s:aA) (σ:St) (H:Hp) (E:aa->aA->Prop),Inv X pins σ H s->(∀b∈fp,n8 X pins H b)->tn i s.heap->J.go i H ->
  wpAny (model P w) X.A (pyNext<|.ref it) (λr s1=>∃u,r=some u /\
   wpAny (model P w) X.A (letOwnedTupleGo tg (.ref it) u) (λ_ s2=>∃x H',Inv X pins σ H' s2/\RelV x u/\J.yld i H x H'/\tn (i+1) s2.heap/\∀b∈fp,H' b=none) E s1) E s
 done:∀(X:Cx),X.prog=P->X.w=w->X.K=K->X.calm=true->∀(i:Nat) (pins:bt) (s:aA) (σ:St) (H:Hp) (E:aa->aA->Prop),Inv X pins σ H s->(∀b∈fp,n8 X pins H b)->tn i s.heap->J.stop i H ->
  wpAny (model P w) X.A (pyNext<|.ref it) (λr s1=>r=none/\Inv X pins σ H s1) E s
 self:∀(A:az) (i:Nat) (s:aA) (Q:aa->aA->Prop) (E:aa->aA->Prop),tn i s.heap->Q (.ref it) s->wpAny (model P w) A (pyIter<|.ref it) Q E s
meta abbrev TI:=St->Hp->(It->Hp->Prop)->Prop
abbrev U7 (X:Cx)(pins:bt)(σ:St)(tg:aE)(R:It->Hp->Prop)(j:aa)(s2:aA):Prop:=
 ∃(it:aj) (fp:be) (d:Nat->ak->Prop) (J:It) (H':Hp),j=.ref it/\Inv X pins σ H' s2/\Turn X.prog X.w X.K tg J fp it d/\d 0 s2.heap/\(∀b∈fp,n8 X pins H' b)/\R J H'
abbrev PI (X:Cx)(tg iter:aE)(j:TI):Prop:=
 ∀(pins:bt) (s:aA) (σ:St) (H:Hp) (R:It->Hp->Prop),Inv X pins σ H s->j σ H R ->
  wpAny (model X.prog X.w) X.A (eval iter X.env) (λv d=>wpAny (model X.prog X.w) X.A (pyIter v) (U7 X pins σ tg R) X.xe d) X.xe s
def Cw{A:az}{E:aa->aA->Prop}{s:aA}{o:Obj}{n:String}{Q:Unit->aA->Prop}(J:s.heap.get? it=some o)(hc:o.cls=.type n)(hd:o.data=.fields vs)
  (hn:["enumerate", "zip", "dict_itemiterator", "dict_reverseitemiterator", "odict_iterator", "itertools.zip_longest", "itertools.pairwise"].contains n=false) (j:Q Unit.unit s):wpAny M A (letOwnedTupleGo tg (.ref it) u) Q E s:=by
 unfold letOwnedTupleGo
 cases tg<;>first
  | exact aM j
  | (cases u<;>first
    | exact aM j
    | (refine aG (wpAny_load J ?_)
       rw[hc,hd];show wpAny M A (if (["enumerate", "zip", "dict_itemiterator", "dict_reverseitemiterator", "odict_iterator", "itertools.zip_longest", "itertools.pairwise"].contains n && vs[0]? == some (rawInt _))=true then _ else _) Q E s;rw[aO<|by intro h;rw[hn,Bool.false_and]at h;cases h];exact aM j))
abbrev Su (K:au)(a:aj):It:=
 ⟨λi H=>∃xs x,jM K H a xs/\xs[i]?=some x,λi H x H'=>H'=H/\∀xs,jM K H a xs->xs[i]?=some x,λi H=>∃xs,jM K H a xs/\xs.length<=i⟩
abbrev SM (K:au)(a:aj):It:=
 ⟨λi H=>∃xs x,kN K H a xs/\xs[i]?=some x,λi H x H'=>H'=H/\∀xs,kN K H a xs->xs[i]?=some x,λi H=>∃xs,kN K H a xs/\xs.length<=i⟩
abbrev QS (lo:Int)(n:Nat):It:=⟨λi _=>i<n,λi H x H'=>H'=H/\x=.int (lo+i),λi _=>n<=i⟩
def Fj{P:ah}{w:af}{K:au}(a it:aj):Turn P w K tg (Su K a) [it] it (λi h=>h.IsListIter it a i) where
 mem:=by simp
 obj:=λi h st b f=>by
  have e:b=it:=by simpa using f
  subst e;obtain⟨o,e,c,d⟩:=st;exact⟨o,e,λv z=>by rw[d]at z;cases z⟩
 keep:=λi h h' st k=>st.at λo e=>k it (by simp) o e
 item:=by
  w_up;subst hP hw hK;obtain⟨xs,x,j,m⟩:=hg;obtain⟨C,B,p,F⟩:=I.list j;obtain⟨u,J,L⟩:=B.get m;kd_p;refine wpAny_pyNext_list_item st p.isList (x:=u) (by simpa using J) λh' g N=>?_;have O:Inv X pins σ H { s with heap:=h' }:=I.turned (t':=s.toks) (λb o f e=>(N.2 b f).trans e) f0 f1 f3 f4 f5;obtain⟨o,e,c,d⟩:=id g;exact⟨u,rfl,Cw (s:={ s with heap:=h' }) e c d ⋯ ⟨x,H,O,L,⟨rfl,λys hy=>by rw[I.vK hy j];exact m⟩,g,λb f=>(hf b f).1⟩⟩
 done:=by
  w_up;subst hP hw hK;obtain⟨xs,j,m⟩:=hg;obtain⟨C,B,p,F⟩:=I.list j;kd_p;have T:=B.length;exact wpAny_pyNext_list_end (I.ok.hd hc) st p.isList (by simp;omega) λh' G=>⟨rfl,I.turned (t':=s.toks) (λb o f e=>G b o f e) f0 f1 f3 f4 f5⟩
 self:=λ_ _ _ _ _ st h=>wpAny_pyIter_listiter st h
def BC{P:ah}{w:af}{K:au}(a it:aj):Turn P w K tg (SM K a) [it] it (λi h=>h.IsTupleIter it a i) where
 mem:=by simp
 obj:=λi h st b f=>by
  have e:b=it:=by simpa using f
  subst e;obtain⟨o,e,c,d⟩:=st;exact⟨o,e,λv z=>by rw[d]at z;cases z⟩
 keep:=λi h h' st k=>st.at λo e=>k it (by simp) o e
 item:=by
  w_up;subst hP hw hK;obtain⟨xs,x,m,B⟩:=hg;obtain⟨g,C,p,F⟩:=I.tuple m;obtain⟨u,J,L⟩:=C.get B;kd_p;refine wpAny_pyNext_tuple_item st (show s.heap.IsTuple a g.toArray from p) (x:=u) (by simpa using J) λh' j N=>?_;have O:Inv X pins σ H { s with heap:=h' }:=I.turned (t':=s.toks) (λb o f e=>(N.2 b f).trans e) f0 f1 f3 f4 f5;obtain⟨o,e,c,d⟩:=id j;exact⟨u,rfl,Cw (s:={ s with heap:=h' }) e c d ⋯ ⟨x,H,O,L,⟨rfl,λys hy=>by rw[I.xU hy m];exact B⟩,j,λb f=>(hf b f).1⟩⟩
 done:=by
  w_up;subst hP hw hK;obtain⟨xs,m,B⟩:=hg;obtain⟨g,C,p,F⟩:=I.tuple m;kd_p;have T:=C.length;exact wpAny_pyNext_tuple_end (I.ok.hd hc) st (show s.heap.IsTuple a g.toArray from p) (by simp;omega) λh' G=>⟨rfl,I.turned (t':=s.toks) (λb o f e=>G b o f e) f0 f1 f3 f4 f5⟩
 self:=λ_ _ _ _ _ st h=>wpAny_pyIter_tupleiter st h
def By{P:ah}{w:af}{K:au}(it:aj)(lo:Int)(n:Nat):Turn P w K tg (QS lo n) [it] it (λi h=>IsRangeIter h it (lo+(i:Nat) * 1) ((n:Int)-(i:Nat)) 1) where
 mem:=by simp
 obj:=λi h st b d=>by
  have e:b=it:=by simpa using d
  subst e;exact⟨_,st,λv z=>by
   have m:Data.fields _=Data.cell v:=z
   cases m⟩
 keep:=λi h h' st k=>k it (by simp) _ st
 item:=by
  w_up;subst hP hw hK;kd_p;have W:=Walks.range (prog:=X.prog) (w:=X.w) (I.ok.hd hc) it lo 1 n;refine W.item i s _ _ hg st λv h' tk hv f j=>?_;obtain⟨t,rfl⟩:=hv;have p:Inv X pins σ H { s with heap:=h',toks:=tk }:=I.turned (λb o d e=>j b o (by simpa using d) e) f0 f1 f3 f4 f5;refine⟨_,rfl,Cw (s:={ s with heap:=h',toks:=tk }) (n := "range_iterator") f rfl rfl ⋯ ⟨.int<|lo+i,H,p,⟨t,?_⟩,⟨rfl,rfl⟩,f,λb d=>(hf b d).1⟩⟩;rw[Int.mul_one]
 done:=by
  w_up;subst hP hw hK;kd_p;exact wpAny_pyNext_range_end (I.ok.hd hc) st (by have:n<=i:=hg;lia) λh' g=>⟨rfl,I.turned (t':=s.toks) (λb o d e=>g b o d e) f0 f1 f3 f4 f5⟩
 self:=λ_ _ _ _ _ st h=>wpAny_pyIter_rangeiter st h
section
variable {X:Cx}{tg:aE}
abbrev Ri (K:au)(tl:TE):TI:=λσ H R=>tl σ H λx H1=>∃a,x=.ref a/\(∃xs,jM K H1 a xs)/\R (Su K a) H1
abbrev TU (K:au)(tl:TE):TI:=λσ H R=>tl σ H λx H1=>∃a,x=.ref a/\(∃xs,kN K H1 a xs)/\R (SM K a) H1
def CM{l:aE}{tl:TE}(J:PE X l tl):PI X tg l (Ri X.K tl):=by
 intro pins s σ H R I h;refine iQ (J pins s σ H _ I h) λv d ⟨x,H1,I1,r1,g⟩=>?_;obtain⟨a,e,⟨xs,j⟩,q⟩:=g;subst e
 cases r1
 obtain⟨k,B,p,m⟩:=I1.list j;refine wpAny_pyIter_list p.isList ?_;refine⟨d.heap.objs.size,[d.heap.objs.size],_,_,H1,rfl,I1.kept (t':=d.toks) λb o e=>aK _ e,Fj a _,⟨_,bz _ rfl,rfl,rfl⟩,λb f=>?_,q⟩;have e:b=d.heap.objs.size:=by simpa using f
 subst e;exact I1.B5 (aJ _)<|I1.hok.fresh<|aJ _
def F8{l:aE}{tl:TE}(J:PE X l tl):PI X tg l (TU X.K tl):=by
 intro pins s σ H R I h;refine iQ (J pins s σ H _ I h) λv d ⟨x,H1,I1,r1,j⟩=>?_;obtain⟨a,e,⟨xs,k⟩,q⟩:=j;subst e
 cases r1
 obtain⟨f,B,p,m⟩:=I1.tuple k;refine wpAny_pyIter_tuple (show d.heap.IsTuple a f.toArray from p) ?_;refine⟨d.heap.objs.size,[d.heap.objs.size],_,_,H1,rfl,I1.kept (t':=d.toks) λb o e=>aK _ e,BC a _,⟨_,bz _ rfl,rfl,rfl⟩,λb g=>?_,q⟩;have e:b=d.heap.objs.size:=by simpa using g
 subst e;exact I1.B5 (aJ _)<|I1.hok.fresh<|aJ _
def zL{H:Hp}{s:aA}{R:It->Hp->Prop}{E:aa->aA->Prop}{lo hi:Int}{v:Tok}{tk:Nat}(I:Inv X pins σ H s)(h1:-(2 ^ 62)<=lo)(j:lo<2 ^ 62)(J:-(2 ^ 62)<=hi)(L:hi<2 ^ 62)
  (q:R (QS lo (hi-lo).toNat) H):wpAny (model X.prog X.w) X.A (pyIter<|.ref s.heap.objs.size) (U7 X pins σ tg R) E { s with heap:=s.heap.push { cls:=.type "range",data:=.fields #[.int lo t,.int hi u,.int 1 v]},toks:=tk }:=by
 refine wpAny_pyIter_range (IsRange.new ..) (small_one h1 j J L) ?_;have I1:Inv X pins σ H { s with heap:=s.heap.push { cls:=.type "range",data:=.fields #[.int lo t,.int hi u,.int 1 v]},toks:=tk }:=I.kept λb o e=>aK _ e;refine⟨(s.heap.push { cls:=.type "range",data:=.fields #[.int lo t,.int hi u,.int 1 v]}).objs.size,[(s.heap.push { cls:=.type "range",data:=.fields #[.int lo t,.int hi u,.int 1 v]}).objs.size],_,_,H,rfl,
  I1.kept (t':=tk) λb o e=>aK _ e,By _ lo (hi-lo).toNat,?_,λb d=>?_,q⟩
 ·have e1:lo+((0:Nat):Int) * 1=lo:=by simp
  have e2:(((hi-lo).toNat:Nat):Int)-((0:Nat):Int)=Builtin.Range.rangeSize lo hi 1:=by rw[rangeSize_one];split<;>lia
  skip
  rw[e1,e2];exact bz _ rfl
 ·have e:b=(s.heap.push { cls:=.type "range",data:=.fields #[.int lo t,.int hi u,.int 1 v]}).objs.size:=by simpa using d
  subst e;exact I1.B5 (aJ _)<|I1.hok.fresh<|aJ _
abbrev uL (ta:TA):TI:=λσ H R=>ta σ H λd H1=>∃j:Int,d=[.int j]/\-(2 ^ 62)<=j/\j<2 ^ 62/\R (QS 0 j.toNat) H1
abbrev xO (ta:TA):TI:=λσ H R=>ta σ H λd H1=>∃i j:Int,d=[.int i,.int j]/\(-(2 ^ 62)<=i/\i<2 ^ 62/\-(2 ^ 62)<=j/\j<2 ^ 62)/\R (QS i (j-i).toNat) H1
def EL{a:aE}{ta:TA}{p:Pos}(hg:Gl X "range")(J:X.mg "range" = none)(L:PA X [a] ta)(hs:starEach [a] X.env=[(false,eval a X.env)]<|>ε):PI X tg (.Call (.Name "range" p) [a] [] pos) (uL ta):=by
 intro pins s σ H R I h;refine Call_<|uo I hg J boot_range<|cP (iQ (L pos pins s σ H _ I h) λus B ⟨m,H1,k,r1,d⟩=>?_) hs rfl;obtain⟨j,e,d,f,q⟩:=d;subst e
 cases r1 with
 | cons r g=>
  cases g
  obtain⟨t,rfl⟩:=r;exact call_range_1<|zL k () () d f<|by simpa using q
def E6{a b:aE}{ta:TA}{p:Pos}(hg:Gl X "range")(U:X.mg "range" = none)(Z:PA X [a,b] ta)(hs:starEach [a,b] X.env=[(false,eval a X.env),(false,eval b X.env)]<|>ε)(L:starEach [b] X.env=[(false,eval b X.env)]<|>ε) :
  PI X tg (.Call (.Name "range" p) [a,b] [] pos) (xO ta):=by
 intro pins s σ H R I h;refine Call_ (uo I hg U boot_range<|cP (iQ (Z pos pins s σ H _ I h) λus J ⟨F,H1,B,r1,d⟩=>?_) (by rw[hs,L])<|by rw[L];rfl);obtain⟨i,j,e,⟨d,g,m,k⟩,q⟩:=d;subst e
 cases r1 with
 | cons r f=>
  cases f with
  | cons C f=>
   cases f
   obtain⟨t,rfl⟩:=r;obtain⟨G,rfl⟩:=C;exact call_range_2<|zL B d g m k q
abbrev SW (j:TI)(g:TG)(tb:TS):TS:=λD σ H=>j σ H λJ H1=>∃W:Nat->Nat->St->Hp->Prop,(∃m,W 0 m σ H1)/\∀i m σ H,W i m σ H ->
 (J.stop i H/\D.nx σ H)\/(J.go i H/\∃N:St->Hp->Prop,(∀d H',N d H'->∃f,f<m/\W (i+1) f d H')/\∀x H',J.yld i H x H'->g x σ H' λσ2 H2=>tb { D with nx:=N,ct:=N,bk:=D.nx } σ2 H2)
abbrev qP (fp:be)(h:ak):bt:=fp.filterMap λb=>(h.get? b).map λo=>(b,o)
def jP{fp:be}{h:ak}{b:aj}{o:Obj}(hb:b∈fp)(e:h.get? b=some o):(b,o)∈qP fp h:=cT.mpr ⟨b,hb,by rw[e];rfl⟩
def FD{fp:be}{h:ak}{p:aj×Obj}(hp:p∈qP fp h):p.1∈fp/\h.get? p.1=some p.2:=by
 obtain⟨b,f,e⟩:=cT.mp hp
 cases q:h.get? b with
 | none=>rw[q]at e;cases e
 | some o=>
  rw[q]at e;have d:(b,o)=p:=aQ e;subst d;exact⟨f,q⟩
def Inv.pinned{H:Hp}{s:aA}{fp:be}(I:Inv X pins σ H s)(hf:∀b∈fp,n8 X pins H b)(j:∀b∈fp,∃o,s.heap.get? b=some o/\∀v,o.data≠.cell v):Inv X (pins++qP fp s.heap) σ H s:=
 I.Ez λp hp=>(bO.mp hp).elim (λz=>I.pin p<|br _ z) λz=>by
  obtain⟨f,e⟩:=FD z;obtain⟨f0,f1,f2,_⟩:=hf p.1 f;obtain⟨o,g,d⟩:=j p.1 f;rw[e]at g;cases g;exact⟨e,f0,f1,f2,d⟩
def Inv.nP{pl:bt}{H:Hp}(I:Inv X (pins++pl) σ H s):Inv X pins σ H s:=I.Ez λp hp=>I.pin p<|br _<|bK _ hp
def N6{iter:aE}{wi:TI}{g:TG}{tb:TS}(hp:PassesOwn (model X.prog X.w) X.A X.env X.xe)(hc:X.calm=true)(hi:PI X tg iter wi)(hg:PG X tg g)(hb:xR X body tb)
  (hs:(∀x,foldedSetIterable iter X.env x=pure x)<|>ζ):PS X (.For tg iter body [] pos) (SW wi g tb):=by
 kcf_m;refine wpAny_For (iQ (hi pins s σ H _ I h) λv s1 h1=>iQ h1 λitv s2 h2=>?_) hs;obtain⟨it,fp,tn,J,H2,e,I2,T,Y,f2,W,⟨m0,w0⟩,turn⟩:=h2;subst e;have k:∀{H':Hp},(∀b∈fp,H' b=none)->∀b∈fp,n8 X pins H' b:=λhn b hb=>⟨hn b hb,(f2 b hb).2⟩;refine codeAny_forLoop_any (λn s'=>∃i C H',Inv X pins C H' s'/\tn i s'.heap/\(∀b∈fp,H' b=none)/\W i n C H') ?_ m0 ⟨0,σ,H2,I2,Y,λb hb=>(f2 b hb).1,w0⟩;rintro n s3 ⟨i,B,H3,I3,U,P,w3⟩
 rcases turn i n B H3 w3 with⟨O,qn⟩|⟨go,N,hN,step⟩
 ·refine cZ hp<|iQ (T.done X rfl rfl rfl hc i pins s3 B H3 X.xe I3 (k P) U O) λr s4 ⟨Z,I4⟩=>?_;subst Z;exact d8 ⟨B,H3,I4,qn⟩
 ·refine cZ hp<|iQ (T.item X rfl rfl rfl hc i pins s3 B H3 X.xe I3 (k P) U go) λr s4 ⟨u,Z,h4⟩=>?_;subst Z;refine cZ hp<|iQ h4 λ_ s5 ⟨x,H5,I5,r5,y5,K,fr5⟩=>?_;have I5':=I5.pinned (k fr5)<|T.obj _ _ K;refine cZ hp<|iQ (hg _ s5 B H5 x u _ I5' r5<|step x H5 y5) λ_ s6 ⟨σ6,H6,I6,q6⟩=>?_;refine cZ hp<|iQ (hb _ s6 σ6 H6 _ I6 q6) λf V G=>?_;have again:∀{j:St} {F:Hp},Inv X (pins++qP fp s5.heap) j F V->N j F->∃m,m<n/\∃i C H',Inv X pins C H' V/\tn i V.heap/\(∀b∈fp,H' b=none)/\W i m C H':=λ{j F} p L=>by
   obtain⟨m',hm,w7⟩:=hN j F L;refine⟨m',hm,i+1,j,F,p.nP,T.keep _ _ _ K λb hb o e=>(p.pin (b,o)<|br _<|br _<|jP hb e).1,λb hb=>?_,w7⟩;obtain⟨o,e,d⟩:=T.obj _ _ K b hb;exact(p.pin (b,o)<|br _<|br _<|jP hb e).2.1
  cases f with
  | next=>obtain⟨j,F,p,L⟩:=G;exact again p L
  | cont=>obtain⟨j,F,p,L⟩:=G;exact again p L
  | brk=>obtain⟨j,F,p,G⟩:=G;exact⟨j,F,p.nP,G⟩
  | ret v=>obtain⟨x7,j,F,p,r7,G⟩:=G;exact⟨x7,j,F,p.nP,r7,G⟩
end
def vP{c:TT}{tb:TS}{D:Ends}{H:Hp}(j:St->Hp->Prop)(J:St->Hp->Nat)(h0:j σ H)
  (hs:∀σ H,j σ H->c σ H λb H1=>if b=true then tb { D with nx:=λσ' H'=>j σ' H'/\J σ' H'<J σ H,ct:=λσ' H'=>j σ' H'/\J σ' H'<J σ H,bk:=D.nx } σ H1 else D.nx σ H1)
  (mono:∀σ H Q Q',(∀b H1,Q b H1->Q' b H1)->c σ H Q->c σ H Q'):Jk c tb D σ H:=by
 refine⟨λm σ H=>m=J σ H/\j σ H,⟨_,rfl,h0⟩,?_⟩;rintro m σ H ⟨rfl,p⟩;refine mono σ H _ _ (λb H1 q=>?_) (hs σ H p)
 cases b with
 | true=>exact⟨_,λσ' H' ⟨d,l⟩=>⟨_,l,rfl,d⟩,q⟩
 | false=>exact q
meta abbrev R2:=V->V->Hp->VK->Prop
abbrev jI (X:Cx)(f:aa->aa->Sem aa)(r:R2):Prop:=
 ∀(pins:bt) (s:aA) (σ:St) (H:Hp) (x y:V) (v u:aa) (Q:VK),Inv X pins σ H s->RelV x v->RelV y u->r x y H Q ->
  wpAny (model X.prog X.w) X.A (f v u) (EP X pins σ Q) X.xe s
abbrev Sz (X:Cx)(f:aa->Sem aa)(r:V->Hp->VK->Prop):Prop:=
 ∀(pins:bt) (s:aA) (σ:St) (H:Hp) (x:V) (v:aa) (Q:VK),Inv X pins σ H s->RelV x v->r x H Q ->
  wpAny (model X.prog X.w) X.A (f v) (EP X pins σ Q) X.xe s
abbrev g6 (X:Cx)(f:aa)(r:List V->Hp->VK->Prop):Prop:=
 ∀(pins:bt) (s:aA) (σ:St) (H:Hp) (xs:List V) (us:bd) (Q:VK),Inv X pins σ H s->Vals xs us->r xs H Q ->
  wpAny (model X.prog X.w) X.A (call f us) (EP X pins σ Q) X.xe s
abbrev Uo (X:Cx)(r:V->Hp->(Bool->Hp->Prop)->Prop):Prop:=
 ∀(pins:bt) (s:aA) (σ:St) (H:Hp) (x:V) (v:aa) (Q:Bool->Hp->Prop),Inv X pins σ H s->RelV x v->r x H Q ->
  wpAny (model X.prog X.w) X.A (truthy v) (TP X pins σ Q) X.xe s
abbrev Qi (r:R2)(ta tb:TE):TE:=λσ H Q=>ta σ H λx H1=>tb σ H1 λy H2=>r x y H2 Q
abbrev UC (r:V->Hp->VK->Prop)(ta:TE):TE:=λσ H Q=>ta σ H λx H1=>r x H1 Q
abbrev rI (C:Int->Int->Prop)(g:Int->Int->V):R2:=λx y H Q=>∃i j,x=.int i/\y=.int j/\C i j/\Q (g i j) H
abbrev Ni (g:Int->Int->V):R2:=λx y H Q=>∃i j,x=.int i/\y=.int j/\Q (g i j) H
abbrev rU (g:Int->V):V->Hp->VK->Prop:=λx H Q=>∃i,x=.int i/\Q (g i) H
section
variable {X:Cx}{a b:aE}{ta tb:TE}{pos:Pos}
def N_(J:PE X a ta)(hb:PE X b tb){H:Hp}{R:V->V->Hp->Prop}(I:Inv X pins σ H s)
  (h:ta σ H λx H1=>tb σ H1 λy H2=>R x y H2) {Q:aa->aA->Prop} {f:aa->aa->Sem aa}
  (hf:∀v u s2 x y H2,Inv X pins σ H2 s2->RelV x v->RelV y u->R x y H2->wpAny (model X.prog X.w) X.A (f v u) Q X.xe s2) :
  wpAny (model X.prog X.w) X.A (eval a X.env) (λv s₁=>wpAny (model X.prog X.w) X.A (eval b X.env) (λu s₂=>wpAny (model X.prog X.w) X.A (f v u) Q X.xe s₂) X.xe s₁) X.xe s:=by
 refine iQ (J pins s σ H _ I h) λv m ⟨x,H1,j,r1,d⟩=>?_;refine iQ (hb pins m σ H1 _ j d) λu s2 ⟨y,H2,g,r2,k⟩=>?_;exact hf v u s2 x y H2 g r1 r2 k
def Rj{r:R2}(j:jI X (binaryOp op) r)(J:PE X a ta)(hb:PE X b tb):PE X (.BinOp a op b pos) (Qi r ta tb):=by
 z_go;exact wpAny_BinOp<|N_ J hb I h λv u s2 x y H2 d rx ry q=>j pins s2 σ H2 x y v u Q d rx ry q
def Jj{r:V->Hp->VK->Prop}(j:Sz X (unaryOp op) r)(J:PE X a ta):PE X (.UnaryOp op a pos) (UC r ta):=by
 z_go;exact UnaryOp_<|iQ (J pins s σ H _ I h) λv g ⟨x,H1,f,r1,d⟩=>j pins g σ H1 x v Q f r1 d
def Sq{f:aa->aa->Sem aa}{C:Int->Int->Prop}{g:Int->Int->Int}
  (J:∀(i j:Int) (t u:Tok) (s:aA) (Q:aa->aA->Prop) (E:aa->aA->Prop),C i j->Q (.int (g i j) s.toks) { s with toks:=s.toks+1 }->wpAny (model X.prog X.w) X.A (f (.int i t)<|.int j u) Q E s) :
  jI X f (rI C λi j=>.int<|g i j):=by
 k_ne;obtain⟨i,j,rfl,rfl,hc,q⟩:=h;kj_on;obtain⟨d,rfl⟩:=ry;exact J i j t d s _ _ hc ⟨.int<|g i j,H,I.tok _,⟨_,rfl⟩,q⟩
def Q6{f:aa->aa->Sem aa}{g:Int->Int->Int}
  (J:∀(i j:Int) (t u:Tok) (s:aA) (Q:aa->aA->Prop) (E:aa->aA->Prop),Q (.int (g i j) s.toks) { s with toks:=s.toks+1 }->wpAny (model X.prog X.w) X.A (f (.int i t)<|.int j u) Q E s) :
  jI X f (Ni λi j=>.int<|g i j):=by
 k_ne;obtain⟨i,j,rfl,rfl,q⟩:=h;kj_on;obtain⟨d,rfl⟩:=ry;exact J i j t d s _ _ ⟨.int<|g i j,H,I.tok _,⟨_,rfl⟩,q⟩
def LO{f:aa->aa->Sem aa}{g:Int->Int->Bool}
  (J:∀(i j:Int) (t u:Tok) (s:aA) (Q:aa->aA->Prop) (E:aa->aA->Prop),Q (.bool<|g i j) s->wpAny (model X.prog X.w) X.A (f (.int i t)<|.int j u) Q E s) :
  jI X f (Ni λi j=>.bl<|g i j):=by
 k_ne;obtain⟨i,j,rfl,rfl,q⟩:=h;kj_on;obtain⟨d,rfl⟩:=ry;exact J i j t d s _ _ ⟨.bl<|g i j,H,I,rfl,q⟩
abbrev S0 (i j:Int):Prop:=0<=j/\j<=1000000/\i.natAbs<2 ^ 64
abbrev Ln (i j:Int):Prop:=(-(2 ^ 64)<i/\i<2 ^ 64)\/(-(2 ^ 64)<j/\j<2 ^ 64)
def Ln.ok{i j:Int}(h:Ln i j):IntMulOk i j:=by
 rcases h with⟨h1,d⟩|⟨h1,d⟩
 ·exact .of_left (intBits_le_64 h1 d)
 ·exact .of_right<|intBits_le_64 h1 d
def OA:jI X (binaryOp .Add) (Ni λi j=>.int<|i+j):=Q6 λ_ _ _ _ _ _ _ q=>add_int q
def PX:jI X (binaryOp .Sub) (Ni λi j=>.int<|i-j):=Q6 λ_ _ _ _ _ _ _ q=>sub_int q
def Om:jI X (binaryOp .Mult) (rI Ln λi j=>.int<|i * j):=Sq λ_ _ _ _ _ _ _ hc q=>mul_int q hc.ok
def Oo:jI X (binaryOp .Mod) (rI (λ_ j=>0<j) λi j=>.int<|i % j):=Sq λi j _ _ _ _ _ hc q=>by
 have h1:(0:Int)<j:=hc;exact mod_int' ()<|by rw[Int.fmod_eq_emod_of_nonneg i ()];exact q
def NU:jI X (binaryOp .Pow) (rI S0 λi j=>.int<|i ^ j.toNat):=Sq λ_ _ _ _ _ _ _ hc q=>pow_int_small hc.1 hc.2.1 hc.2.2 q
def Vu{f:aa->Sem aa}{g:Int->Int}
  (j:∀(i:Int) (t:Tok) (s:aA) (Q:aa->aA->Prop) (E:aa->aA->Prop),Q (.int (g i) s.toks) { s with toks:=s.toks+1 }->wpAny (model X.prog X.w) X.A (f<|.int i t) Q E s) :
  Sz X f (rU λi=>.int<|g i):=by
 intro pins s σ H x v Q I rx h;obtain⟨i,rfl,q⟩:=h;kj_on;exact j i t s _ _ ⟨.int<|g i,H,I.tok _,⟨_,rfl⟩,q⟩
def Ck:Sz X (unaryOp .USub) (rU λi=>.int<|-i):=Vu λ_ _ _ _ _ q=>neg_int q
end
section
variable {X:Cx}{a b c:aE}{ta tb tc:TE}{pos:Pos}
def Iv{H:Hp}{Q:VK}{k:Bool}(I:Inv X pins σ H s)(q:Q (.bl k) H)(e:k=k'):EP X pins σ Q (.bool k') s:=by
 subst e;exact⟨.bl k,H,I,rfl,q⟩
def Se:jI X (compareOp .Lt) (Ni λi j=>.bl<|decide<|i<j):=LO λ_ _ _ _ _ _ _ q=>lt_int q
def RO:jI X (compareOp .LtE) (Ni λi j=>.bl<|decide<|i<=j):=LO λ_ _ _ _ _ _ _ q=>le_int q
def R9:jI X (compareOp .Gt) (Ni λi j=>.bl<|decide<|j<i):=LO λ_ _ _ _ _ _ _ q=>gt_int q
def RJ:jI X (compareOp .GtE) (Ni λi j=>.bl<|decide<|j<=i):=LO λ_ _ _ _ _ _ _ q=>ge_int q
def FF:jI X (compareOp .In) (λx y H Q=>∃i j,x=.str i/\y=.str j/\Q (.bl<|!(Builtin.Str.occurrences j i 0 j.length 1).isEmpty) H):=by
 k_ne;obtain⟨i,j,rfl,rfl,q⟩:=h;kj_on;obtain⟨d,rfl⟩:=ry;exact in_str<|Iv I q rfl
def NI:jI X (compareOp .Is) (λx y H Q=>y=.non/\Q (.bl<|decide<|x=.non) H):=by
 k_ne;obtain⟨rfl,q⟩:=h
 cases ry
 refine is_none_gen (Iv I q ?_)
 cases x<;>first
  | (cases rx;rfl)
  | (obtain⟨t,rfl⟩:=rx;rfl)
def Jl(b:aE)(h:op≠.In<|>δ)(j:op≠.NotIn<|>δ):behindInMarks op b=false:=by
 have e1:(op == CmpOp.In)=false:=by cases op<;>first|rfl|exact absurd rfl h
 have e2:(op == CmpOp.NotIn)=false:=by cases op<;>first|rfl|exact absurd rfl j
 cases b<;>simp[behindInMarks,e1,e2]
def LG{j:CmpOp}{r:R2}(J:jI X (compareOp j) r)(L:PE X a ta)(hb:PE X b tb)(U:behindInMarks j b=false):PE X (.Compare a [j] [b] pos) (Qi r ta tb):=by
 z_go;exact wpAny_Compare1 (N_ L hb I h λv u s2 x y H2 d rx ry q=>J pins s2 σ H2 x y v u Q d rx ry q) U
abbrev Nx (t:TE):TT:=λσ H Q=>t σ H λx H'=>∃k,x=.bl k/\Q k H'
def Dv{J:CmpOp}{r:R2}(L:jI X (compareOp J) r)(U:PE X a ta)(hb:PE X b tb)(Z:behindInMarks J b=false):PT X (.Compare a [J] [b] pos) (Nx<|Qi r ta tb):=by
 z_go;refine wpAny_isTrue_Compare1 (iQ (U pins s σ H _ I h) λv C ⟨x,H1,B,r1,p⟩=>iQ (hb pins C σ H1 _ B p) λu s2 ⟨y,H2,d,r2,g⟩=>
  iQ (L pins s2 σ H2 x y v u _ d r1 r2 g) λc s3 ⟨z,H3,j,f,k,e,m⟩=>?_) Z
 subst e
 cases f
 exact cH ⟨H3,j,m⟩
abbrev Cj (r j:R2)(ta tb tc:TE):TE:=λσ H Q=>ta σ H λx H1=>tb σ H1 λy H2=>r x y H2 λz H3=>∃k,z=.bl k /\
 (if k=true then tc σ H3 λf d=>j y f d Q else Q (.bl false) H3)
def JW{r Z:R2}(ho:jI X (compareOp op) r)(U:jI X (compareOp op') Z)(ha:PE X a ta)(hb:PE X b tb)(hc:PE X c tc)
  (hm:lastMarks [op,op'] [b,c]=false<|>η):PE X (.Compare a [op,op'] [b,c] pos) (Cj r Z ta tb tc):=by
 z_go;refine Compare_chain (iQ (ha pins s σ H _ I h) λv O ⟨x,H1,N,r1,K⟩=>chain_link (iQ (hb pins O σ H1 _ N K) λu s2 ⟨y,H2,j,r2,p⟩=>
  iQ (ho pins s2 σ H2 x y v u _ j r1 r2 p) λd s3 ⟨z,H3,f,m,k,e,g⟩=>?_)) hm
 subst e
 cases m
 refine cH ?_
 cases k with
 | false=>exact ite_ff ⟨.bl false,H3,f,rfl,g⟩
 | true=>exact ite_tt<|chain_last<|iQ (hc pins s3 σ H3 _ f g) λL J ⟨B,C,P,G,F⟩=>U pins J σ C y B u L Q P r2 G F
def IF{r r':R2}(ho:jI X (compareOp op) r)(ho':jI X (compareOp op') r')(ha:PE X a ta)(hb:PE X b tb)(hc:PE X c tc)
  (hm:lastMarks [op,op'] [b,c]=false<|>η):PT X (.Compare a [op,op'] [b,c] pos) (Nx<|Cj r r' ta tb tc):=by
 z_go;refine isTrue_chain (iQ (ha pins s σ H _ I h) λv Y ⟨x,H1,V,r1,T⟩=>test_link (iQ (hb pins Y σ H1 _ V T) λu s2 ⟨y,H2,p,r2,C⟩=>
  iQ (ho pins s2 σ H2 x y v u _ p r1 r2 C) λd s3 ⟨z,H3,f,B,k,e,g⟩=>?_)) hm
 subst e
 cases B
 refine cH ?_
 cases k with
 | false=>
  obtain⟨k',N,q'⟩:=g
  cases N
  exact ite_ff ⟨H3,f,q'⟩
 | true=>
  refine ite_tt<|test_last<|iQ (hc pins s3 σ H3 _ f g) λU O ⟨F,G,Z,K,J⟩=>iQ (ho' pins O σ G y F u U _ Z r2 K J) λd' s5 ⟨z2,P,L,j,k2,e2,m⟩=>?_;subst e2
  cases j
  exact cH ⟨P,L,m⟩
abbrev Pc (K:au)(x:V)(H:Hp)(k:Bool):Prop:=
 match x with
 | .non=>k=false
 | .bl b=>k=b
 | .int i=>k=(i != 0)
 | .str y=>y.length<=sizeLine/\k=((y.length:Int) != 0)
 | .byt y=>y.size<=sizeLine/\k=((y.size:Int) != 0)
 | .ref p=>(∃xs,jM K H p xs/\k=!xs.isEmpty)\/(∃xs,kN K H p xs/\k=!xs.isEmpty)\/∃kvs,H p=some (.dK kvs)/\k=!kvs.isEmpty
 | _=>False
def BK{κ:Type}{kvs:List<|κ×V}{vs:List<|κ×aa}(r:KV kvs vs):(!vs.isEmpty)=!kvs.isEmpty:=by
 cases r<;>rfl
def vW{xs:List V}{its:bd}(r:Vals xs its):(!its.toArray.isEmpty)=!xs.isEmpty:=by
 cases r<;>simp
def uc:(sizeLine:Nat)<2 ^ 63:=by rw[bH];decide
def O1:Uo X (λx H Q=>∃k,Pc X.K x H k/\Q k H):=by
 intro pins s σ H x v Q I rx h;obtain⟨k,e,q⟩:=h;have G:=uc;have hs:sizeLine=16777216:=bH
 cases x with
 | non=>
  cases rx
  have d:k=false:=e;subst d;exact truthy_none ⟨H,I,q⟩
 | bl b=>
  cases rx
  have d:k=b:=e;subst d;exact cH ⟨H,I,q⟩
 | int i=>
  kj_on;have d:k=(i != 0):=e;subst d;exact PySem.P.truthy_int ⟨H,I,q⟩
 | str y=>
  kj_on;obtain⟨hy,d⟩:y.length<=sizeLine/\k=((y.length:Int) != 0):=e;subst d;exact PySem.P.truthy_str () ⟨H,I.tok _,q⟩
 | byt y=>
  kj_on;obtain⟨hy,d⟩:y.size<=sizeLine/\k=((y.size:Int) != 0):=e;subst d;exact PySem.W.truthy_bytes () ⟨H,I.tok _,q⟩
 | ref p=>
  cases rx
  have d:(∃xs,jM X.K H p xs/\k=!xs.isEmpty)\/(∃xs,kN X.K H p xs/\k=!xs.isEmpty)\/∃kvs,H p=some (.dK kvs)/\k=!kvs.isEmpty:=e
  rcases d with⟨xs,g,d⟩|⟨xs,g,d⟩|⟨kvs,g,d⟩
  ·subst d;obtain⟨B,r,pl,C⟩:=I.list g;have f:=r.length;exact wpAny_truthy_list pl.isList (by dsimp[aN];lia) ⟨H,I.tok _,by rw[vW r];exact q⟩
  ·subst d;obtain⟨B,r,pl,C⟩:=I.tuple g;have f:=r.length;exact truthy_tuple pl (by dsimp[aN];lia) ⟨H,I.tok _,by rw[vW r];exact q⟩
  ·subst d;obtain⟨C,F,j,r,m⟩:kvs.length<=sizeLine/\(p == sysModules)=false/\∃j,KV kvs j/\s.heap.DictOf (g9 X.prog X.w) p j:=I.hok p _ g;have f:kvs.length=j.length:=fQ r;exact wpAny_truthy_dict F m () ⟨H,I.tok _,by rw[BK r];exact q⟩
 | _=>exact(show False from e).elim
def IV(j:PE X a ta)(J:∀whole,isTrue a X.env whole=(do let v <- whole;standAt a.pos;holding [v] (truthy v))) :
  PT X a (λσ H Q=>ta σ H λx H'=>∃k,Pc X.K x H' k/\Q k H'):=by
 z_go;exact isTrue_plain (iQ (j pins s σ H _ I h) λv g ⟨x,H1,f,r1,d⟩=>O1 pins g σ H1 x v Q f r1 d)<|J _
def BL:jI X (binaryOp .Add) (λx y H Q=>∃i j,x=.str i/\y=.str j/\i.length+j.length<=sizeLine/\Q (.str<|i++j) H):=by
 k_ne;obtain⟨i,j,rfl,rfl,d,q⟩:=h;kj_on;obtain⟨f,rfl⟩:=ry;exact add_str (λf tk=>⟨.str<|i++j,H,I.tok _,⟨_,rfl⟩,q⟩) d
def vals1{x:V}(r:Vals [x] us):∃u,us=[u]/\RelV x u:=by
 cases r with
 | cons r1 r2=>cases r2;exact⟨_,rfl,r1⟩
def vals2{x:V}(r:Vals [x,y] us):∃u w',us=[u,w']/\RelV x u/\RelV y w':=by
 cases r with
 | cons r1 r2=>
  cases r2 with
  | cons f d=>cases d;exact⟨_,_,rfl,r1,f⟩
def F4:g6 X (.builtin "abs") (λxs H Q=>∃i,xs=[.int i]/\Q (.int<|if i<0 then -i else i) H):=by
 fin2;obtain⟨i,rfl,q⟩:=h;obtain⟨u,rfl,t,rfl⟩:=vals1 r;exact call_abs_int λu tk=>⟨.int<|if i<0 then -i else i,H,I.tok _,⟨_,rfl⟩,q⟩
def Fp(hc:X.calm=true):g6 X (.builtin "max") (λxs H Q=>∃i j,xs=[.int i,.int j]/\Q (.int<|if j>i then j else i) H):=by
 fin2;obtain⟨i,j,rfl,q⟩:=h;obtain⟨u,g,rfl,⟨t,rfl⟩,⟨f,rfl⟩⟩:=vals2 r;refine max_two_ints (I.ok.hd hc) λh' tk k=>⟨_,H,I.kept k,?_,q⟩;by_cases d:j>i
 ·rw[aR d,aR d];exact⟨_,rfl⟩
 ·rw[aO d,aO d];exact⟨_,rfl⟩
def Fg(hc:X.calm=true):g6 X (.builtin "min") (λxs H Q=>∃i j,xs=[.int i,.int j]/\Q (.int<|if j<i then j else i) H):=by
 fin2;obtain⟨i,j,rfl,q⟩:=h;obtain⟨u,g,rfl,⟨t,rfl⟩,⟨f,rfl⟩⟩:=vals2 r;refine min_two_ints (I.ok.hd hc) λh' tk k=>⟨_,H,I.kept k,?_,q⟩;by_cases d:j<i
 ·rw[aR d,aR d];exact⟨_,rfl⟩
 ·rw[aO d,aO d];exact⟨_,rfl⟩
def yo:g6 X (.type "int") (λxs H Q=>(∃i,xs=[.int i]/\Q (.int i) H)\/∃k,xs=[.bl k]/\Q (.int<|if k then 1 else 0) H):=by
 fin2
 rcases h with⟨i,rfl,q⟩|⟨k,rfl,q⟩
 ·obtain⟨u,rfl,t,rfl⟩:=vals1 r;exact call_int_int ⟨.int i,H,I,⟨_,rfl⟩,q⟩
 ·obtain⟨u,rfl,r1⟩:=vals1 r
  cases r1
  exact call_int_bool ⟨.int<|if k then 1 else 0,H,I.tok _,⟨_,rfl⟩,q⟩
def yK:g6 X (.type "str") (λxs H Q=>∃i,xs=[.int i]/\i.natAbs.log2<1920/\Q (.str<|toString i) H):=by
 fin2;obtain⟨i,rfl,d,q⟩:=h;obtain⟨u,rfl,t,rfl⟩:=vals1 r;exact PySem.P.str_of_int d ⟨.str _,H,I.tok _,⟨_,rfl⟩,q⟩
abbrev TN (K:au)(x:V)(H:Hp)(n:Nat):Prop:=
 match x with
 | .str y=>y.length<=sizeLine/\n=y.length
 | .byt y=>y.size<=sizeLine/\n=y.size
 | .ref p=>(∃xs,jM K H p xs/\n=xs.length)\/∃xs,kN K H p xs/\n=xs.length
 | _=>False
def Kl:g6 X (.builtin "len") (λxs H Q=>∃x n,xs=[x]/\TN X.K x H n/\Q (.int n) H):=by
 fin2;obtain⟨x,n,rfl,e,q⟩:=h;kst_p;have B:=uc;have hs:sizeLine=16777216:=bH
 cases x with
 | str y=>
  kj_on;obtain⟨hy,f⟩:y.length<=sizeLine/\n=y.length:=e;subst f;exact len_str () ⟨.int _,H,I.tok _,⟨_,rfl⟩,q⟩
 | byt y=>
  kj_on;obtain⟨hy,f⟩:y.size<=sizeLine/\n=y.size:=e;subst f;exact PySem.W.len_bytes () ⟨.int _,H,I.tok _,⟨_,rfl⟩,q⟩
 | ref p=>
  cases rx
  have f:(∃xs,jM X.K H p xs/\n=xs.length)\/∃xs,kN X.K H p xs/\n=xs.length:=e
  rcases f with⟨xs,g,f⟩|⟨xs,g,f⟩
  ·subst f;obtain⟨j,k,pl,m⟩:=I.list g;have d:=k.length;exact Calls.call_len_list pl.isList (by dsimp[aN];lia) ⟨.int xs.length,H,I.tok _,⟨_,by dsimp[aN];rw[d]⟩,q⟩
  ·subst f;obtain⟨j,k,pl,m⟩:=I.tuple g;have d:=k.length;exact len_tuple pl (by dsimp[aN];lia) ⟨.int xs.length,H,I.tok _,⟨_,by dsimp[aN];rw[d]⟩,q⟩
 | _=>exact(show False from e).elim
end
structure ObjM (h:ak)(x dx C:aj)(mA:Str->bi):Prop where
 obj:h.get? x=some (PySem.W.instObj C dx)
 ns:h.Ns1 dx mA
 ne:dx≠x
def Fv{h:ak}{mA:Str->bi}(n:h.Ns1 dx mA):∃od,h.get? dx=some od/\∀name,PySem.W.lookIn name od=some (mA name):=by
 obtain⟨o,es,m,g,hd,f,_,k⟩:=n;refine⟨o,g,λname=>?_⟩;have e:=k name;unfold nsFind findBy at e;rw[<- Array.find?_toList]at e;unfold PySem.W.lookIn;rw[hd];dsimp only;split
 ·rename_i y q;rw[q]at e;exact cO some e
 ·rename_i q;rw[q]at e;have a:es.toList.any (·.refKey)=false:=by
   rw[List.any_eq_false];intro y hy;obtain⟨z,t,d⟩:=f y<|Array.mem_toList_iff.mp hy;simp[DictEntry.refKey,d]
  have j:¬es.toList.any (·.refKey)=true:=by rw[a];exact bC
  rw[aO j];exact cO some e
def ObjM.look{x C:aj}{mA:Str->bi}(I:ObjM h x dx C mA):∃od,PySem.W.InstAt h x (PySem.W.instObj C dx) C (some od)/\∀name,PySem.W.lookIn name od=some (mA name):=
 let⟨od,ho,hl⟩:=Fv I.ns
 ⟨od,⟨I.obj,rfl,rfl,ho⟩,hl⟩
section
variable {prog:ah}{w:af}{A:az}{E:aa->aA->Prop}{s:aA}{K:au}{x dx C f:aj}{mA:Str->bi}{name:Str}{v:aa}
def get_map{Q:aa->aA->Prop}(X:K.In s.heap)(I:ObjM s.heap x dx C mA)(hg:PySem.W.plainGet K C name=true)(hh:PySem.W.hasDictIn K C=true)
  (L:PySem.W.findIn K (.ref C) name=some none) (hv:mA name=some v) (j:PySem.W.handedIn v=true) (h:Q v { s with toks:=s.toks+1 }) :
  wpAny (model prog w) A (getAttr (.ref x) name expr) Q E s:=by
 obtain⟨od,J,d⟩:=I.look;exact PySem.W.get_value X J (fy hg).1 (PySem.W.findObj_own hh L rfl<|by rw[d,hv]) j h
def Kf{pl:Sem Bool}{Q:aa×bd->aA->Prop}(X:K.In s.heap)(I:ObjM s.heap x dx C mA)(hg:PySem.W.plainGet K C name=true)
  (hf:PySem.W.findIn K (.ref C) name=some (some<|.ref f)) (j:PySem.W.isFn K (.ref f)=true) (hv:mA name=none) (h:Q (.ref f,[.ref x]) s) :
  wpAny (model prog w) A (getMethod (.ref x) name pl) Q E s:=by
 obtain⟨od,J,d⟩:=I.look;exact PySem.W.method_fn X J (fy hg).1 (fy hg).2 hf (dN.mp j) (by show(PySem.W.lookIn name od).map (·.isSome)=some false;rw[d,hv];rfl) h
def Mw{ns:ba}{Q:Unit->aA->Prop}(X:K.In s.heap)(I:ObjM s.heap x dx C mA)
  (hs:PySem.W.findIn K (.ref C) "__setattr__" = some (some<|.builtin "object.__setattr__")) (hp:PySem.W.plainOver K C=true) (U:PySem.W.takerIn K C name=some none) (hh:PySem.W.hasDictIn K C=true)
  (hw:PySem.Within mA ns) (hsz:ns.length<=sizeLine)
  (h:∀h',ObjM h' x dx C (λy=>if y=name then some v else mA y)->Heap.SameBut dx s.heap h'->Q Unit.unit { s with heap:=h',toks:=s.toks+2 }) :
  wpAny (model prog w) A (setAttr (.ref x) name v) Q E s:=by
 obtain⟨od,J,L⟩:=I.look;refine PySem.W.set_plain X J hs<|PySem.W.osa_open (s:={ s with toks:=s.toks+1 }) (r:=none) X J hp U λb=>?_;obtain⟨cd,hc,m⟩:=PySem.W.any_some hh;have p:s.heap.get? x=some ⟨.ref C,some dx,.plain,#[]⟩:=I.obj;refine aG<|aM<|aG<|aG<|wpAny_loadPart p<|aG<|PySem.W.Looks.here (s:={ s with toks:=s.toks+1 }) (PySem.W.looks_clsIn X hc) ?_;rw[m];refine aM (a:=some dx)<|aG<|aM<|aG ?_;refine wpAny_nsSet1 (s:={ s with toks:=s.toks+1 }) I.ns λh' d f=>?_;obtain⟨G,F,B,j,g,k⟩:=d.count<|PySem.Within.cons name v hw;refine aG (wpAny_lookBehind j (by rw[g];exact pastItsLine_dict<|bI k<|by rw[bq];lia) ?_);exact aM<|h _ ⟨(f.2 _<|bM I.ne).trans I.obj,d,I.ne⟩ f
def GP{R:Result->aA->Prop}(X:K.In s.heap)(J:PySem.W.makesIn K C=true)
  (hi:PySem.W.findIn K (.ref C) "__init__" = some (some<|.ref f)) (hf:PySem.W.typeIn K (.ref f)=some (.type "function"))
  (h:codeAny (model prog w) (A.under<|.builtin "type.__call__" ⟨.ref C::vs,kw⟩) (.call (.ref f) ⟨.ref (s.heap.objs.size+1)::vs,kw⟩) (PySem.W.InitBack (s.heap.objs.size+1) R)
   { s with heap:=(s.heap.push PySem.W.emptyDict).push<|PySem.W.instObj C s.heap.objs.size}) :
  codeAny (model prog w) A (.call (.ref C) ⟨vs,kw⟩) R s:=by
 obtain⟨k,g,d,t,os⟩:=s;exact PySem.W.make_core (PySem.W.makes_of X J) (PySem.W.looks_findIn X hi) (λj=>PySem.W.bind_fn X j hf) (.inl rfl) h
end
abbrev nW (f:Str)(v:V):List (Str×V)->List (Str×V)
 | []=>[(f,v)]
 | (g,x)::r=>if g=f then(g,v)::r else(g,x)::nW f v r
theorem uM(f g:Str)(v:V):∀fs:List<|Str×V,(nW f v fs).lookup g=if g=f then some v else fs.lookup g
 | []=>by
  show List.lookup g [(f,v)]=_;by_cases h:g=f
  ·have d:(g == f)=true:=dN.mpr h;dsimp[List.lookup,d,aR h]
  ·have d:(g == f)=false:=bN.mpr h;dsimp[List.lookup,d,aO h]
 | (k,x)::r=>by
  have m:=uM f g v r;rw[show nW f v ((k,x)::r)=(if k=f then(k,v)::r else(k,x)::nW f v r)from rfl];by_cases j:k=f
  ·rw[aR j];by_cases h:g=k
   ·have d:(g == k)=true:=dN.mpr h;dsimp[List.lookup,d,aR<|h.trans j]
   ·have d:(g == k)=false:=bN.mpr h;dsimp[List.lookup,d,aO (λe:g=f=>h<|e.trans j.symm)]
  ·rw[aO j];by_cases h:g=k
   ·have d:(g == k)=true:=dN.mpr h;dsimp[List.lookup,d,aO (λe:g=f=>j<|h.symm.trans e)]
   ·have d:(g == k)=false:=bN.mpr h;dsimp[List.lookup,d];exact m
theorem sO(f:Str)(v:V):∀fs:List<|Str×V,f∈(nW f v fs).map (·.1)/\∀g,g∈fs.map (·.1)->g∈(nW f v fs).map (·.1)
 | []=>⟨by simp[nW],λg h=>by simp at h⟩
 | (k,x)::r=>by
  obtain⟨m,j⟩:=sO f v r;rw[show nW f v ((k,x)::r)=(if k=f then(k,v)::r else(k,x)::nW f v r)from rfl];by_cases d:k=f
  ·rw[aR d];subst d;exact⟨by simp,λg h=>by simpa using h⟩
  ·rw[aO d];refine⟨?_,λg h=>?_⟩
   ·rw[bf];exact aW _ m
   ·rw[bf]at h ⊢
    rcases bJ.mp h with e|e
    ·exact bJ.mpr (.inl e)
    ·exact aW _<|j g e
theorem uH(f:Str)(v:V):∀fs:List<|Str×V,(nW f v fs).length<=fs.length+1
 | []=>by simp[nW]
 | (k,x)::r=>by
  have g:=uH f v r;rw[show nW f v ((k,x)::r)=(if k=f then(k,v)::r else(k,x)::nW f v r)from rfl];by_cases d:k=f
  ·rw[aR d,bq,bq];lia
  ·rw[aO d,bq,bq];lia
def oV.some_of{v:V}{o:bi}(r:oV (some v) o):∃u,o=some u/\RelV v u:=by
 cases o with
 | none=>exact(show False from r).elim
 | some u=>exact⟨u,rfl,r⟩
def oV.none_of{o:bi}(r:oV none o):o=none:=by
 cases o with
 | none=>rfl
 | some u=>exact(show False from r).elim
def EK{v:V}(r:RelV v u):PySem.W.handedIn u=true:=by
 cases v with
 | non=>cases(show u=Value.none from r);rfl
 | bl b=>cases(show u=Value.bool b from r);rfl
 | int i=>obtain⟨t,e⟩:=(show ∃t,u=Value.int i t from r);cases e;rfl
 | str x=>obtain⟨t,e⟩:=(show ∃t,u=Value.str x t from r);cases e;rfl
 | byt b=>obtain⟨t,e⟩:=(show ∃t,u=Value.bytes b t from r);cases e;rfl
 | flt b=>obtain⟨t,e⟩:=(show ∃t,u=Value.float b t from r);cases e;rfl
 | ref a=>cases(show u=Value.ref a from r);rfl
 | ty n=>cases(show u=Value.type n from r);rfl
section
variable {P:ah}{w:af}{H:Hp}{h:ak}{a C dx:aj}{fs:List (Str×V)}
def vh(j:qh P w H h)(e:H a=some (.ins C dx fs)):∃mA,ObjM h a dx C mA/\(∀f,oV (fs.lookup f)<|mA f)/\PySem.Within mA (fs.map (·.1))/\fs.length<=1000/\H dx=some (.own a):=by
 obtain⟨d,z,ne,ob,mA,n,r,q⟩:=(show iS P w H h a (.ins C dx fs)from j a _ e);exact⟨mA,⟨ob,n,ne⟩,r,q,z,d⟩
end
structure Cls (K:au)(C:aj):Prop where
 pg:PySem.W.plainGet K C Str.empty=true
 hd:PySem.W.hasDictIn K C=true
 po:PySem.W.plainOver K C=true
 sa:PySem.W.findIn K (.ref C) "__setattr__" = some (some<|.builtin "object.__setattr__")
def Cls.get{K:au}{C:aj}(c:Cls K C)(f:Str):PySem.W.plainGet K C f=true:=c.pg
abbrev je (K:au)(C:aj)(f:Str):Prop:=PySem.W.findIn K (.ref C) f=some none
def je.RU{K:au}{C:aj}{f:Str}(n:je K C f):PySem.W.takerIn K C f=some none:=by
 unfold PySem.W.takerIn;rw[show PySem.W.findIn K (.ref C) f=some none from n];rfl
structure Meth (K:au)(C:aj)(m:Str)(f:aj):Prop where
 at_:PySem.W.findIn K (.ref C) m=some (some<|.ref f)
 fn:PySem.W.isFn K (.ref f)=true
 kp:PySem.W.keepIn K (.ref f)=true
section
variable {X:Cx}{pins:bt}{σ:St}{H:Hp}{s:aA}{a C dx:aj}{fs:List (Str×V)}{f:Str}{v:V}{A:az}{E:aa->aA->Prop}
def Ce{Q:aa->aA->Prop}(I:Inv X pins σ H s)(e:H a=some (.ins C dx fs))(c:Cls X.K C)(n:je X.K C f)(l:fs.lookup f=some v)
  (h:∀u s',Inv X pins σ H s'->RelV v u->Q u s'):wpAny (model X.prog X.w) A (getAttr (.ref a) f b) Q E s:=by
 obtain⟨mA,O,r,_,_,_⟩:=vh I.hok e;obtain⟨u,g,d⟩:=oV.some_of (v:=v) (o:=mA f) (by rw[<- l];exact r f);exact get_map I.rg O (c.get f) c.hd n g (EK d)<|h u _ (I.tok _) d
def wJ{m:Str}{g:aj}{pl:Sem Bool}{Q:aa×bd->aA->Prop}(I:Inv X pins σ H s)(e:H a=some (.ins C dx fs))(c:Cls X.K C)(k:Meth X.K C m g)(l:fs.lookup m=none)
  (h:Q (.ref g,[.ref a]) s):wpAny (model X.prog X.w) A (getMethod (.ref a) m pl) Q E s:=by
 obtain⟨mA,O,r,_,_,_⟩:=vh I.hok e;have hn:mA m=none:=oV.none_of (by rw[<- l];exact r m);exact Kf I.rg O (c.get m) k.at_ k.fn hn h
def BJ{Q:Unit->aA->Prop}(I:Inv X pins σ H s)(e:H a=some (.ins C dx fs))(c:Cls X.K C)(n:je X.K C f)(J:fs.length<1000)(ry:RelV y u)
  (h:∀s',Inv X pins σ (upd H a<|.ins C dx<|nW f y fs) s'->Q Unit.unit s'):wpAny (model X.prog X.w) A (setAttr (.ref a) f u) Q E s:=by
 obtain⟨mA,O,r,j,_,k⟩:=vh I.hok e;have m:(fs.map (·.1)).length<=sizeLine:=by rw[aH,bH];lia
 refine Mw I.rg O c.sa c.po n.RU c.hd j m λh' d B=>h _ ?_;have hd:∃o,h'.get? dx=some o:=let⟨o,_,_,e',_⟩:=d.ns;⟨o,e'⟩
 refine I.write (x:=a) (e:=dx) (by rw[e];exact True.intro) (.inr k) (λb q p z=>(B.2 b p).trans z) hd ?_;refine⟨by rw[gy O.ne];exact k,?_,O.ne,d.obj,_,d.ns,λg=>?_,λg hg=>?_⟩
 ·have:=uH f y fs;lia
 ·skip
  rw[uM];by_cases q:g=f
  ·rw[aR q,aR q];exact ry
  ·rw[aO q,aO q];exact r g
 ·by_cases q:g=f
  ·rw[q];exact(sO f y fs).1
  ·refine(sO f y fs).2 g (j g λz=>hg ?_);show(if g=f then some u else mA g)=none;rw[aO q];exact z
def Inv.made(I:Inv X pins σ H s):Inv X pins σ (upd (upd H s.heap.objs.size<|.own<|s.heap.objs.size+1) (s.heap.objs.size+1)<|.ins C s.heap.objs.size [])
  { s with heap:=(s.heap.push PySem.W.emptyDict).push<|PySem.W.instObj C s.heap.objs.size}:=by
 have e1:(s.heap.push PySem.W.emptyDict).get? s.heap.objs.size=some PySem.W.emptyDict:=bz s.heap rfl;have e2:((s.heap.push PySem.W.emptyDict).push<|PySem.W.instObj C s.heap.objs.size).get? (s.heap.objs.size+1)=some (PySem.W.instObj C s.heap.objs.size):=by
  have:=bz (s.heap.push PySem.W.emptyDict) (o:=PySem.W.instObj C s.heap.objs.size) rfl
  rwa [cU]at this
 have e3:(s.heap.push PySem.W.emptyDict).Ns s.heap.objs.size (λ_=>none):=⟨PySem.W.emptyDict,#[],_,e1,rfl,(λe d=>absurd d<|by simp),λ_=>rfl⟩;have f:=I.laid (a:=s.heap.objs.size) (o:=.own<|s.heap.objs.size+1) (h':=s.heap.push PySem.W.emptyDict) (t':=s.toks) (λb u q=>aK _ q) (aJ _) ⟨_,e1⟩;refine f.laid (a:=s.heap.objs.size+1) (o:=.ins C s.heap.objs.size []) (t':=s.toks) (λb u q=>aK _ q) (Nat.le_of_eq<|cU _ _) ?_;have ne:s.heap.objs.size≠s.heap.objs.size+1:=bh<|cD _;refine⟨by rw[gy ne,g8],er _,ne,e2,λ_=>none,(Heap.Ns1.of_empty e3).at λo q=>aK _ q,λ_=>True.intro,λy hy=>absurd rfl hy⟩
def Ms{prog:ah}{w:af}{env:Env}{f:Str}{s:aA}{Q:aa->aA->Prop}(hb:attributeBase e f env (eval e env)=eval e env)
  (h:wpAny (model prog w) A (eval e env) (λo s₁=>wpAny (model prog w) A (getAttr o f true) Q E s₁) E s):wpAny (model prog w) A (eval (.Attribute e f pos) env) Q E s:=
 Attribute_any_ h (by rw[arm_eval_Attribute,hb])
end
abbrev TF (K:au)(ta:TE)(f:Str):TE:=λσ H Q=>ta σ H λx H1=>∃a C dx fs v,x=.ref a/\H1 a=some (.ins C dx fs)/\Cls K C/\je K C f/\fs.lookup f=some v/\Q v H1
abbrev wY (K:au)(ta tv:TE)(f:Str):TS:=λD σ H=>tv σ H λy H1=>ta σ H1 λx H2=>∃a C dx fs,x=.ref a/\H2 a=some (.ins C dx fs)/\Cls K C/\je K C f/\fs.length<1000 /\
 D.nx σ (upd H2 a<|.ins C dx<|nW f y fs)
section
variable {X:Cx}{o e value:aE}{f:Str}{pos pos':Pos}{ta tv:TE}
def P8(J:PE X e ta)(hb:attributeBase e f X.env (eval e X.env)=eval e X.env):PE X (.Attribute e f pos) (TF X.K ta f):=by
 z_go;refine Ms hb<|iQ (J pins s σ H _ I h) λu p ⟨x,H1,k,rx,a,C,dx,fs,v,ex,g,c,n,l,q⟩=>?_;subst ex;obtain rfl:u=Value.ref a:=rx;exact Ce k g c n l λm s2 d j=>⟨v,H1,d,j,q⟩
def PC(J:PE X o ta)(hv:PE X value tv)(hs:swapsWith value (some<|.Attribute o f pos') pos.line X.env=pure false):PS X (.Assign [.Attribute o f pos'] value pos) (wY X.K ta tv f):=by
 kcf_m;refine plainObj_wpAny_Assign_Attribute (iQ (hv pins s σ H _ I h) λu p ⟨y,H1,m,ry,q⟩=>iQ (J pins p σ H1 _ m q) λB s2 ⟨x,H2,d,rx,a,C,dx,fs,ex,k,c,n,l,g⟩=>?_) hs;subst ex;obtain rfl:B=Value.ref a:=rx;exact BJ d k c n l ry λs3 j=>⟨σ,_,j,g⟩
end
section
variable {X:Cx}{pins:bt}{σ:St}{H:Hp}{s:aA}{A:az}{E:aa->aA->Prop}{Q:aa->aA->Prop}{c:aa}{b:Bool}
inductive TyOf (K:au) (H:Hp):V->aa->Prop where
 | non:TyOf K H .non (.type "NoneType")
 | bl (x:Bool):TyOf K H (.bl x) (.type "bool")
 | int (i:Int):TyOf K H (.int i) (.type "int")
 | str (x:Str):TyOf K H (.str x) (.type "str")
 | flt (x:UInt64):TyOf K H (.flt x) (.type "float")
 | lst {a:aj} {xs:List V} (e:H a=some (.lst xs)):TyOf K H (.ref a) (.type "list")
 | frz {a:aj} {o:Obj} {xs:List V} (e:H a=some (.frz o<|.lst xs)):TyOf K H (.ref a) (.type "list")
 | tup {a:aj} {xs:List V} (e:H a=some (.tup xs)):TyOf K H (.ref a) (.type "tuple")
 | dK {a:aj} {kvs:List<|Key×V} (e:H a=some (.dK kvs)):TyOf K H (.ref a) (.type "dict")
 | dT {a:aj} {kvs:List<|List Key×V} (e:H a=some (.dT kvs)):TyOf K H (.ref a) (.type "dict")
 | ins {a C dx:aj} {fs:List<|Str×V} (e:H a=some (.ins C dx fs)) (cl:Cls K C) (ha:PySem.W.findIn K (.ref C) "__class__" = some (some<|.builtin "object.__class__"))
   (hn:PySem.W.specialIn K (.builtin "object.__class__") "__get__" = some (some<|.builtin "getset_descriptor.__get__")) (htk:PySem.W.takesIn K (.builtin "object.__class__")=some true)
   (hm:PySem.W.mroIn K C (.type "object")=some true):TyOf K H (.ref a)<|.ref C
def E4{x:V}(I:Inv X pins σ H s)(rx:RelV x u)(ty:TyOf X.K H x t)(e:PySem.W.kitOne X.K t c=some b)(h:∀tk,Q (.bool b) { s with toks:=tk }) :
  wpAny (model X.prog X.w) A (call (.builtin "isinstance") [u,c]) Q E s:=by
 cases ty with
 | non=>cases(show u=Value.none from rx);exact bW PySem.W.kitx_none I.rg True.intro e (λz=>nomatch z) h
 | bl y=>cases(show u=Value.bool y from rx);exact bW PySem.W.kitx_bool I.rg True.intro e (λz=>nomatch z) h
 | int i=>obtain⟨t,q⟩:=(show ∃t,u=Value.int i t from rx);cases q;exact bW PySem.W.kitx_int I.rg True.intro e (λz=>nomatch z) h
 | str y=>obtain⟨t,q⟩:=(show ∃t,u=Value.str y t from rx);cases q;exact bW PySem.W.kitx_str I.rg True.intro e (λz=>nomatch z) h
 | flt y=>obtain⟨t,q⟩:=(show ∃t,u=Value.float y t from rx);cases q;exact bW PySem.W.kitx_float I.rg True.intro e (λz=>nomatch z) h
 | @lst a xs d=>
  cases(show u=Value.ref a from rx)
  obtain⟨_,_,n,_,h1⟩:=(show iS X.prog X.w H s.heap a (.lst xs)from I.hok a _ d);exact bW PySem.W.kitx_list I.rg ⟨_,h1,rfl⟩ e (λz=>nomatch z) h
 | @frz a ob xs d=>
  cases(show u=Value.ref a from rx)
  obtain⟨_,_,_,n,_,h1⟩:=(show iS X.prog X.w H s.heap a (.frz ob<|.lst xs)from I.hok a _ d);exact bW PySem.W.kitx_list I.rg ⟨_,h1,rfl⟩ e (λz=>nomatch z) h
 | @tup a xs d=>
  cases(show u=Value.ref a from rx)
  obtain⟨_,_,_,p⟩:=(show iS X.prog X.w H s.heap a (.tup xs)from I.hok a _ d);obtain⟨o,h1,f,_⟩:=p;exact bW PySem.W.kitx_tuple I.rg ⟨o,h1,f⟩ e (λz=>nomatch z) h
 | @dK a kvs d=>
  cases(show u=Value.ref a from rx)
  obtain⟨_,_,F,_,p⟩:=(show iS X.prog X.w H s.heap a (.dK kvs)from I.hok a _ d);obtain⟨o,es,k,h1,f,_⟩:=p;exact bW PySem.W.kitx_dict I.rg ⟨o,h1,f.1⟩ e (λz=>nomatch z) h
 | @dT a kvs d=>
  cases(show u=Value.ref a from rx)
  obtain⟨_,_,xs,_,o,es,k,h1,f,_⟩:=(show iS X.prog X.w H s.heap a (.dT kvs)from I.hok a _ d);exact bW PySem.W.kitx_dict I.rg ⟨o,h1,f.1⟩ e (λz=>nomatch z) h
 | @ins a C dx fs d j m hn g B=>
  cases(show u=Value.ref a from rx)
  obtain⟨mA,O,_⟩:=vh I.hok d;obtain⟨od,J,_⟩:=O.look;exact bW (PySem.W.kitx_own (j.get _) j.hd m hn g B) I.rg J e (λz=>nomatch z) h
end
structure Room (k:Nat)(A:az):Prop where
 hd:A.handled=none
 dp:A.depth+3 * k+5<recursionLimit
 un:A.units+16 * k+200<cLine
 gs:A.guards=some []
def Room.mono{k:Nat}{A:az}(r:Room k A)(h:j<=k):Room j A:=⟨r.hd,by have:=r.dp;lia,by have:=r.un;lia,r.gs⟩
def Room.deeper{k:Nat}{A:az}(r:Room (k+1) A)(env:Env):Room k (A.deeper env):=
 ⟨r.hd,by have:=r.dp;show A.depth+1+3 * k+5<_;lia,by have:=r.un;show A.units+3+16 * k+200<_;lia,r.gs⟩
def Br{A:az}{C:aj}:(A.under<|.builtin "type.__call__" ⟨.ref C::us,kw⟩).depth=A.depth+1:=by
 first|rfl|simp[Around.under,Code.weight,Code.isCreation,Code.isGuard,Code.isCaller,Code.frames,Code.isFrame,guardIds]
def BH{A:az}{C:aj}:(A.under<|.builtin "type.__call__" ⟨.ref C::us,kw⟩).units=A.units+1:=by
 first|rfl|simp[Around.under,Code.cUnits,Code.frames,Code.isFrame]
theorem Ar{A:az}{C:aj}:(A.under<|.builtin "type.__call__" ⟨.ref C::us,kw⟩).guards=A.guards:=by
 first|rfl|simp[Around.under,Code.guards,Code.isGuard,guardIds,pushGuards]
def Room.make{k:Nat}{A:az}(r:Room (k+1) A)(C:aj)(us:bd)(kw:List<|Str×aa):Room k (A.under<|.builtin "type.__call__" ⟨.ref C::us,kw⟩):=
 ⟨r.hd,by have:=r.dp;rw[Br];lia,by have:=r.un;rw[BH];lia,by rw[Ar];exact r.gs⟩
def Room.depth{k:Nat}{A:az}(r:Room k A):A.depth<recursionLimit:=by have:=r.dp;lia
def Room.units{k:Nat}{A:az}(r:Room k A):A.units+64<cLine:=by have:=r.un;lia
abbrev P6:TA:=λ_ H Q=>Q [] H
abbrev Rc (ta:TE)(j:TA):TA:=λσ H Q=>ta σ H λx H1=>j σ H1 λxs H2=>Q (x::xs) H2
section
variable {X:Cx}{e:aE}{es:List aE}{te:TE}{t:TA}{pos:Pos}
def pG:PA X [] P6:=λ_ _ _ _ H Q I h=>Calls.spliced_nil ⟨[],H,I,.nil,h⟩
def j3(J:PE X e te)(L:PA X es t)(hs:starEach (e::es) X.env=(false,eval e X.env)::starEach es X.env<|>ε):PA X (e::es) (Rc te t):=by
 intro pos pins s σ H Q I h;rw[hs]
 skip
 refine Calls.spliced_cons<|iQ (J pins s σ H _ I h) λu k ⟨x,H1,j,r1,g⟩=>?_;exact iQ (L pos pins k σ H1 _ j g) λus s2 ⟨xs,H2,d,r2,f⟩=>⟨x::xs,H2,d,.cons r1 r2,f⟩
abbrev S9 (t:TA):TE:=λσ H Q=>t σ H λxs H1=>xs.length<=sizeLine/\∀p,H1 p=none->Q (.ref p) (upd H1 p<|.tup xs)
abbrev Tw (t:TA):TE:=λσ H Q=>t σ H λxs H1=>xs.length<=sizeLine/\∀p,H1 p=none->Q (.ref p) (upd H1 p<|.lst xs)
def NZ{x1}(h:PA X es t):PE X (.Tuple es x1 pos) (S9 t):=by
 intro pins s σ H Q I g;refine wpAny_Tuple_spliced (iQ (h pos pins s σ H _ I g) λus d ⟨xs,H1,f,r,z,q⟩=>⟨by rw[<- r.length];exact z,?_⟩);have hf:H1 d.heap.objs.size=none:=f.hok.fresh<|aJ _;refine⟨.ref d.heap.objs.size,upd H1 d.heap.objs.size<|.tup xs,f.laid (t':=d.toks) (λb u e=>aK _ e) (aJ _) ?_,rfl,q _ hf⟩;exact⟨z,us,r,⟨_,bz _ rfl,rfl,rfl,_,rfl⟩⟩
def PF(h:PA X es t):PE X (.List es pos) (Tw t):=by
 intro pins s σ H Q I g;refine wpAny_List_spliced (iQ (h pos pins s σ H _ I g) λus d ⟨xs,H1,f,r,z,q⟩=>⟨by rw[<- r.length];exact z,?_⟩);have hf:H1 d.heap.objs.size=none:=f.hok.fresh<|aJ _;refine⟨.ref d.heap.objs.size,upd H1 d.heap.objs.size<|.lst xs,f.laid (t':=d.toks) (λb u e=>aK _ e) (aJ _) ?_,rfl,q _ hf⟩;exact⟨z,us,0,r,bz _ rfl⟩
end
meta abbrev Sp:=List V->Hp->VK->XK->Prop
meta abbrev HX:=List Env->Hp->aA->XK->aa->aA->Prop
structure Env0 (P:ah)(w:af)(K:au)(mg:Str->bi)(base:ak)(A:az)(outer:List Env)(s:aA)(H:Hp):Prop where
 frames:A.frames=some outer
 mod:Mod K mg base
 bs:∀b o,base.get? b=some o->s.heap.get? b=some o/\H b=none
 bsz:base.objs.size<=s.heap.objs.size
 oW:s.heap.FunFrames base outer
 frf:∀b∈frs outer,H b=none
 hok:qh P w H s.heap
 bare:AllBare s.gens
abbrev CE (outer:List Env)(P:ah)(w:af)(H:Hp)(s:aA)(Q:VK)(u:aa)(s':aA):Prop:=
 ∃v H',s'.os=s.os/\AllBare s'.gens/\Un (frs outer) [] H H' s.heap s'.heap/\qh P w H' s'.heap/\RelV v u/\Q v H'
abbrev CR (CX:HX)(outer:List Env)(P:ah)(w:af)(H:Hp)(s:aA)(Q:VK)(E:XK)(r:Result)(s':aA):Prop:=
 match r with
 | .ok (.ret u)=>CE outer P w H s Q u s'
 | .ok _=>False
 | .error e=>CX outer H s E e s'
structure FnOk (P:ah)(w:af)(K:au)(mg:Str->bi)(base:ak)(CX:HX)(k:Nat)(f:aj)(fd:FuncData)(ps:ba)(sp:Sp):Prop where
 len:∀vs H Q E,sp vs H Q E->vs.length=ps.length
 run:∀(A:az) (outer:List Env) (s:aA) (H:Hp) (args:Args) (us:bd) (vs:List V) (Q:VK) (E:XK),Room k A->Env0 P w K mg base A outer s H->BindsTo s fd args (ps.zip us)->Vals vs us->sp vs H Q E ->
  codeAny (model P w) A (.call (.ref f) args) (CR CX outer P w H s Q E) s
def Env0.make{P:ah}{w:af}{K:au}{mg:Str->bi}{base:ak}{A:az}{outer:List Env}{H:Hp}(e:Env0 P w K mg base A outer s H)(C:aj)(us:bd)(kw:List<|Str×aa) :
  Env0 P w K mg base (A.under<|.builtin "type.__call__" ⟨.ref C::us,kw⟩) outer s H:=⟨by first|exact e.frames|(simpa[Around.under,Code.envs,Code.isFrame,pushEnvs]using e.frames),e.mod,e.bs,e.bsz,e.oW,e.frf,e.hok,e.bare⟩
section
variable {X:Cx}{pins:bt}{σ:St}{H:Hp}{s s':aA}
def Inv.Rz(I:Inv X pins σ H s):Env0 X.prog X.w X.K X.mg X.base X.A X.stack s H:=
 ⟨I.ok.frames,I.ok.mod,I.bs,bI I.ok.bsz I.sz,I.stack,I.qg,I.hok,I.bare⟩
def Inv.after{Q:VK}(I:Inv X pins σ H s)(h:CE X.stack X.prog X.w H s Q u s'):EP X pins σ Q u s':=by
 obtain⟨v,H',os,f,un,j,r,q⟩:=h;obtain⟨m,g,d,t,k⟩:=s';obtain rfl:k=s.os:=os;exact⟨v,H',I.call (h':=m) (g':=g) (d':=d) (t':=t) (ch:=[]) un j f λb z=>absurd z<|by simp,r,q⟩
end
abbrev ML (sp:Sp)(dvs:List V)(E:XK)(t:TA):TE:=λσ H Q=>t σ H λd H1=>sp (d++dvs) H1 Q E
abbrev MI (C:aj)(m:Str)(sp:Sp)(dvs:List V)(E:XK)(ta:TE)(t:TA):TE:=λσ H Q=>ta σ H λx H1=>∃a dx fs,x=.ref a/\H1 a=some (.ins C dx fs)/\fs.lookup m=none /\
 t σ H1 λd H2=>sp (x::(d++dvs)) H2 Q E
abbrev QK (C:aj)(sp:Sp)(dvs:List V)(E:XK)(t:TA):TE:=λσ H Q=>t σ H λd H1=>∀x dx,H1 x=none->H1 dx=none->dx≠x ->
 sp (.ref x::(d++dvs)) (upd (upd H1 dx<|.own x) x<|.ins C dx []) (λv H2=>v=.non/\Q (.ref x) H2) E
abbrev Binds (K:au)(fd:FuncData)(ps:ba)(ds:bd):Prop:=
 ∀(s:aA) (us:bd),K.In s.heap->(us++ds).length=ps.length->BindsTo s fd ⟨us,[]⟩ (ps.zip<|us++ds)
def Binds.all{K:au}{ps:ba}(h:∀us:bd,us.length=ps.length->bindArgs fd ⟨us,[]⟩=pure (ps.zip us)):Binds K fd ps []:=λs us _ d=>by
 rw[bX]at d ⊢;exact .of_eq<|h us d
abbrev Passes (CX:HX)(X:Cx)(E:XK):Prop:=∀(pins:bt) (σ:St) (H:Hp) (s:aA) (e:aa) (s':aA),Inv X pins σ H s->CX X.stack H s E e s'->X.xe e s'
section
variable {X:Cx}{CX:HX}{k:Nat}{f C:aj}{fd:FuncData}{ps:ba}{sp:Sp}{dvs:List V}{ds:bd}{E:XK}{x m:Str}{p pos apos:Pos}{e o:aE}{es:List aE}{ta:TE}{t:TA}
def BY{H:Hp}{Q:VK}(F:FnOk X.prog X.w X.K X.mg X.base CX k f fd ps sp)(J:Room k X.A)(hb:Binds X.K fd ps ds)(hd:Vals dvs ds)(L:Passes CX X E)
  (I:Inv X pins σ H s) (r:Vals vs us) (h:sp (vs++dvs) H Q E):wpAny (model X.prog X.w) X.A (call (.ref f) us) (EP X pins σ Q) X.xe s:=by
 have r2:Vals (vs++dvs) (us++ds):=r.append hd;have g:(us++ds).length=ps.length:=by rw[<- r2.length];exact F.len _ _ _ _ h
 refine fW (eF (F.run X.A X.stack s H ⟨us,[]⟩ (us++ds) (vs++dvs) Q E J I.Rz (hb s us I.rg g) r2 h) λr s' d=>?_)
 cases r with
 | error e=>exact L pins σ H s e s' I d
 | ok j=>
  cases j with
  | ret u=>exact I.after d
  | next=>exact False.elim d
  | brk=>exact False.elim d
  | cont=>exact False.elim d
def CA(F:FnOk X.prog X.w X.K X.mg X.base CX k f fd ps sp)(U:Room k X.A)(hg:Gl X x)(Z:X.mg x=some (.ref f))(hk:PySem.W.keepIn X.K (.ref f)=true)(hb:Binds X.K fd ps ds)(hd:Vals dvs ds)(hx:Passes CX X E)
  (ha:PA X (e::es) t) (J:(x == ("__debug__" : Str))=false<|>δ) (he:starEach (e::es) X.env=(false,eval e X.env)::starEach es X.env<|>ε) (L:((backTo pos<|starEach es X.env).any (·.1)=false)<|>ε) :
  PE X (.Call (.Name x p) (e::es) [] pos) (ML sp dvs E t):=by
 z_go;refine ee<|r9 I hg Z ?_ J;refine PySem.W.callWith_K (h₀:=X.base) I.ok.mod.kin hk (iQ (ha pos pins s σ H _ I h) λus j ⟨g,H1,d,r,q⟩=>⟨d.rg,?_⟩) he L;exact BY F U hb hd hx d r q
def L_{pl:Sem Bool}(Z:PE X o ta)(c:Cls X.K C)(U:Meth X.K C m f)(F:FnOk X.prog X.w X.K X.mg X.base CX k f fd ps sp)(hr:Room k X.A)(hb:Binds X.K fd ps ds)(hd:Vals dvs ds)(hx:Passes CX X E)(ha:PA X (e::es) t)
  (J:starEach (e::es) X.env=(false,eval e X.env)::starEach es X.env<|>ε) (L:((backTo pos<|starEach es X.env).any (·.1)=false)<|>ε)
  (ht:(eval (.Call (.Attribute o m apos) (e::es) [] pos) X.env=(do
   let ov <- eval o X.env
   standAt apos.atName
   let(f,first) <- holding [ov] (getMethod ov m pl)
   callWith pos f first (backTo pos<|starEach (e::es) X.env) (backToKw pos<|keywordEach [] X.env)))<|>ε) :
  PE X (.Call (.Attribute o m apos) (e::es) [] pos) (MI C m sp dvs E ta t):=by
 z_go;refine PySem.W.methodCall_KW (pl:=pl) (iQ (Z pins s σ H _ I h) λu B ⟨x,H1,g,rx,a,dx,fs,ex,p,l,q⟩=>?_) ht;subst ex;obtain rfl:u=Value.ref a:=rx;refine wJ g p c U l ?_;refine PySem.W.callWith_K (first:=[.ref a]) (h₀:=X.base) I.ok.mod.kin U.kp (iQ (ha pos pins B σ H1 _ g q) λus s2 ⟨vs,H2,d,r,j⟩=>⟨d.rg,?_⟩) J L;exact BY (us:=.ref a::us) (vs:=.ref a::vs) F hr hb hd hx d (.cons rfl r) j
def Hl{pl:Sem Bool}(L:PE X o ta)(c:Cls X.K C)(J:Meth X.K C m f)(F:FnOk X.prog X.w X.K X.mg X.base CX k f fd ps sp)(U:Room k X.A)(hb:Binds X.K fd ps ds)(hd:Vals dvs ds)(Z:Passes CX X E)
  (ht:(eval (.Call (.Attribute o m apos) [] [] pos) X.env=(do
   let ov <- eval o X.env
   standAt apos.atName
   let(f,first) <- holding [ov] (getMethod ov m pl)
   callWith pos f first (backTo pos<|starEach [] X.env) (backToKw pos<|keywordEach [] X.env)))<|>ε) :
  PE X (.Call (.Attribute o m apos) [] [] pos) (MI C m sp dvs E ta P6):=by
 z_go;refine PySem.W.methodCall_KW (pl:=pl) (iQ (L pins s σ H _ I h) λu j ⟨x,H1,d,rx,a,dx,fs,ex,g,l,q⟩=>?_) ht;subst ex;obtain rfl:u=Value.ref a:=rx;refine wJ d g c J l ?_;exact PySem.W.callWith_K0 (first:=[.ref a]) d.rg J.kp<|BY (us:=[.ref a]) (vs:=[.ref a]) F U hb hd Z d (.cons rfl .nil) q
structure Mk (K:au)(C f:aj):Prop where
 makes:PySem.W.makesIn K C=true
 init:PySem.W.findIn K (.ref C) "__init__" = some (some<|.ref f)
 fn:PySem.W.isFn K (.ref f)=true
 kp:PySem.W.keepIn K (.ref C)=true
def IZ{H:Hp}{Q:VK}(M:Mk X.K C f)(F:FnOk X.prog X.w X.K X.mg X.base CX k f fd ps sp)(L:Room (k+1) X.A)(hb:Binds X.K fd ps ds)(hd:Vals dvs ds)
  (U:Passes CX X E) (I:Inv X pins σ H s) (r:Vals vs us)
  (h:∀x dx,H x=none->H dx=none->dx≠x->sp (.ref x::(vs++dvs)) (upd (upd H dx<|.own x) x<|.ins C dx []) (λv H2=>v=.non/\Q (.ref x) H2) E) :
  wpAny (model X.prog X.w) X.A (call (.ref C) us) (EP X pins σ Q) X.xe s:=by
 have g:=h (s.heap.objs.size+1) s.heap.objs.size (I.hok.fresh<|Nat.le_succ _) (I.hok.fresh<|aJ _)<|bh<|cD _;have I2:=Inv.made (C:=C) I;have r2:Vals (V.ref (s.heap.objs.size+1)::(vs++dvs)) (Value.ref (s.heap.objs.size+1)::(us++ds)):=.cons rfl<|r.append hd;have G:(Value.ref (s.heap.objs.size+1)::us++ds).length=ps.length:=by
  have e:=r2.length;rw[F.len _ _ _ _ g]at e;exact e.symm
 refine fW (GP (f:=f) I.rg M.makes M.init (dN.mp M.fn) (eF (F.run _ X.stack _ _ ⟨Value.ref (s.heap.objs.size+1)::us,[]⟩ (Value.ref (s.heap.objs.size+1)::(us++ds)) _ _ E (L.make C us [])
  (I2.Rz.make C us []) (hb _ (Value.ref (s.heap.objs.size+1)::us) I2.rg G) r2 g) λr s' d=>?_))
 cases r with
 | error e=>exact U pins σ _ _ e s' I2 d
 | ok J=>
  cases J with
  | ret u=>
   obtain⟨v,H',m,j,B,p⟩:=I2.after d;subst B;exact⟨j,⟨V.ref<|s.heap.objs.size+1,H',m,rfl,p⟩⟩
  | next=>exact False.elim d
  | brk=>exact False.elim d
  | cont=>exact False.elim d
def J2(M:Mk X.K C f)(F:FnOk X.prog X.w X.K X.mg X.base CX k f fd ps sp)(J:Room (k+1) X.A)(hg:Gl X x)(L:X.mg x=some (.ref C))(hb:Binds X.K fd ps ds)(hd:Vals dvs ds)(U:Passes CX X E)
  (j:(x == ("__debug__" : Str))=false<|>δ):PE X (.Call (.Name x p) [] [] pos) (QK C sp dvs E P6):=by
 z_go;refine ee<|r9 I hg L ?_ j;exact PySem.W.callWith_K0 I.rg M.kp<|IZ (us:=[]) M F J hb hd U I .nil h
end
section
variable {fd:FuncData}{ps ks:ba}
end
structure FnScope (N P:ba)(sc:Scope):Prop where
 kind:sc.kind=.function
 co:sc.isCoroutine=false
 gen:sc.isGenerator=false
 nd:N.Nodup
 pre:N.take P.length=P
 par:∀x∈P,sc.names.lookup x=some .local\/sc.names.lookup x=some .cell
 nofree:∀y∈sc.names,y.2≠.free
theorem xP{j:Str->Option NameKind}{x:Str}:∀{binds:List<|Str×aa}{m:Str->bi},(∀v,(x,v)∉binds)->bindL j binds m x=m x
 | [],_,_=>rfl
 | (n,v)::r,m,h=>by
  unfold bindL;rw[xP λw hw=>h w<|aW _ hw];split
  ·have:x≠n:=by rintro rfl;exact h v aZ
   simp[this]
  ·rfl
theorem ym{j:Str->Option NameKind}{x:Str}:∀{binds:List<|Str×aa}{m:Str->bi},(∀v,(x,v)∉binds)->bindC j binds m x=m x
 | [],_,_=>rfl
 | (n,v)::r,m,h=>by
  unfold bindC;rw[ym λw hw=>h w<|aW _ hw];split
  ·rfl
  ·have:x≠n:=by rintro rfl;exact h v aZ
   simp[this]
theorem yk{j:Str->Option NameKind}{x:Str}{v:aa}:∀{P:ba}{vs:bd}{i:Nat}{m:Str->bi},P.Nodup->P[i]?=some x->vs[i]?=some v->j x=some .local ->
  bindL j (P.zip vs) m x=some v
 | [],_,_,_,_,h,_,_=>by simp at h
 | _::_,[],_,_,_,_,h,_=>by simp at h
 | p::P,w::vs,0,m,nd,h1,h2,hk=>by
  simp at h1 h2;subst h1;subst h2;show bindL j ((p,w)::P.zip vs) m p=_;unfold bindL;rw[xP λv hv=>(d_.mp nd).1 (f6 hv).1,aR hk];simp
 | p::P,w::vs,i+1,m,nd,h1,h2,hk=>by
  skip
  unfold bindL;exact yk (i:=i) (d_.mp nd).2 (by simpa using h1) (by simpa using h2) hk
theorem xY{j:Str->Option NameKind}{x:Str}{v:aa}:∀{P:ba}{vs:bd}{i:Nat}{m:Str->bi},P.Nodup->P[i]?=some x->vs[i]?=some v->j x≠some .local ->
  bindC j (P.zip vs) m x=some v
 | [],_,_,_,_,h,_,_=>by simp at h
 | _::_,[],_,_,_,_,h,_=>by simp at h
 | p::P,w::vs,0,m,nd,h1,h2,hk=>by
  simp at h1 h2;subst h1;subst h2;show bindC j ((p,w)::P.zip vs) m p=_;unfold bindC;rw[ym λv hv=>(d_.mp nd).1 (f6 hv).1,aO hk];simp
 | p::P,w::vs,i+1,m,nd,h1,h2,hk=>by
  skip
  unfold bindC;exact xY (i:=i) (d_.mp nd).2 (by simpa using h1) (by simpa using h2) hk
abbrev start (N:ba)(vs:List V):St:=vs.map some++List.replicate (N.length-vs.length) none
abbrev uX (CX:HX)(P:ah)(w:af)(K:au)(mg:Str->bi)(base:ak)(N:ba)(qual:Str)(scope:Scope)(f:aj)(cd:aa)(A:az)(outer:List Env)(s:aA)(H:Hp)(E:XK):Cx where
 prog:=P
 w:=w
 K:=K
 mg:=mg
 base:=base
 A:=A.deeper (envOfC qual scope s.heap.objs.size f cd)
 N:=N
 s₀:=s
 H₀:=H
 env:=envOfC qual scope s.heap.objs.size f cd
 outer:=outer
 stack:=envOfC qual scope s.heap.objs.size f cd::outer
 ex:=[]
 calm:=true
 fn:=λ_=>true
 pn:=[]
 xe:=λe s'=>wpAny (model P w) (A.deeper<|envOfC qual scope s.heap.objs.size f cd) (leaving (envOfC qual scope s.heap.objs.size f cd) e) (λ_ d=>CX outer H s E e d) (λg d=>CX outer H s E g d) s'
def A5{j:Scope}{n:Nat}{x:Str}(h:j.names.lookup x=some .cell):∃c,(cellsFrom n j.names []).lookup x=some c:=by
 have q:=di j.names n []<|.inl h;exact cL.mp q
def FE{CX:HX}{P:ah}{w:af}{K:au}{mg:Str->bi}{base:ak}{N ps:ba}{scope:Scope}{f:aj}{A:az}{outer:List Env}{s:aA}{H:Hp}{E:XK}{vs:List V}
  (S:FnScope N ps scope) (hd:A.handled=none) (e0:Env0 P w K mg base A outer s H) (L:vs.length=ps.length) (r:Vals vs us)
  (x:InCallC s s.heap.objs.size (bindL (envOfC qual scope s.heap.objs.size f cd).kindOf (ps.zip us) λ_=>none) (cellsFrom (s.heap.objs.size+1) scope.names []) (bindC (envOfC qual scope s.heap.objs.size f cd).kindOf (ps.zip us) λ_=>none) s1) :
  Inv (uX CX P w K mg base N qual scope f cd A outer s H E) [] (start N vs) H s1:=by
 have G:ps.length<=N.length:=by have:=cO List.length S.pre;rw[eY]at this;lia
 obtain⟨h1,tk,rfl,B⟩:=x.done;have g:∀b:aj,b∉(uX CX P w K mg base N qual scope f cd A outer s H E).ex:=λb z=>absurd (show b∈([]:be)from z) (by simp);refine⟨⟨e0.mod,S.kind,rfl,rfl,aJ _,λy z c h1 d=>?_,λy hy=>?_,λy c _ h=>?_,λ_=>hd,Around.frames_deeper e0.frames,.inr ⟨rfl,rfl⟩,λb z=>absurd z<|g b,e0.bs,e0.bsz,λb _ _=>g b,λb z=>absurd z<|g b,e0.oW,e0.frf⟩,
  rfl,e0.bare,Un.kept B,⟨_,x.toInCall.ns,λi y v h1 d J=>?_⟩,λy c h=>⟨_,x.cell y c h⟩,e0.hok.fresh<|aJ _,λy c h=>?_,λp hp=>absurd (show p∈([]:bt)from hp)<|by simp,e0.hok.kept B,?_⟩
 ·exact name_of_addr x.apart (bV h1) (bV d)
 ·have hy:scope.names.lookup y=some .cell\/scope.names.lookup y=some .free:=hy
  rcases hy with hy|hy
  ·exact A5 hy
  ·exact absurd rfl<|S.nofree _<|bV hy
 ·exact dR (x.above y c<|bV h)
 ·have hi:i<vs.length:=by
   unfold start at d;by_cases hi:i<vs.length
   ·exact hi
   ·rw[cV<|by simpa using hi]at d;rw[ez]at d;split at d<;>cases d
  have F:vs[i]?=some v:=by
   unfold start at d;rw[aS<|by simpa using hi,cB]at d
   cases e:vs[i]? with
   | none=>rw[e]at d;cases d
   | some a=>rw[e]at d;cases d;rfl
  obtain⟨u,m,C⟩:=r.get F;have hp:ps[i]?=some y:=by
   rw[<- S.pre,List.getElem?_take_of_lt ()];exact h1
  have j:ps.Nodup:=by rw[<- S.pre];exact S.nd.sublist (List.take_sublist _ _)
  refine⟨u,C,?_⟩
  rcases S.par y (bP hp)with k|k
  ·exact .inl ⟨k,yk j hp m k⟩
  ·obtain⟨c,e⟩:=A5 (n:=s.heap.objs.size+1) k;refine .inr ⟨.inl k,c,e,?_⟩;have q:=x.cell y c e;rw[xY j hp m<|by show scope.names.lookup y≠_;rw[k];decide]at q;exact q
 ·exact e0.hok.fresh (dR<|x.above y c<|bV h)
 ·unfold start;show _=N.length;rw[aU,aH,List.length_replicate]
  lia
def MP{CX:HX}{P:ah}{w:af}{K:au}{mg:Str->bi}{base:ak}{k:Nat}{f:aj}{kV ct:aa}{od:Option aj}
  {osl:Array<|bi} {N ps:ba} {sp:Sp} (lk:K.lookup f=some ⟨oc,od,.func<|PySem.W.fnOf name qual params body scope dV kV doc pm an cdv ct,osl⟩) (hcd:PySem.W.codeIn K cdv qual=true) (S:FnScope N ps scope)
  (len:∀vs H Q E,sp vs H Q E->vs.length=ps.length)
  (hbody:∀(A:az) (outer:List Env) (s:aA) (H:Hp) (vs:List V) (Q:VK) (E:XK),Room k (A.deeper<|envOfC qual scope s.heap.objs.size f cdv)->sp vs H Q E ->
   ∃t,xR (uX CX P w K mg base N qual scope f cdv A outer s H E) body t/\t { nx:=λ_ H'=>Q .non H',rt:=Q } (start N vs) H) :
  FnOk P w K mg base CX (k+1) f (PySem.W.fnOf name qual params body scope dV kV doc pm an cdv ct) ps sp:=by
 refine⟨len,λA outer s H F us vs Q E C e0 O r j=>?_⟩;have Y:=len _ _ _ _ j;have G:K.In s.heap:=e0.mod.kin.keeps λb o e=>(e0.bs b o e).1;have B:s.heap.NoLimit:=e0.mod.nolimit.keeps λb o e=>(e0.bs b o e).1;have g:∀y∈ps.zip us,scope.names.lookup y.1=some .local\/(scope.names.lookup y.1=some .cell/\((cellsFrom (s.heap.objs.size+1) scope.names []).lookup y.1).isSome=true):=λ⟨n,v⟩ hy=>by
  rcases S.par n (f6 hy).1 with q|q
  ·exact .inl q
  ·exact .inr ⟨q,di _ _ _<|.inl q⟩
 refine codeAny_call_function C.depth (G _ _ lk) rfl S.co S.gen rfl (PySem.W.codeRec_of G hcd)<|O _ _ _ _ ?_;refine wpAny_newFunctionEnv_cells S.kind g λenv T L x=>?_;subst T;refine⟨B.keeps x.toInCall.keep,codeAny_func ?_⟩;obtain⟨t,ht,U⟩:=hbody A outer s H vs Q E (C.deeper _) j;have I:Inv (uX CX P w K mg base N qual scope f cdv A outer s H E) [] (start N vs) H L:=FE S C.hd e0 Y r x;refine bY (ht [] L (start N vs) H _ I U) (λZ s' hs=>?_) λe s' hs=>hs;have m:∀{d:St} {H':Hp} {v:V} {u:aa},Inv (uX CX P w K mg base N qual scope f cdv A outer s H E) [] d H' s'->RelV v u->Q v H'->CE outer P w H s Q u s':=
  λ{d H' v u} J p q=>⟨v,H',J.os,J.bare,J.base,J.hok,p,q⟩
 cases Z with
 | ret u=>
  obtain⟨v,d,H',J,p,q⟩:=hs;exact m J p q
 | next=>
  obtain⟨d,H',J,q⟩:=hs;exact m (v:=V.non) (u:=Value.none) J rfl q
 | brk=>
  obtain⟨_,_,_,q⟩:=hs;exact False.elim q
 | cont=>
  obtain⟨_,_,_,q⟩:=hs;exact False.elim q
section
variable {X:Cx}{x:Str}{p pos:Pos}{e:aE}{es:List aE}{t:TA}{id T:String}{r:List V->Hp->VK->Prop}
abbrev TQ (r:List V->Hp->VK->Prop)(t:TA):TE:=λσ H Q=>t σ H λd H1=>r d H1 Q
def Aa(hc:g6 X (.builtin id) r)(hg:Gl X x)(U:X.mg x=none)(hv:bootBuiltins x=some (.builtin id))(Z:PA X (e::es) t)(hn:x ≠ "__name__"<|>δ)(J:(x == ("__debug__" : Str))=false<|>δ)
  (he:starEach (e::es) X.env=(false,eval e X.env)::starEach es X.env<|>ε) (L:((backTo pos<|starEach es X.env).any (·.1)=false)<|>ε):PE X (.Call (.Name x p) (e::es) [] pos) (TQ r t):=by
 z_go;refine ee<|uo I hg U hv ?_ hn J;exact PyProof.Rows.callWith_builtin1 (iQ (Z pos pins s σ H _ I h) λus j ⟨f,H1,g,r1,d⟩=>hc pins j σ H1 f us Q g r1 d) he L
def Fe(hc:g6 X (.type T) r)(hg:Gl X x)(U:X.mg x=none)(hv:bootBuiltins x=some (.type T))(Z:PA X (e::es) t)(hn:x ≠ "__name__"<|>δ)(J:(x == ("__debug__" : Str))=false<|>δ)
  (he:starEach (e::es) X.env=(false,eval e X.env)::starEach es X.env<|>ε) (L:((backTo pos<|starEach es X.env).any (·.1)=false)<|>ε):PE X (.Call (.Name x p) (e::es) [] pos) (TQ r t):=by
 z_go;refine ee<|uo I hg U hv ?_ hn J;exact cP (iQ (Z pos pins s σ H _ I h) λus j ⟨f,H1,g,r1,d⟩=>hc pins j σ H1 f us Q g r1 d) he L
end
end L2
namespace HT
open PySem PyProof.Rows
abbrev lexLt:am->am->Bool
 | [],[]=>false
 | [],_::_=>true
 | _::_,[]=>false
 | x::xs,y::ys=>if x=y then lexLt xs ys else decide (x<y)
section
variable {prog:ah}{w:af}{A:az}{E:aa->aA->Prop}{s:aA}
def LP{vs ws:bd}{Q:aa->aA->Prop}(J:IsTup s.heap t vs.toArray)(hb:IsTup s.heap b ws.toArray)(hv:vs≠[])
  (h1:ws=[]->Q (.ref t) s) (L:ws≠[]->Q (.ref s.heap.objs.size) { s with heap:=s.heap.push { cls:=.type "tuple",data:=.seq (vs++ws).toArray }})
  (hsz:vs.length+ws.length<=sizeLine):wpAny (model prog w) A (binaryOp .Add (.ref t)<|.ref b) Q E s:=by
 obtain⟨⟨cls,dd,data,F⟩,m,hc,n,hd⟩:=id J;obtain⟨⟨B,f,p,j⟩,d,k,C,g⟩:=id hb;simp only at hc hd k g;subst hc hd k g;have e:vs.toArray++ws.toArray=(vs++ws).toArray:=by simp
 by_cases hw:ws=[]
 ·exact concat_meets ⟨_,m,rfl⟩ ⟨_,d,rfl⟩ noFill_tuple_add seq_tuple_add eG eB (dY _ _)
   (tuple_addW1 t b vs.toArray ws.toArray n C dd f F j (by simpa using hv)<|by simp[hw]) ⟨m,d,h1 hw⟩
 ·refine concat_meets ⟨_,m,rfl⟩ ⟨_,d,rfl⟩ noFill_tuple_add seq_tuple_add eG eB (dY _ _)
   (tuple_addW2 t b vs.toArray ws.toArray n C dd f F j (by simpa using hv) (by simpa using hw)<|by rw[aN,aN];exact hsz) ⟨m,d,?_⟩
  rw[e];exact L hw
abbrev jY (n d:Nat):bj->Nat
 | none=>d
 | some v=>if v<0 then(v+(n:Int)).toNat else min v.toNat n
def zN(n d:Nat):jY n d none=d:=rfl
def DM(n d k:Nat):jY n d (some (k:Int))=min k n:=by
 show(if (k:Int)<0 then((k:Int)+(n:Int)).toNat else min (k:Int).toNat n)=min k n;rw[aO (),Int.toNat_natCast]
def Ot(n d:Nat)(hd:d<=n)(o:bj):jY n d o<=n:=by
 cases o with
 | none=>exact hd
 | some v=>
  show(if v<0 then(v+(n:Int)).toNat else min v.toNat n)<=n;by_cases hv:v<0
  ·rw[aR hv];lia
  ·rw[aO hv];exact Nat.min_le_right _ _
def Dp(v:Int)(n d:Nat):(if v<0 then max (v+(n:Int)) 0 else min v (n:Int))=((jY n d (some v):Nat):Int):=by
 show(if v<0 then max (v+(n:Int)) 0 else min v (n:Int))=(((if v<0 then(v+(n:Int)).toNat else min v.toNat n):Nat):Int);by_cases hv:v<0
 ·dsimp[aR hv];lia
 ·dsimp[aO hv];lia
def B7(lo hi:bj)(n:Nat):Builtin.Slice.sliceAdjust lo hi 1 (n:Int)=(((jY n 0 lo:Nat):Int),((jY n n hi:Nat):Int)):=by
 have h1:¬((1:Int)<0):=()
 unfold Builtin.Slice.sliceAdjust;dsimp[h1,dO];refine Prod.ext ?_ ?_
 ·cases lo with
  | none=>rfl
  | some v=>exact Dp v n 0
 ·cases hi with
  | none=>rfl
  | some v=>exact Dp v n n
def Ci(i j:Nat):Builtin.Slice.slicePlaces (i:Int) (j:Int) 1=j-i:=by
 unfold Builtin.Slice.slicePlaces;have h1:(1:Int)>0:=()
 dsimp[h1,dH,Int.ediv_one];split<;>lia
def wW{v:aa}{o:bj}{Q:bj->aA->Prop}(p:IsPart v o)(h:Q o s):wpAny (model prog w) A (Builtin.Slice.slicePartIndex v) Q E s:=by
 cases p with
 | none=>exact slicePart_none h
 | int i t=>exact slicePart_int h
def sM{lo:bj}{n:Nat}{Q:Int×Int×Nat->aA->Prop}(hs:s.heap.IsSliceOf sl vl vu .none)(pl:IsPart vl lo)(j:IsPart vu hi)
  (h:Q (((jY n 0 lo:Nat):Int),1,jY n n hi-jY n 0 lo) s):wpAny (model prog w) A (Builtin.Slice.sliceApplied (.ref sl)<|pure (n:Int)) Q E s:=by
 obtain⟨os,f,g,d⟩:=id hs;unfold Builtin.Slice.sliceApplied Builtin.Slice.sliceFields;refine aG<|aG<|c7 f d (x:=vl) rfl<|aG<|c7 f d (x:=vu) rfl<|aG<|c7 f d (x:=.none) rfl<|aM ?_;refine aG (slicePart_none ?_)
 skip
 rw[aO ⋯];refine aG<|wW pl<|aG<|wW j<|aG<|aM ?_;show wpAny _ _ (match Builtin.Slice.sliceAdjust lo hi 1 (n:Int)with|(lo,hi)=>pure (lo,(1:Int),Builtin.Slice.slicePlaces lo hi 1)) _ _ s;rw[B7 lo hi n];show wpAny _ _ (pure (((jY n 0 lo:Nat):Int),(1:Int),Builtin.Slice.slicePlaces ((jY n 0 lo:Nat):Int) ((jY n n hi:Nat):Int) 1)) _ _ s;rw[Ci];exact aM h
def JY(xs:Array aa)(i k:Nat):((List.range k).filterMap λ(m:Nat)=>xs[((i:Int)+(m:Int) * 1).toNat]?).toArray=((xs.toList.drop i).take k).toArray:=by
 have e:(λ(m:Nat)=>xs[((i:Int)+(m:Int) * 1).toNat]?)=λm=>xs[i+m]?:=by
  funext m
  have:((i:Int)+(m:Int) * 1).toNat=i+m:=()
  rw[this]
 rw[e];have:=pick_run xs i k;rw[List.filterMap_map]at this;have e2:((λx=>xs[x]?) ∘ λx=>i+x)=λm=>xs[i+m]?:=rfl;rw[e2]at this;rw[this]
def sq{J:Array aa}{lo:bj}{Q:aa->aA->Prop}(L:IsTup s.heap t J)(hs:s.heap.IsSliceOf sl vl vu .none)(pl:IsPart vl lo)(U:IsPart vu hi)
  (hw:¬(jY J.size 0 lo=0/\jY J.size J.size hi=J.size))
  (h:Q (.ref s.heap.objs.size) { s with heap:=s.heap.push { cls:=.type "tuple",data:=.seq ((J.toList.drop<|jY J.size 0 lo).take<|jY J.size J.size hi-jY J.size 0 lo).toArray }})
  (hsz:J.size<=sizeLine):wpAny (model prog w) A (getItem (.ref t)<|.ref sl) Q E s:=by
 have d:sizeOk (.seq ((J.toList.drop<|jY J.size 0 lo).take<|jY J.size J.size hi-jY J.size 0 lo).toArray):=by
  show((J.toList.drop<|jY J.size 0 lo).take<|jY J.size J.size hi-jY J.size 0 lo).toArray.size<=sizeLine;rw[aN,eY,dS,cA];omega
 have B:jY J.size J.size hi<=J.size:=Ot _ _ (aJ _) hi;obtain⟨os,k,g,p⟩:=id hs;have j:s.TypeIs (.ref sl) "slice" := ⟨os,k,g⟩;unfold getItem
 try with_reducible refine b_ ?_
 first|refine aG (aM ?_)|skip
 refine aG<|wpAny_sequenceKey L.typeIs ⋯ ?_;refine aG (wpAny_callSpecial?_slot (name:=Str.ofString "__getitem__") L.typeIs bU
  (wpAny_call_entry bU L.typeIs entry_tuple_getitem ?_<|args_tuple_getitem _ _))
 show wpAny _ _ (Builtin.Tuple.tupleItemsOf (.ref t) >>= _) _ _ s;refine aG<|tupleItemsOf_ L ?_;refine aG<|wpAny_typeOf j ?_;rw[aR ⋯];refine aG<|sM hs pl U ?_;have f:¬((((jY J.size 0 lo:Nat):Int) == 0 && (1:Int) == 1 && (jY J.size J.size hi-jY J.size 0 lo) == J.size)=true):=by
  intro q;rw[cg,cg]at q;have C:((jY J.size 0 lo:Nat):Int)=0:=eq_of_beq q.1.1;have F:jY J.size J.size hi-jY J.size 0 lo=J.size:=eq_of_beq q.2;exact hw ⟨by omega,by omega⟩
 show wpAny _ _ (if (((jY J.size 0 lo:Nat):Int) == 0 && (1:Int) == 1 && (jY J.size J.size hi-jY J.size 0 lo) == J.size)=true then _ else _) _ _ s;rw[aO f,JY]
 first
  | exact aG (m:=Builtin.Tuple.tupleExact _) (bQ (aM ⟨_,rfl,aM h⟩) d)
  | exact aG (m:=Builtin.Tuple.tupleExact _) (bQ (aG<|aM<|aM ⟨_,rfl,aM h⟩) d)
  | exact aG (aG (m:=Builtin.Tuple.tupleExact _)<|bQ (aM<|aM ⟨_,rfl,aM h⟩) d)
  | exact aG<|aG (m:=Builtin.Tuple.tupleExact _)<|bQ (aM ⟨_,rfl,aM h⟩) d
end
end HT
namespace L2
open PySem PySem.Spec PyProof.Rows
meta abbrev TO:=St->Hp->(bj->Hp->Prop)->Prop
abbrev PO (X:Cx)(e:Option aE)(t:TO):Prop:=
 ∀(pins:bt) (s:aA) (σ:St) (H:Hp) (Q:bj->Hp->Prop),Inv X pins σ H s->t σ H Q ->
  wpAny (model X.prog X.w) X.A (evalPart e X.env) (λu s'=>∃o H',Inv X pins σ H' s'/\IsPart u o/\Q o H') X.xe s
abbrev La:TO:=λ_ H Q=>Q none H
abbrev Rh (t:TE):TO:=λσ H Q=>t σ H λx H1=>∃i,x=.int i/\Q (some i) H1
def intsAre_of{ns:am}:∀{us:bd},Vals (ns.map V.int) us->IntsAre us ns:=by
 induction ns with
 | nil=>intro us r;rw[fX]at r;cases r;exact .nil
 | cons n ns d=>
  intro us r;rw[bf]at r
  cases r with
  | cons r1 r2=>
   obtain⟨t,e⟩:=r1;subst e;exact .cons n t<|d r2
section
variable {X:Cx}{e:aE}{te:TE}{lo hi:Option aE}{tl th:TO}{pos p2:Pos}
def Ma:PO X none La:=by
 z_go;rw[fR];exact aM ⟨none,H,I,.none,h⟩
def Mj(h:PE X e te):PO X (some e) (Rh te):=by
 intro pins s σ H Q I hw;rw[evalPart_some];refine iQ (h pins s σ H _ I hw) λu g ⟨x,H1,f,r1,d⟩=>?_;obtain⟨i,rfl,q⟩:=d;obtain⟨t,rfl⟩:=r1;exact⟨some i,H1,f,.int i t,q⟩
abbrev SD (X:Cx)(r:V->bj->bj->Hp->VK->Prop):Prop:=
 ∀(pins:bt) (s:aA) (σ:St) (H:Hp) (x:V) (v f d:aa) (lo hi:bj) (g:aj) (Q:VK),Inv X pins σ H s->RelV x v->s.heap.IsSliceOf g f d .none->IsPart f lo->IsPart d hi->r x lo hi H Q ->
  ∃T id,typeLookup (.type T) "__getitem__" = pure (some<|.builtin id)/\s.TypeIs v T/\wpAny (model X.prog X.w) X.A (getItem v<|.ref g) (EP X pins σ Q) X.xe s
abbrev Vk (r:V->bj->bj->Hp->VK->Prop)(te:TE)(tl th:TO):TE:=λσ H Q=>te σ H λx H1=>tl σ H1 λl H2=>th σ H2 λu H3=>r x l u H3 Q
def JZ{r:V->bj->bj->Hp->VK->Prop}(J:SD X r)(L:PE X e te)(U:PO X lo tl)(Z:PO X hi th):PE X (.Subscript e (.Slice lo hi none p2) pos) (Vk r te tl th):=by
 z_go;refine Subscript_<|iQ (L pins s σ H _ I h) λv F ⟨x,H1,C,r1,B⟩=>?_;refine wpAny_Slice<|iQ (U pins F σ H1 _ C B) λf s2 ⟨l,H2,g,pl,j⟩=>iQ (Z pins s2 σ H2 _ g j) λd s3 ⟨u,H3,m,k,p⟩=>?_;rw[fR];refine aM ?_;have G:Inv X pins σ H3 { s3 with heap:=s3.heap.push { cls:=.type "slice",data:=.fields #[f,d,.none]}}:=m.kept (t':=s3.toks) λb ob q=>aK _ q;obtain⟨T,id,hT,ht,hg⟩:=J pins { s3 with heap:=s3.heap.push { cls:=.type "slice",data:=.fields #[f,d,.none]}} σ H3 x v f d l u s3.heap.objs.size Q G r1 (fF ..) pl k p
 skip
 exact tail_any (ops:=[.ref s3.heap.objs.size,v]) ht hT hg<|by with_unfolding_all rfl
abbrev Bd (xs:List V)(lo hi:bj):List V:=(xs.drop<|HT.jY xs.length 0 lo).take<|HT.jY xs.length xs.length hi-HT.jY xs.length 0 lo
def uN(xs:List V)(lo hi:bj):(Bd xs lo hi).length<=xs.length:=by
 unfold Bd;rw[eY,dS]
 lia
abbrev TJ (K:au):V->bj->bj->Hp->VK->Prop:=λx lo hi H Q=>∃a xs,x=.ref a/\kN K H a xs /\
 ¬(HT.jY xs.length 0 lo=0/\HT.jY xs.length xs.length hi=xs.length)/\∀p,H p=none->Q (.ref p) (upd H p<|.tup<|Bd xs lo hi)
def NL:SD X (TJ X.K):=by
 intro pins s σ H x v C B lo hi p Q I rx hs pl k h;obtain⟨a,xs,rfl,m,hw,q⟩:=h
 cases rx
 obtain⟨f,r,j,g⟩:=I.tuple m;have d:f.toArray.size=xs.length:=by rw[aN];exact r.length.symm
 refine⟨"tuple",_,bU.lookup,j.typeIs,?_⟩;refine HT.sq j hs pl k (by rw[d];exact hw) ?_ (by rw[d];exact g);rw[d];refine⟨.ref s.heap.objs.size,_,I.laid (t':=s.toks) (o:=.tup<|Bd xs lo hi) (λb ob q=>aK _ q) (aJ _) ?_,rfl,q _<|I.hok.fresh<|aJ _⟩;exact⟨bI (uN xs lo hi) g,_,(r.drop<|HT.jY xs.length 0 lo).take<|HT.jY xs.length xs.length hi-HT.jY xs.length 0 lo,kc.new _ _⟩
abbrev Qu (K:au):R2:=λx y H Q=>∃a b xs ys,x=.ref a/\y=.ref b/\kN K H a xs/\kN K H b ys/\xs≠[]/\xs.length+ys.length<=sizeLine /\
 (ys=[]->Q (.ref a) H)/\(ys≠[]->∀p,H p=none->Q (.ref p) (upd H p<|.tup<|xs++ys))
def Vals.yQ(r:Vals xs us):us=[] ↔ xs=[]:=by
 cases r with
 | nil=>simp
 | cons _ _=>simp
def Mi:jI X (binaryOp .Add) (Qu X.K):=by
 k_ne;obtain⟨a,b,xs,ys,rfl,rfl,m,g,k,d,p,j⟩:=h
 cases rx
 cases ry
 obtain⟨B,r1,p1,_⟩:=I.tuple m;obtain⟨f,r2,p2,_⟩:=I.tuple g;refine HT.LP p1 p2 (λz=>k<|r1.yQ.mp z) (λz=>⟨.ref a,H,I,rfl,p<|r2.yQ.mp z⟩) (λz=>?_) (by rw[<- r1.length,<- r2.length];exact d);refine⟨.ref s.heap.objs.size,_,I.laid (t':=s.toks) (o:=.tup<|xs++ys) (λb ob q=>aK _ q) (aJ _) ?_,rfl,j (λw=>z<|r2.yQ.mpr w) _<|I.hok.fresh<|aJ _⟩;exact⟨by rw[aU];exact d,_,r1.append r2,kc.new _ _⟩
end
abbrev ve (n:Nat)(i:Int):bp:=if 0<=i then(if i<n then some i.toNat else none)else if -(n:Int)<=i then some (i+n).toNat else none
abbrev lH {α:Type}(xs:List α)(i:Int):Option α:=(ve xs.length i).bind λj=>xs[j]?
def CW{n:Nat}{i:Int}(h:ve n i=some j):seqIndex? i n=some j/\j<n/\-(n:Int)<=i/\i<n:=by
 unfold ve at h;by_cases h0:0<=i
 ·rw[aR h0]at h;by_cases h1:i<n
  ·rw[aR h1]at h;have e:i.toNat=j:=aQ h;exact⟨by rw[seqIndex_of h0 h1,e],(),(),h1⟩
  ·rw[aO h1]at h;cases h
 ·rw[aO h0]at h;by_cases h1:-(n:Int)<=i
  ·rw[aR h1]at h;have e:(i+n).toNat=j:=aQ h;exact⟨by rw[seqIndex_neg () h1,e],(),h1,()⟩
  ·rw[aO h1]at h;cases h
def zb{α:Type}{xs:List α}{i:Int}{v:α}(h:lH xs i=some v):∃j,seqIndex? i xs.length=some j/\xs[j]?=some v/\j<xs.length/\-(xs.length:Int)<=i/\i<xs.length:=by
 unfold lH at h
 cases e:ve xs.length i with
 | none=>rw[e]at h;cases h
 | some j=>
  rw[e]at h;obtain⟨h1,d,g,f⟩:=CW e;exact⟨j,h1,h,d,g,f⟩
def LJ{α:Type}{xs:List α}{j:Nat}{v:α}(h:xs[j]?=some v):lH xs (j:Int)=some v:=by
 have d:j<xs.length:=(aI.mp h).1;have e:ve xs.length (j:Int)=some j:=by
  unfold ve;rw[aR (),aR ()];simp
 unfold lH;rw[e];exact h
def wI{α:Type}(xs:List α)(v:α):lH (xs++[v]) (-1)=some v:=by
 have d:(xs++[v]).length=xs.length+1:=by simp
 have e:ve (xs++[v]).length (-1)=some xs.length:=by
  unfold ve;rw[d,aO ⋯,aR ()];congr 1
  lia
 unfold lH;rw[e]
 skip
 simp
abbrev u9 (b:aE):Prop:=∀o i,subscripted b false o i=operate [o,i] (getItem o i)
abbrev Mz (X:Cx)(r:R2):Prop:=
 ∀(value d:aE) (pins:bt) (s:aA) (σ:St) (H:Hp) (x y:V) (v u:aa) (Q:VK),Inv X pins σ H s->RelV x v->RelV y u->r x y H Q ->
  subscripted d false v u=operate [v,u] (getItem v u)->wpAny (model X.prog X.w) X.A (subscriptTail value d v u) (EP X pins σ Q) X.xe s
abbrev Bf (X:Cx)(id:String)(r:V->List V->Hp->VK->Prop):Prop:=
 ∀(pins:bt) (s:aA) (σ:St) (H:Hp) (x:V) (xs:List V) (v:aa) (us:bd) (Q:VK),Inv X pins σ H s->RelV x v->Vals xs us->r x xs H Q ->
  wpAny (model X.prog X.w) X.A (call (.builtin id) (v::us)) (EP X pins σ Q) X.xe s
section
variable {X:Cx}{a b:aE}{ta tb:TE}{pos:Pos}
def FU{r:R2}(j:Mz X r)(J:PE X a ta)(hb:PE X b tb)(hs:u9 b):PE X (.Subscript a b pos) (Qi r ta tb):=by
 z_go;exact Subscript_<|N_ J hb I h λv u s2 x y H2 d rx ry q=>j a b pins s2 σ H2 x y v u Q d rx ry q<|hs _ _
abbrev Tf (K:au):R2:=λx y H Q=>∃p xs i v,x=.ref p/\y=.int i/\jM K H p xs/\lH xs i=some v/\Q v H
abbrev Uc (K:au):R2:=λx y H Q=>∃p xs i v,x=.ref p/\y=.int i/\kN K H p xs/\lH xs i=some v/\Q v H
abbrev Ul:R2:=λx y H Q=>∃z i c,x=.str z/\y=.int i/\z.length<=sizeLine/\lH z.cps.toList i=some c/\Q (.str ⟨#[c]⟩) H
def Dn:Mz X (Tf X.K):=by
 intro value g pins s σ H x y v u Q I rx ry h hs;obtain⟨p,xs,i,z,rfl,rfl,J,C,q⟩:=h
 cases rx
 obtain⟨t,rfl⟩:=ry;obtain⟨m,r,pl,O⟩:=I.list J;obtain⟨j,h1,F,P,N,G⟩:=zb C;obtain⟨w,B,k⟩:=r.get F;have L:=r.length;have hn:=uc;have d:EP X pins σ Q w s:=⟨z,H,I,k,q⟩;by_cases h0:0<=i
 ·have f:i.toNat=j:=by
   rw[seqIndex_of h0 G]at h1;exact aQ h1
  exact item_listR pl.isList h0 () (by rw[f];simpa using B) d hs
 ·have f:(i+(m.toArray.size:Int)).toNat=j:=by
   rw[seqIndex_neg () N]at h1;rw[aN,<- L];exact aQ h1
  exact subscriptTail_builtinR (x:=w) pl.isList.typeIs fM.lookup
   (wpAny_getItem_list_neg (Q:=λr s'=>r=w/\EP X pins σ Q r s') pl.isList () (by rw[aN]<;>lia) () (by rw[f];simpa using B) ⟨rfl,d⟩) hs
def PY:Mz X (Uc X.K):=by
 intro value d pins s σ H x y v u Q I rx ry h hs;obtain⟨p,xs,i,z,rfl,rfl,C,k,q⟩:=h
 cases rx
 obtain⟨t,rfl⟩:=ry;obtain⟨F,r,pl,J⟩:=I.tuple C;obtain⟨j,h1,m,L,O,N⟩:=zb k;obtain⟨w,B,f⟩:=r.get m;have G:=r.length;have hn:=uc;have g:EP X pins σ Q w s:=⟨z,H,I,f,q⟩;exact subscriptTail_builtinR (x:=w) pl.typeIs slot_tuple_getitem.lookup
  (getItem_tuple (j:=j) (Q:=λr s'=>r=w/\EP X pins σ Q r s') pl () () (by rw[aN,<- G];exact h1) (by simpa using B) ⟨rfl,g⟩) hs
def NG:Mz X Ul:=by
 intro value d pins s σ H x y v u Q I rx ry h hs;obtain⟨z,i,c,rfl,rfl,B,f,q⟩:=h;kj_on;obtain⟨F,rfl⟩:=ry;obtain⟨j,h1,g,C,p,k⟩:=zb f;have m:z.cps.toList.length=z.length:=by simp[Str.length]
 rw[m]at h1 p k;have hn:=uc;exact tail_any (fG s z t) slot_str_getitem.lookup (getItem_str (c:=c) (by
  have e1:decide (i < -(2 ^ 63:Int))=false:=bE ();have e2:decide (i>=2 ^ 63)=false:=bE ();rw[e1,e2,Bool.or_false]) (by rw[h1];simpa using g) ⟨.str ⟨#[c]⟩,H,I.tok _,⟨_,rfl⟩,q⟩) hs
def B4(its:bd)(n j:Nat)(u:aa):Obj.mapSeq (·.setIfInBounds j u) { cls:=.type "list",data:=.seq its.toArray n }={ cls:=.type "list",data:=.seq (its.set j u).toArray n }:=by
 simp[Obj.mapSeq]
def Inv.lst{H:Hp}{s:aA}{p:aj}{xs:List V}(I:Inv X pins σ H s)(h:H p=some (.lst xs)) :
  ∃(its:bd) (n:Nat),Vals xs its/\s.heap.get? p=some { cls:=.type "list",data:=.seq its.toArray n }/\xs.length<=sizeLine:=by
 obtain⟨z,its,n,r,e⟩:=I.hok p _ h;exact⟨its,n,r,e,z⟩
def Inv.P4{H:Hp}{s:aA}{p:aj}{ys:List V}{its its':bd}{n:Nat}{f:Obj->Obj}(I:Inv X pins σ H s)(h:H p=some (.lst xs))
  (j:s.heap.get? p=some { cls:=.type "list",data:=.seq its.toArray n }) (hf:f { cls:=.type "list",data:=.seq its.toArray n }={ cls:=.type "list",data:=.seq its'.toArray n' }) (r:Vals ys its') (J:ys.length<=sizeLine) (t:Nat) :
  Inv X pins σ (upd H p<|.lst ys) { s with heap:=s.heap.update p f,toks:=t }:=by
 have e:(s.heap.update p f).get? p=some { cls:=.type "list",data:=.seq its'.toArray n' }:=by
  rw[eU f j<|by rw[hf]<;>rfl,hf]
 refine I.write (x:=p) (e:=p) (by rw[h];trivial) (.inl rfl) (λb u d q=>(dj _ _<|bM d).trans q) ⟨_,e⟩ ?_;exact⟨J,its',n',r,e⟩
abbrev QV:V->V->V->Hp->(Hp->Prop)->Prop:=λo i v H Q=>∃p xs k j,o=.ref p/\i=.int k/\H p=some (.lst xs)/\ve xs.length k=some j/\Q (upd H p<|.lst<|xs.set j v)
def set_list:Iz X QV:=by
 intro pins s σ H o i v P iv u Q I N L K h;obtain⟨p,xs,k,j,rfl,rfl,hp,J,q⟩:=h
 cases N
 obtain⟨t,rfl⟩:=L;obtain⟨d,n,r,g,G⟩:=I.lst hp;obtain⟨h1,O,B,F⟩:=CW J;have m:=r.length;have hn:=uc;have C:Inv X pins σ (upd H p<|.lst<|xs.set j v) { s with heap:=s.heap.update p<|Obj.mapSeq (·.setIfInBounds j u)}:=
  I.P4 hp g (B4 d n j u) (r.set K j) (by rw[bx];exact G) s.toks
 by_cases h0:0<=k
 ·have f:k.toNat=j:=by
   rw[seqIndex_of h0 F]at h1;exact aQ h1
  exact PySem.W.ki_setAt g h0 () (by rw[aN,<- m];exact F)<|by rw[f];exact⟨_,C,q⟩
 ·have f:(k+(d.toArray.size:Int)).toNat=j:=by
   rw[seqIndex_neg () B]at h1;rw[aN,<- m];exact aQ h1
  exact PySem.W.ki_setBack g () (by rw[aN,<- m];exact B) ()<|by rw[f];exact⟨_,C,q⟩
def zx(lo hi:bj)(n:Nat):(sliceBounds lo hi none n).1=((HT.jY n 0 lo:Nat):Int)/\(sliceBounds lo hi none n).2.1=((HT.jY n n hi:Nat):Int)/\(sliceBounds lo hi none n).2.2=1:=by
 refine⟨?_,?_,rfl⟩
 ·cases lo with
  | none=>simp[sliceBounds,HT.jY]
  | some i=>
   dsimp[sliceBounds,HT.jY,getD_none,show(1:Int)>0 by decide,dH];by_cases h:i<0
   ·dsimp[h,dH]<;>lia
   ·dsimp[h,dO]<;>lia
 ·cases hi with
  | none=>simp[sliceBounds,HT.jY]
  | some i=>
   dsimp[sliceBounds,HT.jY,getD_none,show(1:Int)>0 by decide,dH];by_cases h:i<0
   ·dsimp[h,dH]<;>lia
   ·dsimp[h,dO]<;>lia
def xA(its:bd)(lo hi:bj):slicePick its.toArray lo hi none=((its.drop<|HT.jY its.length 0 lo).take<|HT.jY its.length its.length hi-HT.jY its.length 0 lo).toArray:=by
 obtain⟨h1,f,d⟩:=zx lo hi its.toArray.size;unfold slicePick;rw[h1,f,d];dsimp[sliceRange_one,pick_run,aN]<;>rfl
abbrev TL (K:au):V->bj->bj->Hp->VK->Prop:=λx lo hi H Q=>∃a xs,x=.ref a/\jM K H a xs/\∀p,H p=none->Q (.ref p) (upd H p<|.lst<|Bd xs lo hi)
def DO:SD X (TL X.K):=by
 intro pins s σ H x v C B lo hi p Q I rx hs pl j h;obtain⟨a,xs,rfl,k,q⟩:=h
 cases rx
 obtain⟨m,r,f,g⟩:=I.list k;have d:=r.length;refine⟨"list",_,fM.lookup,f.isList.typeIs,?_⟩;refine wpAny_getItem_list_slice f.isList hs pl j .none (by simp) ?_ (by rw[aN]<;>lia);rw[xA,<- d];refine⟨.ref s.heap.objs.size,_,I.laid (t':=s.toks) (o:=.lst<|Bd xs lo hi) (λb ob q=>aK _ q) (aJ _) ?_,rfl,q _<|I.hok.fresh<|aJ _⟩;exact⟨bI (uN xs lo hi) g,_,0,(r.drop<|HT.jY xs.length 0 lo).take<|HT.jY xs.length xs.length hi-HT.jY xs.length 0 lo,bz _ rfl⟩
theorem oA:g6 X (.type "list") (λxs H Q=>∃p ys,xs=[.ref p]/\(jM X.K H p ys\/kN X.K H p ys)/\∀l,H l=none->Q (.ref l) (upd H l<|.lst ys)):=by
 fin2;obtain⟨p,ys,rfl,m,q⟩:=h;kst_p
 cases rx
 have B:∀(d:bd),Vals ys d->ys.length<=sizeLine->∀(h':ak) (f:Nat),(∀b o',s.heap.get? b=some o'->h'.get? b=some o') ->
   h'.get? s.heap.objs.size=some { cls:=.type "list",dict:=none,data:=.seq d.toArray f,slots:=#[]}->EP X pins σ Q (.ref s.heap.objs.size) { s with heap:=h' }:=λd g j h' f kp e=>
  ⟨.ref s.heap.objs.size,_,I.laid (t':=s.toks) kp (aJ _)<|show iS X.prog X.w _ h' _ (.lst ys)from⟨j,d,f,g,e⟩,rfl,q _<|I.hok.fresh<|aJ _⟩
 rcases m with m|m
 ·obtain⟨d,g,pl,j⟩:=I.list m;have k:=g.length;obtain⟨o,C,hc,n,hd⟩:=pl.isList;exact call_list_seq p (.inl rfl) C hc hd (λh' f kp e=>B d g j h' f kp e) (by dsimp[aN]<;>lia)
 ·obtain⟨d,g,pl,j⟩:=I.tuple m;have k:=g.length;obtain⟨o,C,hc,n,hd⟩:=pl;exact call_list_seq p (.inr rfl) C hc hd (λh' f kp e=>B d g j h' f kp e)<|by dsimp[aN]<;>lia
def nI:g6 X (.type "tuple") (λxs H Q=>∃p ys,xs=[.ref p]/\((jM X.K H p ys/\∀l,H l=none->Q (.ref l) (upd H l<|.tup ys))\/(kN X.K H p ys/\Q (.ref p) H))):=by
 fin2;obtain⟨p,ys,rfl,h⟩:=h;kst_p
 cases rx
 rcases h with⟨f,q⟩|⟨f,q⟩
 ·obtain⟨d,g,pl,j⟩:=I.list f;have k:=g.length;refine call_tuple_list pl.isList (λh' kp=>?_) (by dsimp[aN]<;>lia);have m:Inv X pins σ H { s with heap:=h' }:=I.kept (t':=s.toks) kp;have B:Inv X pins σ (upd H h'.objs.size<|.tup ys) { s with heap:=h'.push { cls:=.type "tuple",data:=.seq d.toArray }}:=
   m.laid (t':=s.toks) (λb o e=>aK _ e) (aJ _) (show iS X.prog X.w _ _ _ (.tup ys)from⟨j,d,g,kc.new _ _⟩)
  exact⟨.ref h'.objs.size,_,B,rfl,q _<|m.hok.fresh<|aJ _⟩
 ·obtain⟨d,g,pl,j⟩:=I.tuple f;exact call_tuple_same pl ⟨.ref p,H,I,rfl,q⟩
abbrev Qn (K:au)(T:String)(x:V)(H:Hp):Prop:=match x with
 | .str _=>T = "str"
 | .int _=>T = "int"
 | .ref p=>(T = "list" /\ ∃xs,jM K H p xs)\/(T = "tuple" /\ ∃o,K.lookup p=some o/\o.cls=.type "tuple" /\ o.dict=none) \/
   (T = "dict" /\ ((∃kvs,H p=some (.dK kvs))\/∃kvs,H p=some (.dT kvs)))\/(T = "set" /\ ∃S n,H p=some (.set S n))
 | _=>False
def Kq{H:Hp}{s:aA}{x:V}{v:aa}(I:Inv X pins σ H s)(r:RelV x v)(ty:Qn X.K T x H) :
  s.TypeIs v T/\∀a,v=.ref a->∃ob,s.heap.get? a=some ob/\ob.dict=none:=by
 cases x with
 | str z=>
  obtain⟨t,rfl⟩:=r
  cases(show T = "str" from ty)
  exact⟨fG s z t,nofun⟩
 | int i=>
  obtain⟨t,rfl⟩:=r
  cases(show T = "int" from ty)
  exact⟨typeIs_int s i t,nofun⟩
 | ref p=>
  cases r
  rcases ty with⟨rfl,xs,f⟩|⟨rfl,o,d,hc,hd⟩|⟨rfl,d⟩|⟨rfl,S,n,d⟩
  ·obtain⟨g,_,pl,_⟩:=I.list f;refine⟨pl.isList.typeIs,λa e=>?_⟩
   cases e
   obtain⟨o,n,e,c,hd,_⟩:=pl;exact⟨o,e,hd⟩
  ·refine⟨⟨o,I.rg p o d,hc⟩,λa e=>?_⟩
   cases e
   exact⟨o,I.rg _ o d,hd⟩
  ·have z:∃o,s.heap.get? p=some o/\o.ExactDict:=by
    rcases d with⟨kvs,d⟩|⟨kvs,d⟩
    ·obtain⟨_,_,_,_,o,_,_,e,ex,_⟩:=I.hok p _ d;exact⟨o,e,ex⟩
    ·obtain⟨_,_,_,_,o,_,_,e,ex,_⟩:=I.hok p _ d;exact⟨o,e,ex⟩
   obtain⟨o,e,ex⟩:=z;refine⟨⟨o,e,ex.1⟩,λa e2=>?_⟩
   cases e2
   exact⟨o,e,ex.2.1⟩
  ·obtain⟨o,_,_,_,e,ex,_⟩:=I.hok p _ d;refine⟨⟨o,e,ex.1⟩,λa e2=>?_⟩
   cases e2
   exact⟨o,e,ex.2.1⟩
 | _=>exact False.elim ty
abbrev SX (K:au)(T:String)(r:V->List V->Hp->VK->Prop)(to:TE):TE:=λσ H Q=>to σ H λx H1=>Qn K T x H1/\r x [] H1 Q
abbrev Vy (K:au)(T:String)(r:V->List V->Hp->VK->Prop)(to:TE)(t:TA):TE:=λσ H Q=>to σ H λx H1=>Qn K T x H1/\t σ H1 λxs H2=>r x xs H2 Q
variable {o e:aE}{es:List aE}{to:TE}{t:TA}{name:Str}{apos cpos:Pos}{T id:String}{r:V->List V->Hp->VK->Prop}
def O8(Z:PlainAttrs T)(slot:Slot T name id)(U:typeOf (.builtin id)=pure (.type "method_descriptor"))(hm:Bf X id r)(ho:PE X o to)
  (J:attributeBase o name X.env (eval o X.env)=eval o X.env<|>ε) (L:(apos.endLine == cpos.line)=true<|>ε):PE X (.Call (.Attribute o name apos) [] [] cpos) (SX X.K T r to):=by
 z_go;refine wpAny_Call_method0_late J L<|iQ (ho pins s σ H _ I h) λv j ⟨x,H1,d,r1,ty,g⟩=>?_;obtain⟨h1,f⟩:=Kq d r1 ty;exact⟨T,id,Z,slot,U,h1,f,Calls.callWith_builtin rfl<|PySem.evalArgs_none<|hm pins j σ H1 x [] v [] Q d r1 .nil g⟩
def I_(pa:PlainAttrs T)(slot:Slot T name id)(hty:typeOf (.builtin id)=pure (.type "method_descriptor"))(hm:Bf X id r)(ho:PE X o to)(ha:PA X (e::es) t)
  (L:attributeBase o name X.env (eval o X.env)=eval o X.env<|>ε)
  (Z:(((backTo cpos<|starEach (e::es) X.env).all (λx=>!x.1) && (backToKw cpos<|keywordEach [] X.env).all (λx=>x.1.isSome)
   && decide ((e::es).length+([]:List Keyword).length+(if ([]:List Keyword).isEmpty then 0 else 1)<30))=true)<|>ε)
  (U:(apos.endLine == cpos.line)=true<|>ε) (hs:starEach (e::es) X.env=(false,eval e X.env)::starEach es X.env<|>ε) (J:((backTo cpos<|starEach es X.env).any (·.1)=false)<|>ε) :
  PE X (.Call (.Attribute o name apos) (e::es) [] cpos) (Vy X.K T r to t):=by
 z_go;refine wpAny_Call_method_late L Z U rfl<|iQ (ho pins s σ H _ I h) λv B ⟨x,H1,f,r1,ty,j⟩=>?_;obtain⟨h1,g⟩:=Kq f r1 ty;refine⟨T,id,pa,slot,hty,h1,g,?_⟩;have d:=ha cpos pins B σ H1 _ f j;rw[hs]at d ⊢;refine Calls.callWith_builtin (by show(false || (backTo cpos<|starEach es X.env).any (·.1))=false;rw[J]<;>rfl)<|Calls.evalArgs_plain ?_;exact iQ d λus s2 ⟨k,H2,m,r2,p⟩=>hm pins s2 σ H2 x k v us Q m r1 r2 p
end
abbrev TZ (X:Cx)(id:String)(r:V->List V->Hp->VK->Prop):Prop:=
 ∀(pins:bt) (s:aA) (σ:St) (H:Hp) (x:V) (xs:List V) (v:aa) (us:bd) (Q:VK),Inv X pins σ H s->RelV x v->Vals xs us->r x xs H Q ->
  wpAny (model X.prog X.w) X.A (call (.builtin id) (v::us)) (EP X pins σ Q) X.xe s
def Vals.one:∀{x:V}{us:bd},Vals [x] us->∃u,us=[u]/\RelV x u
 | _,_,.cons r .nil=>⟨_,rfl,r⟩
def Vals.zero:∀{us:bd},Vals [] us->us=[]
 | _,.nil=>rfl
def Vals.dropLast{xs:List V}{us:bd}(h:Vals xs us):Vals xs.dropLast us.dropLast:=by
 induction h with
 | nil=>exact .nil
 | cons r t d=>
  cases t with
  | nil=>exact .nil
  | cons q f=>exact .cons r d
def Vals.reverse{xs:List V}{us:bd}(h:Vals xs us):Vals xs.reverse us.reverse:=by
 induction h with
 | nil=>exact .nil
 | cons r t d=>rw[eK,eK];exact Vals.append d<|.cons r .nil
theorem Vals.rep(h:Vals xs us):∀k:Nat,Vals (List.replicate k xs).flatten (List.replicate k us).flatten
 | 0=>.nil
 | k+1=>by
  rw[cI,cI,c8,c8];exact Vals.append h<|Vals.rep h k
def BW{α:Type}(l:List α):l.eraseIdx (l.length-1)=l.dropLast:=by
 induction l with
 | nil=>rfl
 | cons a r d=>
  cases r with
  | nil=>rfl
  | cons b r=>
   have e:(a::b::r).length-1=((b::r).length-1)+1:=by
    have h1:(a::b::r).length=r.length+2:=rfl;have f:(b::r).length=r.length+1:=rfl
    lia
   rw[e,List.eraseIdx_cons_succ,d]
   all_goals rfl
theorem foldl_rep(its:bd):∀(k:Nat) (acc:bd),
  List.foldl (λx1 x2=>x1++x2) acc.toArray (List.replicate k its.toArray)=(acc++(List.replicate k its).flatten).toArray
 | 0,acc=>by simp
 | k+1,acc=>by
  have e:acc.toArray++its.toArray=(acc++its).toArray:=by simp
  have e2:(acc++its)++(List.replicate k its).flatten=acc++(List.replicate (k+1) its).flatten:=by
   rw[cI,c8,bL]
  rw[<- e2,<- foldl_rep its k (acc++its),<- e,cI,List.foldl_cons]
section
variable {X:Cx}{pins:bt}{σ:St}{H:Hp}{s:aA}{l:aj}{xs ys:List V}
def Inv.Sf{its its':bd}{n:Nat}{f:Array aa->Array aa}{t':Nat}(I:Inv X pins σ H s)(J:H l=some (.lst xs))
  (e:s.heap.get? l=some { cls:=.type "list",data:=.seq its.toArray n }) (hf:f its.toArray=its'.toArray) (hv:Vals ys its') (L:ys.length<=sizeLine) :
  Inv X pins σ (upd H l<|.lst ys) { s with heap:=s.heap.update l<|Obj.mapSeq f,toks:=t' }:=by
 have q:=PySem.IsL.update e f;rw[hf]at q;refine I.write (x:=l) (e:=l) (by rw[J];exact trivial) (.inl rfl) (λj u g d=>(dj s.heap (Obj.mapSeq f)<|bM g).trans d) ⟨_,q⟩ ?_;exact⟨L,its',_,hv,q⟩
def Inv.Iw{its:bd}{t':Nat}(I:Inv X pins σ H s)(hv:Vals ys its)(j:ys.length<=sizeLine) :
  Inv X pins σ (upd H s.heap.objs.size<|.lst ys) { s with heap:=s.heap.push { cls:=.type "list",data:=.seq its.toArray },toks:=t' }:=
 I.laid (λ_ _ q=>aK _ q) (aJ _) ⟨j,its,0,hv,bz _ rfl⟩
def Inv.fresh(I:Inv X pins σ H s):H s.heap.objs.size=none:=I.hok.fresh<|aJ _
def Inv.JX(I:Inv X pins σ H s)(j:H l=some (.lst xs)):xs.length<=sizeLine/\∃(its:bd) (n:Nat),Vals xs its/\xs.length=its.length/\s.heap.get? l=some { cls:=.type "list",data:=.seq its.toArray n }:=by
 obtain⟨z,its,n,r,e⟩:=I.hok l _ j;exact⟨z,its,n,r,r.length,e⟩
def Jm{n:Nat}(h:n<=sizeLine):Builtin.List.listTooLong n=false:=by
 unfold Builtin.List.listTooLong;exact bE ()
end
section
variable {X:Cx}
abbrev LH:V->List V->Hp->VK->Prop:=λx d H Q=>∃l xs y,x=.ref l/\d=[y]/\H l=some (.lst xs)/\xs.length<sizeLine/\Q .non (upd H l<|.lst<|xs++[y])
def t8:TZ X "list.append" LH:=by
 intro pins s σ H x m v us Q I rx g h;obtain⟨l,xs,y,rfl,rfl,f,k,q⟩:=h
 cases rx
 obtain⟨u,rfl,j⟩:=g.one;obtain⟨z,d,n,r,p,e⟩:=I.JX f;refine ef F.slot_list_append ⟨_,e,rfl⟩ F.entry_list_append (F.args_list_append_2 _ _) (PySem.list_append l d.toArray n u<|by rw[aN];lia) ⟨e,?_⟩;refine⟨.non,_,I.Sf (its':=d++[u]) f e (by simp) (r.append<|.cons j .nil) ?_,rfl,q⟩;rw[aU,dD]
 lia
abbrev T8:V->List V->Hp->VK->Prop:=λx d H Q=>∃l xs y,x=.ref l/\d=[]/\H l=some (.lst xs)/\xs[xs.length-1]?=some y/\Q y (upd H l<|.lst xs.dropLast)
def PM:TZ X "list.pop" T8:=by
 intro pins s σ H x C v us Q I rx m h;obtain⟨l,xs,y,rfl,rfl,j,hy,q⟩:=h
 cases rx
 have f:=m.zero;subst f;obtain⟨z,d,n,r,B,e⟩:=I.JX j;obtain⟨u,k,p⟩:=r.get hy;have g:d.toArray[d.toArray.size-1]?=some u:=by
  show d.toArray[d.length-1]?=some u;rw[<- Array.getElem?_toList,<- B];exact k
 refine ef F.slot_list_pop ⟨_,e,rfl⟩ F.entry_list_pop (F.args_list_pop_1 _) (MeetsSeq.list_pop_last l d.toArray n u g<|by rw[aN];lia) ⟨e,?_⟩;refine⟨y,_,I.Sf (its':=d.dropLast) j e ?_ r.dropLast ?_,p,q⟩
 ·skip
  rw[aN,List.eraseIdxIfInBounds_toArray,BW]
 ·rw[List.length_dropLast]
  lia
abbrev Tp:R2:=λx y H Q=>∃l b xs zs,x=.ref l/\y=.ref b/\H l=some (.lst xs)/\H b=some (.lst zs)/\xs.length+zs.length<=sizeLine/\∀p,H p=none->Q (.ref p) (upd H p<|.lst<|xs++zs)
def Og:jI X (binaryOp .Add) Tp:=by
 k_ne;obtain⟨l,b,xs,zs,rfl,rfl,m,j,p,q⟩:=h
 cases rx
 cases ry
 obtain⟨z,f,n,r,C,e⟩:=I.JX m;obtain⟨F,d,B,r2,g,e2⟩:=I.JX j;refine PySem.P.add_list e e2 ?_ (by rw[aN,aN];lia);have k:f.toArray++d.toArray=(f++d).toArray:=by simp
 rw[k];exact⟨.ref _,_,I.Iw (t':=s.toks) (r.append r2)<|by rw[aU];lia,rfl,q _ I.fresh⟩
abbrev Th:R2:=λx y H Q=>∃l k xs,x=.ref l/\y=.int k/\H l=some (.lst xs)/\-(2 ^ 63)<=k/\k<2 ^ 63/\xs.length * k.toNat<=sizeLine /\
 ∀p,H p=none->Q (.ref p) (upd H p<|.lst (List.replicate k.toNat xs).flatten)
def len_rep{α:Type}(xs:List α)(k:Nat):(List.replicate k xs).flatten.length=k * xs.length:=by
 induction k with
 | zero=>simp
 | succ k d=>rw[cI,c8,aU,d,succ_mul,Nat.add_comm]
def OE:jI X (binaryOp .Mult) Th:=by
 k_ne;obtain⟨l,k,xs,rfl,rfl,L,h1,K,J,q⟩:=h
 cases rx
 obtain⟨t,rfl⟩:=ry;obtain⟨z,d,n,r,N,e⟩:=I.JX L;have j:d.toArray.size * k.toNat<=sizeLine:=by rw[aN,<- N];exact J
 have p:¬d.toArray.size * k.toNat>(2 ^ 63-1) / 8:=by
  have:(sizeLine:Nat)<=(2 ^ 63-1) / 8:=by decide
  omega
 have B:¬(!Builtin.List.listFitsIndex k)=true:=by
  rw[fitsIndex_both h1 K];exact bC
 have f:¬Builtin.List.listTooLong (d.toArray.size * k.toNat)=true:=by
  rw[Jm j];exact bC
 have g:List.foldl (λC G=>C++G) #[] (List.replicate (if d.toArray.isEmpty=true then 0 else k.toNat) d.toArray)=(List.replicate k.toNat d).flatten.toArray:=by
  have f0:∀m:Nat,List.foldl (λC G=>C++G) #[] (List.replicate m d.toArray)=(List.replicate m d).flatten.toArray:=λm=>by
   have:=foldl_rep d m [];rw[List.nil_append]at this;exact this
  rw[f0]
  cases d with
  | nil=>simp
  | cons a O=>rw[aO<|by simp]
 refine wpAny_binaryOp_repeat_ref (T := "list") (U := "int") ⋯ ⟨_,e,rfl⟩ (λs'=>typeIs_int s' k t) noFill_list_mul F.fills_int_mul F.slot_int_rmul repeat_list F.slot_int_index.lookup
  (ef F.slot_int_rmul (typeIs_int s k t) F.entry_int_rmul (F.args_int_rmul_2 _ _) (int___rmul___int_list k t l d.toArray n)
   ⟨e,rfl,⟨_,e,rfl⟩,ef F.slot_list_mul ⟨_,e,rfl⟩ F.entry_list_mul (F.args_list_mul_2 _ _) (AutoListH.list___mul___list_int_3 l d.toArray n k t B p f) ⟨e,?_⟩⟩)
 rw[g];exact⟨.ref _,_,I.Iw (t':=s.toks) (r.rep k.toNat)<|by rw[len_rep,Nat.mul_comm];exact J,rfl,q _ I.fresh⟩
end
end L2
namespace Att
open PySem PySem.W PySem.Calls PyProof.Rows
def uQ{P:Params}:∀(ns:am) (vs:bd),WellAll P h vs (ns.map WData.int)->IntsAre vs ns:=by
 intro ns
 induction ns with
 | nil=>
  intro vs w;rw[fX]at w
  cases w
  exact .nil
 | cons n ns d=>
  intro vs w;rw[bf]at w
  cases w with
  | cons a b=>
   cases a
   exact .cons _ _<|d _ b
def ET{l:OpenLaw}{n:Nat}(hn:l.most=some n){P:Params}{h:ak}
  (J:l.row.toRowW.claim.pre args=true) (L:WellAll P h vals args) :
  ∃a vs ns,vals=[Value.ref a]/\args=[WData.list<|ns.map WData.int]/\h.get? a=some { cls:=.type "list",data:=.seq vs.toArray }/\IntsAre vs ns/\ns.length<=n:=by
 have m:WShape.hasAll [] args [.list .int]=true:=(pre_splitW J).1;have hc:l.pre.holds [] { args:=args }=true:=(pre_splitW J).2;obtain⟨d,r,rfl,h1,p⟩:=hasAllW_cons m;obtain rfl:=hasAllW_nil p;obtain⟨xs,rfl,C⟩:=hasW_list h1;obtain⟨ns,rfl⟩:=items_int C;have g:ns.length<=n:=by
  unfold OpenLaw.pre at hc;have k:(WTm.not<|.lt (.lit<|.int (n:Int))<|.len<|.arg 0).holds [] { args:=[.list<|ns.map .int]}=true:=by
   have k:=(holds_andW hc).1;rw[hn]at k;exact k
  have j:=condW_of k<|w_not<|w_lt w_lit<|w_len_list<|w_arg rfl;rw[aH]at j;refine Nat.le_of_not_lt λq=>?_;have q':(n:Int)<((ns.length:Nat):Int):=by omega
  first
   | (rw[bB q']at j;exact absurd j ⋯)
   | (simp at j;omega)
 cases L with
 | cons F B=>
  cases B
  cases F with
  | list G f=>exact⟨_,_,ns,rfl,rfl,G,uQ ns _ f,g⟩
def E2(l:OpenLaw)(args:List WData):l.row.toRowW.claim.post args (.bool true) args=true:=
 postW_of (r:=l.row.toRowW) (X:=(true == true))
  (show WShape.has [] (.bool true) .bool=true by first|rfl|decide|simp[WShape.has,WShape.arms,WShape.armsAll])
  (show(WTm.eq .res<|.lit<|.bool true).value [] { args:=args,res:=some<|.bool true,after:=args }=some (.bool<|true == true)from w_eq_bool (w_res rfl) w_lit) rfl
def A9{l:OpenLaw}{n:Nat}{q:ah}{XP:(Str->bi)->ak->Prop}{YP:af->ak->Prop}{d:DefRec}
  (hn:l.most=some n) (hdf:d.params.defaults=[])
  (call:∀(w:af) (s₀ s₁:aA) (mg mb:Str->bi) (fa:aj) (o:Obj) (pm cd doc:aa) (a:aj) (vs:bd) (ns:am),
   Ground q loose [] XP w s₀ mg mb s₁.heap->YP w s₁.heap ->
   s₁.heap.get? fa=some o->o.data=.func (docDef d.name d.params d.body d.scope pm cd doc)->s₁.heap.CodeRec cd d.name->mg d.name=some (.ref fa) ->
   s₁.heap.get? a=some { cls:=.type "list",data:=.seq vs.toArray }->IntsAre vs ns->ns.length<=n->s₁.gens=#[] ->
   codeAny (model l.prog w) callerA (.call (.ref fa) ⟨[.ref a],[]⟩) (λr s'=>r=.ok (.ret<|.bool true)/\OldK s₁.heap s'.heap/\s'.os=s₁.os/\AllBare s'.gens) s₁) :
  WalkO q loose XP YP l.row.toRowW d [] (λf vs=>PySem.call f vs):=by
 intro w s₀ s₁ mg mb G Y fa o pm cd doc Z kV ho hd C F p hg K L as j J O B T;obtain rfl:Z=.none:=Dflts.none F hdf;obtain rfl:kV=.none:=Dflts.noKw F;obtain⟨a,vs,ns,rfl,rfl,m,g,k⟩:=ET hn j B;refine enter_call<|eF (call w s₀ s₁ mg mb fa o pm cd doc a vs ns G Y ho (fd_plain hd) C p m g k hg) λr s' V=>?_;obtain⟨rfl,U,N,h4⟩:=V;exact⟨.inl ⟨.bool true,.bool true,[],rfl,λ_=>rfl,.bool true,E2 l _,λ_=>⟨List.Pairwise.nil,λ_ P=>(nomatch P)⟩⟩,U,N,h4⟩
end Att
namespace L2
open PySem PySem.Spec PyProof.Rows
theorem ur:∀{vs:bd}{ns:am},IntsAre vs ns->Vals (ns.map V.int) vs
 | _,_,.nil=>.nil
 | _,_,.cons n t h=>.cons ⟨t,rfl⟩<|ur h
abbrev LC (H:Hp):Prop:=∀b,H b=none\/∃o xs,H b=some (.frz o<|.lst xs)
def Jr{P:ah}{w:af}{K:au}{mg mb:Str->bi}{CX:HX}{k:Nat}{fa a:aj}{x:Str}{sp:Sp}{s₁:aA}{vs:bd}{ns:am}
  (KX:K.In s₁.heap) (hns:s₁.heap.Ns mainGlobals mg) (hb:s₁.heap.Ns builtinsNs mb) (hbb:∀x:Str,x ≠ "__name__" -> mb x=bootBuiltins x) (hlim:s₁.heap.NoLimit) (hg:s₁.gens=#[])
  (ha:s₁.heap.get? a=some { cls:=.type "list",data:=.seq vs.toArray }) (hi:IntsAre vs ns) (hl:ns.length<=sizeLine) (hr:Room k callerA)
  (F:∀base:ak,K.In base->base.Ns mainGlobals mg->FnOk P w K mg base CX k fa fd [x] sp) (hbind:∀(s:aA) (u:aa),BindsTo s fd ⟨[u],[]⟩ [(x,u)])
  (hsp:∀H:Hp,LC H->jM K H a (ns.map V.int)->sp [.ref a] H (λv _=>v=.bl true) λ_ _ _=>False)
  (hCX:∀H e s',CX [] H s₁ (λ_ _ _=>False) e s'->False) :
  codeAny (model P w) callerA (.call (.ref fa) ⟨[.ref a],[]⟩) (λr s'=>r=.ok (.ret<|.bool true)/\OldK s₁.heap s'.heap/\s'.os=s₁.os/\AllBare s'.gens) s₁:=by
 have Y:=ur hi;have C:=hi.length;have j:∀H:Hp,LC H->jM K H a (ns.map V.int)->qh P w H s₁.heap->(∀b,H b≠none->b=a)->(H a≠none->K.lookup a=none) ->
   codeAny (model P w) callerA (.call (.ref fa) ⟨[.ref a],[]⟩) (λr s'=>r=.ok (.ret<|.bool true)/\OldK s₁.heap s'.heap/\s'.os=s₁.os/\AllBare s'.gens) s₁:=by
  intro H hO hS G Z hK;have f:∀{b:aj} {o:Obj},s₁.heap.get? b=some o->H b=none->(yL s₁.heap H).get? b=some o:=λe n=>IK e n;have O:∀{b:aj} {o:Obj} {es:Array DictEntry} {p:Nat},s₁.heap.get? b=some o->o.data=.dict es p->H b=none:=λ{b o es p} e d=>by
   cases q:H b with
   | none=>rfl
   | some u=>
    have T:b=a:=Z b (by rw[q];simp);subst T;rw[ha]at e;cases e;have d':Data.seq vs.toArray _=Data.dict es p:=d
    cases d'
  have g:∀{b:aj} {m:Str->bi},s₁.heap.Ns b m->(yL s₁.heap H).Ns b m:=λ{b m} ⟨o,es,p,e,d,r⟩=>⟨o,es,p,f e<|O e d,d,r⟩;have J:K.In (yL s₁.heap H):=λb o e=>f (KX b o e) (by
   cases q:H b with
   | none=>rfl
   | some u=>
    have T:b=a:=Z b (by rw[q];simp);subst T;rw[hK<|by rw[q];simp]at e;cases e)
  have hM:Mod K mg (yL s₁.heap H):=⟨J,g hns,⟨mb,g hb,hbb⟩,let⟨mc,h1,h2⟩:=hlim;⟨mc,g h1,h2⟩⟩;have e0:Env0 P w K mg (yL s₁.heap H) callerA [] s₁ H:=⟨rfl,hM,λb o e=>Lc e,Nat.le_of_eq<|FG _ _,trivial,λb hb=>absurd (show b∈([]:be)from hb)<|by simp,G,.of_eq hg⟩;refine eF ((F _ J<|g hns).run callerA [] s₁ H ⟨[.ref a],[]⟩ [.ref a] [.ref a] _ _ hr e0 (hbind s₁<|.ref a) (.cons rfl .nil)<|hsp H hO hS) λr s' h=>?_
  cases r with
  | error e=>exact(hCX H e s' h).elim
  | ok fl=>
   cases fl with
   | next=>exact False.elim h
   | brk=>exact False.elim h
   | cont=>exact False.elim h
   | ret u=>
    obtain⟨v,H',os,L,un,N,r',q⟩:=h;have q':v=.bl true:=q;subst q';obtain rfl:u=Value.bool true:=r';refine⟨rfl,OldK.of_keep λb o e=>?_,os,L⟩
    cases q:H b with
    | none=>exact un.keep b o e q (by intro z;exact absurd (show b∈([]:be)from z)<|by simp) (by simp)
    | some u=>
     rcases hO b with z|⟨ob,xs,z⟩
     ·rw[q]at z;cases z
     ·have z2:=un.frzs b ob _ z;obtain⟨e1,_⟩:=G b _ z;obtain⟨e2,_⟩:=N b _ z2;rw[e]at e1;cases e1;exact e2
 cases U:K.lookup a with
 | some o=>
  have e:=KX a o U;rw[ha]at e
  cases e
  refine j (λ_=>none) (λ_=>.inl rfl) (.inr ⟨_,vs.toArray,_,U,rfl,rfl,rfl,by rw[aN,C];exact hl,by simpa using Y⟩) (λb u z=>by have B:(none:Option HO)=some u:=z;cases B) (λb z=>absurd rfl z) λz=>absurd rfl z
 | none=>
  refine j (λb=>if b=a then some (.frz { cls:=.type "list",data:=.seq vs.toArray } (.lst<|ns.map V.int))else none) (λb=>?_) (.inl<|.inr ⟨{ cls:=.type "list",data:=.seq vs.toArray },aR rfl⟩) (λb u z=>?_) (λb z=>?_) λ_=>U
  ·by_cases hb:b=a
   ·exact .inr ⟨_,_,aR hb⟩
   ·exact .inl<|aO hb
  ·by_cases hb:b=a
   ·have B:=(aR hb).symm.trans z
    cases B
    subst hb;exact⟨ha,by rw[aH];exact hl,vs,_,Y,ha⟩
   ·have B:=(aO hb).symm.trans z
    cases B
  ·by_cases hb:b=a
   ·exact hb
   ·exact absurd (aO hb) z
def KR{l:PySem.W.OpenLaw}{n k:Nat}{q:ah}{XP:(Str->bi)->ak->Prop}{YP:af->ak->Prop}{d:DefRec}{K:Params->au}{CX:af->HX}{sp:af->Sp}{x:Str}
  (hn:l.most=some n) (hn2:n<=sizeLine) (hdf:d.params.defaults=[]) (hr:Room k callerA)
  (hY:∀(w:af) (h:ak),YP w h->(K w.params).In h)
  (F:∀(w:af) (mg:Str->bi) (fa:aj) (h:ak),(K w.params).In h->h.Ns mainGlobals mg->mg d.name=some (.ref fa) ->
   ∃fd:FuncData,(∀(s:aA) (u:aa),BindsTo s fd ⟨[u],[]⟩ [(x,u)]) /\
    ∀base:ak,(K w.params).In base->base.Ns mainGlobals mg->FnOk l.prog w (K w.params) mg base (CX w) k fa fd [x] (sp w))
  (hsp:∀(w:af) (H:Hp) (a:aj) (ns:am),ns.length<=n->LC H->jM (K w.params) H a (ns.map V.int)->sp w [.ref a] H (λv _=>v=.bl true) λ_ _ _=>False)
  (hCX:∀(w:af) (H:Hp) (s:aA) (e:aa) (s':aA),CX w [] H s (λ_ _ _=>False) e s'->False) :
  PySem.W.WalkO q loose XP YP l.row.toRowW d [] (λf vs=>PySem.call f vs):=by
 refine Att.A9 hn hdf λw J p mg mb fa o pm cd doc a vs ns G Y ho hd U C B m j hg=>?_;have L:=hY w _ Y;obtain⟨fd,N,Z⟩:=F w mg fa _ L G.T.g C;exact Jr L G.T.g G.T.b G.T.builtins G.T.nolimit hg B m (bI j hn2) hr Z N (λH P O=>hsp w H a ns j P O) λH e s'=>hCX w H p e s'
abbrev lA (s:aF):Arguments:=match s with
 | .FunctionDef _ a _ _ _ _ _ _ _ _=>a
 | _=>{ posonlyargs:=[],args:=[],vararg:=none,kwonlyargs:=[],kw_defaults:=[],kwarg:=none,defaults:=[]}
abbrev jA (s:aF):List aF:=match s with
 | .FunctionDef _ _ b _ _ _ _ _ _ _=>b
 | _=>[]
abbrev gE (s:aF):Scope:=match s with
 | .FunctionDef _ _ _ _ _ _ d _ _ _=>d
 | _=>{ kind:=.function,names:=[],isGenerator:=false,isCoroutine:=false }
meta abbrev qA:HX:=λ_ _ _ _ _ _=>False
meta abbrev E0:XK:=λ_ _ _=>False
def MM:Passes qA X E0:=λ_ _ _ _ _ _ _ h=>h.elim
structure Fun (K:au)(x qual:Str)(st:aF)(f:aj)(fd:FuncData):Prop where
 ex:∃(oc:aa) (od:Option aj) (kV doc pm:aa) (an:Option aj) (cdv ct:aa) (osl:Array<|bi),
  fd=PySem.W.fnOf x qual (lA st) (jA st) (gE st) .none kV doc pm an cdv ct/\K.lookup f=some ⟨oc,od,.func fd,osl⟩/\PySem.W.codeIn K cdv qual=true
 kp:PySem.W.keepIn K (.ref f)=true
section
variable {P:ah}{w:af}{K:au}{mg:Str->bi}{base:ak}
def Fun.ok{x:Str}{st:aF}{f:aj}{N ps:ba}{k:Nat}{sp:Sp}(F:Fun K x qual st f fd)(S:FnScope N ps<|gE st)(len:∀vs H Q E,sp vs H Q E->vs.length=ps.length)
  (J:∀(cdv:aa) (A:az) (outer:List Env) (s:aA) (H:Hp) (vs:List V) (Q:VK) (E:XK),Room k (A.deeper<|envOfC qual (gE st) s.heap.objs.size f cdv)->sp vs H Q E ->
   ∃t,xR (uX qA P w K mg base N qual (gE st) f cdv A outer s H E).Qw (jA st) t/\t { nx:=λ_ H'=>Q .non H',rt:=Q } (start N vs) H):FnOk P w K mg base qA (k+1) f fd ps sp:=by
 obtain⟨oc,od,kV,doc,pm,an,cdv,ct,osl,rfl,m,g⟩:=F.ex;refine MP m g S len λA outer s H vs Q E j d=>?_;obtain⟨t,h,q⟩:=J cdv A outer s H vs Q E j d;exact⟨t,h.Qw,q⟩
def Fun.binds{x:Str}{st:aF}{f:aj}{ps:ba}(F:Fun K x qual st f fd)
  (h:∀(kV doc pm:aa) (an:Option aj) (cdv ct:aa) (us:bd),us.length=ps.length->bindArgs (PySem.W.fnOf x qual (lA st) (jA st) (gE st) .none kV doc pm an cdv ct) ⟨us,[]⟩=pure (ps.zip us)):Binds K fd ps []:=by
 obtain⟨oc,od,kV,doc,pm,an,cdv,ct,osl,rfl,g,d⟩:=F.ex;exact .all<|h kV doc pm an cdv ct
def Bk{x:Str}{st:aF}{f:aj}{od:Option aj}{kV ct:aa}(l:K.lookup f=some ⟨oc,od,.func<|PySem.W.fnOf x qual (lA st) (jA st) (gE st) .none kV doc pm an cdv ct,osl⟩)
  (c:PySem.W.codeIn K cdv qual=true) (k:PySem.W.keepIn K (.ref f)=true):Fun K x qual st f (PySem.W.fnOf x qual (lA st) (jA st) (gE st) .none kV doc pm an cdv ct):=⟨⟨oc,od,kV,doc,pm,an,cdv,ct,osl,rfl,l,c⟩,k⟩
end
set_option maxHeartbeats 4000000
abbrev Pr (σ:St):bp->Option V
 | some j=>(σ[j]?).getD none
 | none=>none
abbrev nS (env:Env):List (Str×NameKind)->List (Str×aj)->List (Str×aj)
 | [],cs=>cs
 | (n,k)::r,cs=>nS env r (if k == .free then(n,(env.cells.lookup n).getD 0)::cs else cs)
def wM{scope:Scope}{env:Env}(h:∀y∈scope.names,y.2=.free->∃c,env.cells.lookup y.1=some c):closureFor scope env=pure (nS env scope.names []):=by
 have f:∀(l:List<|Str×NameKind) (cs:List<|Str×aj),(∀y∈l,y.2=.free->∃c,env.cells.lookup y.1=some c) ->
   (forIn l cs (λ(x:Str×NameKind) (r:List<|Str×aj)=>(match x with
    | (name,kind)=>if (kind == NameKind.free)=true then(do let c <- cellOf env name;pure (ForInStep.yield ((name,c)::r)))else pure (ForInStep.yield r):Sem<|ForInStep<|List<|Str×aj)))=(pure (nS env l cs):Sem<|List<|Str×aj):=by
  intro l
  induction l with
  | nil=>intro cs _;rfl
  | cons y r m=>
   intro cs g;obtain⟨n,k⟩:=y;rw[List.forIn_cons];by_cases p:k=.free
   ·subst p;obtain⟨c,hc⟩:=g (n,.free) aZ rfl;have e1:cellOf env n=pure c:=by
     unfold cellOf;rw[hc]
    dsimp[bG,dH,e1,pure_bind];rw[m _ λz d=>g z<|aW _ d];dsimp[nS,bG,dH,hc,cS]
   ·have j:(k == NameKind.free)=false:=by simpa using p
    dsimp[j,cW,dO,pure_bind];rw[m _ λz d=>g z<|aW _ d];dsimp[nS,j,cW,dO]
 have:=f scope.names [] h;exact(cO (λz=>z >>= λcs=>(pure cs:Sem<|List<|Str×aj)) this).trans (pure_bind _ _)
theorem wo:∀{l:List<|Str×NameKind}{x:Str}{k:NameKind},l.lookup x=some k->(x,k)∈l
 | [],_,_,h=>nomatch h
 | (n,k')::r,x,k,h=>by
  rw[cj]at h
  cases d:x == n with
  | true=>
   rw[d]at h;have e:x=n:=by simpa using d
   subst e
   cases h
   exact aZ
  | false=>rw[d]at h;exact aW _<|wo h
theorem ye{env:Env}{x:Str}{c:aj}:∀{l:List<|Str×NameKind}{cs:List<|Str×aj},(∀y∈l,y.2=.free->∃c,env.cells.lookup y.1=some c)->(nS env l cs).lookup x=some c->env.cells.lookup x=some c\/cs.lookup x=some c
 | [],cs,_,h=>.inr h
 | (n,k)::r,cs,hl,h=>by
  have h':=ye (l:=r) (λz g=>hl z<|aW _ g) h
  rcases h' with h'|h'
  ·exact .inl h'
  ·by_cases f:k=.free
   ·subst f;dsimp[bG,dH]at h';obtain⟨m,hc⟩:=hl (n,.free) aZ rfl;rw[hc,cS,cj]at h'
    cases d:x == n with
    | true=>
     rw[d]at h';have e:x=n:=by simpa using d
     subst e;left;rw[hc];exact h'
    | false=>rw[d]at h';exact .inr h'
   ·have j:(k == NameKind.free)=false:=by simpa using f
    dsimp[j,cW,dO]at h';exact .inr h'
theorem xS{env:Env}{x:Str}:∀{l:List<|Str×NameKind}{cs:List<|Str×aj},(cs.lookup x).isSome=true->((nS env l cs).lookup x).isSome=true
 | [],cs,h=>h
 | (n,k)::r,cs,h=>by
  skip
  refine xS (l:=r) ?_;by_cases d:(k == NameKind.free)=true
  ·rw[aR d,cj]
   cases f:x == n with
   | true=>rfl
   | false=>exact h
  ·rw[aO d];exact h
theorem wC{env:Env}{x:Str}:∀{l:List<|Str×NameKind}{cs:List<|Str×aj},(x,NameKind.free)∈l->((nS env l cs).lookup x).isSome=true
 | [],_,h=>nomatch h
 | (n,k)::r,cs,h=>by
  rcases bJ.mp h with e|h
  ·cases e
   skip
   refine xS (l:=r) ?_;rw[aR<|by rfl,cj];simp
  ·exact wC (l:=r) h
theorem qU:∀(names:List<|Str×NameKind) (n:Nat) (acc:List<|Str×aj),cellsFrom n names acc=cellsFrom n names []++acc
 | [],_,_=>rfl
 | (x,k)::r,n,acc=>by
  unfold cellsFrom;split
  ·rw[qU r (n+1) ((x,n)::acc),qU r (n+1) [(x,n)],bL];rfl
  ·exact qU r n acc
theorem Bt:∀(names:List<|Str×NameKind) (n:Nat) {x:Str}{c:aj},(x,c)∈cellsFrom n names []->(x,NameKind.cell)∈names
 | [],_,_,_,h=>nomatch h
 | (y,k)::r,n,x,c,h=>by
  unfold cellsFrom at h;split at h
  ·rename_i d;rw[qU]at h
   rcases bO.mp h with z|z
   ·exact aW _ (Bt r _ z)
   ·rw[a_]at z
    cases z
    have:k=.cell:=by simpa using d
    rw[this];exact aZ
  ·exact aW _<|Bt r _ h
theorem rZ{α:Type}{x:Str}:∀{l m:List<|Str×α},(l++m).lookup x=match l.lookup x with|some c=>some c|none=>m.lookup x
 | [],_=>rfl
 | (y,c)::l,m=>by
  rw[fS,cj,cj]
  cases x == y with
  | true=>rfl
  | false=>exact rZ
def KO{n:Nat}{acc:List<|Str×aj}{x:Str}{c:aj}(h:(cellsFrom n names acc).lookup x=some c):(cellsFrom n names []).lookup x=some c\/((cellsFrom n names []).lookup x=none/\acc.lookup x=some c):=by
 rw[qU,rZ]at h
 cases e:(cellsFrom n names []).lookup x with
 | some d=>rw[e]at h;exact .inl h
 | none=>rw[e]at h;exact .inr ⟨rfl,h⟩
def Nz{n:Nat}{acc:List<|Str×aj}{x:Str}(h:(x,NameKind.cell)∉names):(cellsFrom n names acc).lookup x=acc.lookup x:=by
 rw[qU,rZ]
 cases e:(cellsFrom n names []).lookup x with
 | some d=>exact absurd (Bt names n<|bV e) h
 | none=>rfl
def Ek{A:az}{E:aa->aA->Prop}{s:aA}{scope:Scope}{j:aj}{cl:List<|Str×aj}{env:Env}{Q:Env->aA->Prop}
  (J:∀h':ak,h'.Ns s.heap.objs.size (λ_=>none)->(∀b o,s.heap.get? b=some o->h'.get? b=some o)->CellsOk h' (s.heap.objs.size+1) (cellsFrom (s.heap.objs.size+1) scope.names []) ->
   Q (newEnv scope s.heap.objs.size j (cellsFrom (s.heap.objs.size+1) scope.names cl) qual none .none (some env) builtinsNs) { s with heap:=h',toks:=s.toks+([]:List<|Str×aa).length }) :
  wpAny M A (newFunctionEnv scope j cl [] qual none .none<|some env) Q E s:=by
 dsimp[newFunctionEnv,eg,dH];refine aG<|wpAny_alloc ?_;refine aG (wpAny_layCells _ (λname kind cells=>by cases d:kind == NameKind.cell<;>simp[d]) _ _ _ _ ?_);have ok:=cellsFrom_ok scope.names (s.heap.push { cls:=.type "dict",data:=.dict #[]}) (s.heap.objs.size+1) [] ⟨λ_ _ f=>(nomatch f),List.Pairwise.nil⟩ (by rw[cU];exact aJ _);rw[cU]at ok;rw[show({ s with heap:=s.heap.push { cls:=.type "dict",data:=.dict #[]}}:aA).heap.objs.size=s.heap.objs.size+1 from cU ..];rw[List.forIn_nil];refine aG<|aM<|aM ?_;exact J _ ((Heap.Ns.new s.heap<|.type "dict").keeps<|pushCells_keeps _ _) (λb o e=>pushCells_keeps _ _ b o<|aK _ e) ok
abbrev iG (X:Cx)(scope:Scope)(N:ba)(C:aj)(s₀:aA)(H₀:Hp)(ex:be):Cx where
 prog:=X.prog
 w:=X.w
 K:=X.K
 mg:=X.mg
 base:=X.base
 A:=X.A
 N:=N
 s₀:=s₀
 H₀:=H₀
 env:=compEnvC scope (cellsFrom (C+1) scope.names<|nS X.env scope.names []) C X.env
 outer:=X.stack
 stack:=X.stack
 ex:=ex
 fn:=λx=>scope.names.lookup x == some .cell
 calm:=X.calm
 pn:=[]
 xe:=λ_ _=>False
structure CpScope (X:Cx)(scope:Scope)(N:ba)(cap:List (bp)):Prop where
 kind:scope.kind=.function
 nocf:∀x,(x,NameKind.free)∈scope.names->(x,NameKind.cell)∉scope.names
 nm:∀y∈scope.names,y.2=.local->scope.names.lookup y.1=some .local
 fr:∀y∈scope.names,y.2=.free->X.env.kindOf y.1=some .cell\/X.env.kindOf y.1=some .free
 rl:∀y,((relabel scope X.env).names.lookup y=some .cell\/(relabel scope X.env).names.lookup y=some .free)->(y,NameKind.free)∈scope.names\/scope.names.lookup y=some .cell
 len:cap.length=N.length
 nolf:∀x,(x,NameKind.free)∈scope.names->scope.names.lookup x≠some .local
 cp:∀(i j:Nat) (x:Str),N[i]?=some x->cap[i]?=some (some j)->X.N[j]?=some x/\(x,NameKind.free)∈scope.names
def J0{scope:Scope}{N:ba}{cap:List<|bp}{H:Hp}{s:aA}{fp:be}{h₁:ak}{m:Str->bi}{tk:Nat}(S:CpScope X scope N cap)(I:Inv X pins σ H s)
  (hf:∀b∈fp,n8 X pins H b) (ho:∀b∈fp,∃o,s.heap.get? b=some o) (hn:h₁.Ns s.heap.objs.size m) (hC:CellsOk h₁ (s.heap.objs.size+1)<|cellsFrom (s.heap.objs.size+1) scope.names []) (hk:∀b o,s.heap.get? b=some o->h₁.get? b=some o) :
  Inv (iG X scope N s.heap.objs.size s H fp) [] (cap.map<|Pr σ) H { s with heap:=h₁,toks:=tk }:=by
 kpc_g;have lk:∀x c,(nS X.env scope.names []).lookup x=some c->X.env.cells.lookup x=some c:=λx c e=>by
  rcases ye hfree e with z|z
  ·exact z
  ·cases z
 have f:∀x c,(cellsFrom (s.heap.objs.size+1) scope.names<|nS X.env scope.names []).lookup x=some c->((x,c)∈cellsFrom (s.heap.objs.size+1) scope.names []/\h₁.IsCell c none/\s.heap.objs.size+1<=c)\/X.env.cells.lookup x=some c:=λx c e=>by
  rcases KO e with z|z
  ·exact .inl ⟨bV z,hC.empty x c<|bV z⟩
  ·exact .inr<|lk x c z.2
 have old:∀x c,X.env.cells.lookup x=some c->c<s.heap.objs.size:=λx c e=>by
  obtain⟨v,z⟩:=I.cell x c e;exact z.lt
 have lt:∀b o,s.heap.get? b=some o->b≠s.heap.objs.size:=λb o e=>bh<|aP e;refine⟨⟨I.ok.mod,?_,I.ok.glob,I.ok.blt,aJ _,?_,?_,?_,I.ok.hd,I.ok.frames,.inl rfl,?_,I.bs,bI I.ok.bsz I.sz,?_,?_,I.stack,I.qg⟩,rfl,I.bare,Un.kept hk,?_,?_,I.hok.fresh<|aJ _,?_,?_,I.hok.kept hk,?_⟩
 ·exact S.kind
 ·intro x y c e1 e2
  rcases f x c e1 with a|a
  ·rcases f y c e2 with b|b
   ·exact name_of_addr hC.apart a.1 b.1
   ·exact absurd (old y c b)<|not_lt.mpr<|dR a.2.2
  ·rcases f y c e2 with b|b
   ·exact absurd (old x c a) (not_lt.mpr<|dR b.2.2)
   ·exact I.ok.inj x y c a b
 ·intro x e;refine cL.mp (di _ _ _ ?_)
  rcases S.rl x e with C|C
  ·exact .inr (wC (env:=X.env) (cs:=[]) C)
  ·exact .inl C
 ·intro x c e K;have e:scope.names.lookup x=some .cell:=by
   have e:(scope.names.lookup x == some .cell)=true:=e;simpa using e
  obtain⟨d,hd⟩:=cL.mp<|di scope.names (s.heap.objs.size+1) []<|.inl e;have K:(cellsFrom (s.heap.objs.size+1) scope.names<|nS X.env scope.names []).lookup x=some c:=K;rw[qU,rZ,hd]at K
  cases K
  exact dR (hC.empty x c<|bV hd).2
 ·intro b J;obtain⟨o,e⟩:=ho b J;refine⟨lt b o e,λx c e2=>?_⟩
  rcases f x c e2 with z|z
  ·exact fV (Nat.lt_trans (aP e) z.2.2)
  ·exact(hf b J).2.2.2.2.1 x c z
 ·intro b o e J;obtain⟨_,_,_,h3,_⟩:=hf b J
  rcases h3 with z|z
  ·exact I.ok.noex b o e z
  ·exact absurd (aY (aP (I.ok.bs b o e).1) z)<|cR _
 ·intro b J hz;obtain⟨_,h1,T,_⟩:=hf b J
  rcases bJ.mp (I.tV b hz)with z|z
  ·exact h1 z
  ·exact T z
 ·refine⟨m,hn,λi x v e1 e2 e3=>?_⟩;rw[cB]at e2
  cases hc:cap[i]? with
  | none=>rw[hc]at e2;cases e2
  | some oj=>
   rw[hc]at e2
   cases oj with
   | none=>cases e2
   | some j=>
    have B:(σ[j]?).getD none=some v:=aQ e2;obtain⟨hj,C⟩:=S.cp i j x e1 hc;obtain⟨m0,hn0,hl0⟩:=I.loc;have Y:σ[j]?=some (some v):=by
     cases h:σ[j]? with
     | none=>rw[h]at B;cases B
     | some z=>rw[h,cS]at B;rw[B]
    have L:=S.fr (x,.free) C rfl;have hv:Sv X.env.scope x:=.inr L;obtain⟨u,ru,lo⟩:=hl0 j x v hj Y hv;refine⟨u,ru,?_⟩
    rcases lo with⟨lo,_⟩|⟨_,c,K,ic⟩
    ·rcases L with z|z<;>(rw[z]at lo;cases lo)
    ·have T:=wC (env:=X.env) (cs:=[]) C;obtain⟨U,F⟩:=cL.mp T;have:U=c:=aQ<|(lk x U F).symm.trans K;subst this;refine .inr ⟨?_,U,(Nz<|S.nocf x C).trans F,?_⟩
     ·rcases e3 with z|z|z
      ·exfalso;have:(relabel scope X.env).names.lookup x=some .local:=z;have O:scope.names.lookup x=some .local:=by
        have P:∃k,(x,k)∈(relabel scope X.env).names/\k=.local:=by
         clear F T;have:=wo this;exact⟨_,this,rfl⟩
        obtain⟨k,V,rfl⟩:=P;obtain⟨⟨n',k'⟩,Z,g⟩:=bR.mp V;dsimp only at g;split at g
        ·cases g
        ·cases g
         exact S.nm (x,.local) Z rfl
       exact False.elim<|S.nolf x C O
      ·exact .inl z
      ·exact .inr z
     ·obtain⟨o,G,hd⟩:=ic;exact⟨o,hk _ _ G,hd⟩
 ·intro x c e
  rcases f x c e with z|z
  ·exact⟨_,z.2.1⟩
  ·obtain⟨v,o,G,hd⟩:=I.cell x c z;exact⟨v,o,hk _ _ G,hd⟩
 ·intro x c e
  rcases f x c e with z|z
  ·exact I.hok.fresh (dR z.2.2)
  ·exact I.freeC x c z
 ·intro p hp
  cases hp
 ·rw[aH,S.len];rfl
abbrev MQ (X:Cx)(ifs:List aE)(t:TT):Prop:=
 ∀(pins:bt) (s:aA) (σ:St) (H:Hp) (Q:Bool->Hp->Prop),Inv X pins σ H s->t σ H Q ->
  wpAny (model X.prog X.w) X.A (forIn ifs true λc r=>if r=true then do let ok <- isTrue c X.env (eval c X.env);pure (ForInStep.yield ok)else pure (ForInStep.yield r)) (TP X pins σ Q) X.xe s
abbrev Ui:TT:=λ_ H Q=>Q true H
def K6:MQ X [] Ui:=λ_ _ _ H _ I h=>wpAny_tests_nil ⟨H,I,h⟩
abbrev O0 (cap:List<|bp)(g:TG)(tc:TT)(te:TE)(σ:St)(Q:VK)(J:It)(H1:Hp):Prop:=∀D,H1 D=none ->
 ∃W:Nat->Nat->St->Hp->Prop,(∃m,W 0 m (cap.map<|Pr σ)<|upd H1 D<|.lst [])/\∀i m f H',W i m f H' ->
  (J.stop i H'/\Q (.ref D) H')\/(J.go i H'/\∀x H2,J.yld i H' x H2->g x f H2 λd H3=>tc d H3 λb k=>
   if b=true then te d k λy p=>∃ys,p D=some (.lst ys)/\ys.length<sizeLine/\∃j,j<m/\W (i+1) j d (upd p D<|.lst<|ys++[y])
   else ∃j,j<m/\W (i+1) j d k)
abbrev M0 (cap:List<|bp)(j:TI)(g:TG)(tc:TT)(te:TE):TE:=λσ H Q=>j σ H<|O0 cap g tc te σ Q
def Ca{α:Type}{t:Sem α}{Q Q':α->aA->Prop}{A:az}{E:aa->aA->Prop}(h:wpAny M A t Q (λ_ _=>False) s)(j:∀a s,Q a s->Q' a s):wpAny M A t Q' E s:=
 bY h j λ_ _ f=>f.elim
structure TurnG (ok:Cx->Prop)(P:ah)(w:af)(K:au)(tg:aE)(J:It)(fp:be)(it:aj)(tn:Nat->ak->Prop):Prop where
 obj:∀i h,tn i h->∀b∈fp,∃o,h.get? b=some o/\∀v,o.data≠.cell v
 keep:∀i h h',tn i h->(∀b∈fp,∀o,h.get? b=some o->h'.get? b=some o)->tn i h'
 item:∀(X:Cx),X.prog=P->X.w=w->X.K=K->ok X->∀(i:Nat) (pins:bt) (s:aA) (σ:St) (H:Hp) (E:aa->aA->Prop),Inv X pins σ H s->(∀b∈fp,n8 X pins H b)->tn i s.heap->J.go i H ->
  wpAny (model P w) X.A (pyNext<|.ref it) (λr s1=>∃u,r=some u /\
   wpAny (model P w) X.A (letOwnedTupleGo tg (.ref it) u) (λ_ s2=>∃x H',Inv X pins σ H' s2/\RelV x u/\J.yld i H x H'/\tn (i+1) s2.heap/\∀b∈fp,H' b=none) E s1) E s
 done:∀(X:Cx),X.prog=P->X.w=w->X.K=K->ok X->∀(i:Nat) (pins:bt) (s:aA) (σ:St) (H:Hp) (E:aa->aA->Prop),Inv X pins σ H s->(∀b∈fp,n8 X pins H b)->tn i s.heap->J.stop i H ->
  wpAny (model P w) X.A (pyNext<|.ref it) (λr s1=>r=none/\Inv X pins σ H s1) E s
 self:∀(A:az) (i:Nat) (s:aA) (Q:aa->aA->Prop) (E:aa->aA->Prop),tn i s.heap->Q (.ref it) s->wpAny (model P w) A (pyIter<|.ref it) Q E s
abbrev T6 (ok:Cx->Prop)(X:Cx)(pins:bt)(σ:St)(tg:aE)(R:It->Hp->Prop)(j:aa)(s2:aA):Prop:=
 ∃(it:aj) (fp:be) (d:Nat->ak->Prop) (J:It) (H':Hp),j=.ref it/\Inv X pins σ H' s2/\TurnG ok X.prog X.w X.K tg J fp it d/\d 0 s2.heap/\(∀b∈fp,n8 X pins H' b)/\R J H'
abbrev Uj (ok:Cx->Prop)(X:Cx)(tg iter:aE)(j:TI):Prop:=
 ∀(pins:bt) (s:aA) (σ:St) (H:Hp) (R:It->Hp->Prop),Inv X pins σ H s->j σ H R ->
  wpAny (model X.prog X.w) X.A (eval iter X.env) (λv d=>wpAny (model X.prog X.w) X.A (pyIter v) (T6 ok X pins σ tg R) X.xe d) X.xe s
def PI.g{iter:aE}{L:TI}(h:PI X tg iter L):Uj (λY=>Y.calm=true) X tg iter L:=λpins s σ H R I q=>
 iQ (h pins s σ H R I q) λv k h1=>iQ h1 λf s2 ⟨it,fp,d,J,H',e,j,T,a,b,c⟩=>⟨it,fp,d,J,H',e,j,⟨T.obj,T.keep,T.item,T.done,T.self⟩,a,b,c⟩
def Mq{ok:Cx->Prop}{X:Cx}{use:Option<|aa->Sem Unit}{Q':aa->aA->Prop}{iter:aE}{N:ba}{wi:TI}{g:TG}{tc:TT}{te:TE}(S:CpScope X scope N cap)(hok:∀C s₀ H₀ ex,(∀a o u,X.H₀ a=some (.frz o u)->H₀ a=some (.frz o u))->ok (iG X scope N C s₀ H₀ ex))(hi:Uj ok X tg iter wi)
  (hg:∀C s₀ H₀ ex,PG (iG X scope N C s₀ H₀ ex) tg g) (ht:∀C s₀ H₀ ex,MQ (iG X scope N C s₀ H₀ ex) ifs tc) (he:∀C s₀ H₀ ex,PE (iG X scope N C s₀ H₀ ex) elt te)
  (hs:(∀x,foldedSetIterable iter X.env x=pure x)<|>ζ):∀(pins:bt) (s:aA) (σ:St) (H:Hp) (Q:VK),Inv X pins σ H s->M0 cap wi g tc te σ H Q ->
  (∀(s6:aA) (C D:aj) (H5:Hp) (m:Str->bi),s6.heap.Ns C m->n8 X pins H5 C->(∀h',Heap.SameBut C s6.heap h'->Inv X pins σ H5 { s6 with heap:=h' })->Q (.ref D) H5->∀v,compPost (model X.prog X.w) X.A X.xe use Q' (.ref D) C (.ok v) s6) ->
  wpAny (model X.prog X.w) X.A (comprehension (.ListComp elt [⟨tg,iter,ifs,0⟩] scope pos) scope X.env (firstIterPos [⟨tg,iter,ifs,0⟩] pos) (newList []) (firstAsync [⟨tg,iter,ifs,0⟩]) (firstIter [⟨tg,iter,ifs,0⟩] X.env) use) Q' X.xe s:=by
 intro pins s σ H Q I h hfin;kpc_g;refine wpAny_comprehension_free (use:=use) rfl hs (wM hfree) S.kind S.nm<|iQ (hi pins s σ H _ I h) λxv s1 h1=>iQ h1 λitv s2 h2=>?_;obtain⟨it,fp,tn,J,H2,rfl,I2,T,st2,f2,h2⟩:=h2;refine bQ<|Ek λU k old B=>?_;obtain⟨W,⟨m0,w0⟩,turn⟩:=h2 s2.heap.objs.size I2.fresh;dsimp only at k old B ⊢;have I3:Inv X pins σ (upd H2 s2.heap.objs.size<|.lst []) { s2 with heap:=s2.heap.push {}}:=I2.Iw (t':=s2.toks) (its:=[]) .nil<|er _;have hfp:∀b∈fp,∃o,s2.heap.get? b=some o:=λb f=>by
  obtain⟨o,e,_⟩:=T.obj 0 _ st2 b f;exact⟨o,e⟩
 have neD:∀b∈fp,b≠s2.heap.objs.size:=λb f=>by
  obtain⟨o,e⟩:=hfp b f;exact bh<|aP e
 have f3:∀b∈fp,n8 X pins (upd H2 s2.heap.objs.size<|.lst []) b:=λb f=>⟨by rw[gy<|neD b f];exact(f2 b f).1,(f2 b f).2⟩;have hDC:s2.heap.objs.size≠(s2.heap.push {}).objs.size:=by rw[cU];exact bh (cD _)
 have I4:=J0 (tk:=s2.toks+([]:List<|Str×aa).length) (fp:=fp) S I3 f3 (λb f=>by
  obtain⟨o,e⟩:=hfp b f;exact⟨o,aK _ e⟩) k B old
 have st4:tn 0 U:=T.keep _ _ _ st2 λb f o e=>old b o<|aK _ e;have hc:=hok (s2.heap.push {}).objs.size { s2 with heap:=s2.heap.push {}} (upd H2 s2.heap.objs.size<|.lst []) fp λa o u e=>by
  have z:=I2.base.frzs a o u e;rw[gy λq=>by rw[q,I2.fresh]at z;cases z];exact z
 have K:∀{H':Hp},(∀b∈fp,H' b=none)->∀b∈fp,n8 (iG X scope N (s2.heap.push {}).objs.size { s2 with heap:=s2.heap.push {}} (upd H2 s2.heap.objs.size<|.lst []) fp) [] H' b:=λhn b f=>by
  have ok:=I4.ok;refine⟨hn b f,(ok.exf b f).1,ok.exfs b f,.inl f,λx c e=>(ok.exf b f).2 x c e,λp hp=>nomatch hp⟩
 have V:∀s4:aA,s4={ s2 with heap:=U,toks:=s2.toks+([]:List<|Str×aa).length } ->
   codeAny (model X.prog X.w) X.A (.compLoop (.ListComp elt [⟨tg,iter,ifs,0⟩] scope pos) 0 (.ref it) (.ref s2.heap.objs.size)<|compEnvC scope (cellsFrom ((s2.heap.push {}).objs.size+1) scope.names<|nS X.env scope.names []) (s2.heap.push {}).objs.size X.env)
    (compPost (model X.prog X.w) X.A X.xe use Q' (.ref s2.heap.objs.size) (s2.heap.push {}).objs.size) s4:=by
  rintro s4 rfl;refine codeAny_loop rfl (λn s'=>∃i L H',Inv (iG X scope N (s2.heap.push {}).objs.size { s2 with heap:=s2.heap.push {}} (upd H2 s2.heap.objs.size<|.lst []) fp) [] L H' s'/\tn i s'.heap/\(∀b∈fp,H' b=none)/\W i n L H') (λn s5 hI=>?_) m0 ⟨0,_,_,I4,st4,λb f=>(f3 b f).1,w0⟩;obtain⟨i,P,H5,I5,st5,fr5,w5⟩:=hI;show wpAny _ X.A ((compTurn (.ListComp elt [⟨tg,iter,ifs,0⟩] scope pos) 0 (.ref it) (.ref s2.heap.objs.size)<|compEnvC scope (cellsFrom ((s2.heap.push {}).objs.size+1) scope.names<|nS X.env scope.names []) (s2.heap.push {}).objs.size X.env).onRaise λx=>do noteFrame x _;theTreesLotGoes x) _ _ s5;refine wpAny_noted ?_;rw[compTurn_list];refine aG (eZ<|aG ?_)
  rcases turn i n P H5 w5 with⟨stop,q⟩|⟨go,step⟩
  ·refine iQ (T.done (iG X scope N (s2.heap.push {}).objs.size { s2 with heap:=s2.heap.push {}} (upd H2 s2.heap.objs.size<|.lst []) fp) rfl rfl rfl hc i [] s5 P H5 _ I5 (K fr5) st5 stop) λr s6 h9=>?_;obtain⟨hr,I6⟩:=h9;subst hr;obtain⟨m6,hn6,_⟩:=I6.loc;refine aM<|hfin s6 _ _ H5 m6 hn6 (I3.B5 (aJ _) I6.free) (λh' sb=>?_) q _;have Z:=I6.base;have nC:∀b o,(s2.heap.push {}).get? b=some o->b≠(s2.heap.push {}).objs.size:=λb o e=>bh<|aP e;refine I3.GX (ch:=fp) I6.os ⟨λb o e n f hx=>?_,λb o e n f hx=>?_,λb o e n hx=>?_,λb o e hx=>?_,Z.tups,Z.frzs,Z.tbls⟩ ?_ I6.bare ?_
   ·exact sb.extBut b o (nC b o e) (Z.keep b o e n f hx)
   ·obtain⟨sl,z⟩:=Z.slot b o e n f hx;exact⟨sl,sb.extBut b _ (nC b o e) z⟩
   ·exact Z.free b o e n hx
   ·obtain⟨o',z⟩:=Z.there b o e hx;exact⟨o',sb.extBut b _ (nC b o e) z⟩
   ·intro b o e;have f:∀c v,H5 c=some v->c≠(s2.heap.push {}).objs.size:=λc v e z=>by
     rw[z]at e;have:=I6.free;rw[show H5 (s2.heap.push {}).objs.size=none from this]at e
     cases e
    refine(I6.hok b o e).stay (λc v hc q=>sb.extBut c v ?_ q) (λ_ q=>q) λ_ _ q=>q
    rcases hc with z|z
    ·rw[z];exact f b o e
    ·exact f c _ z
   ·intro b f;obtain⟨_,z1,_,z3,z4,z5⟩:=f3 b f;exact⟨z3,z1,z4,z5⟩
  ·refine iQ (T.item (iG X scope N (s2.heap.push {}).objs.size { s2 with heap:=s2.heap.push {}} (upd H2 s2.heap.objs.size<|.lst []) fp) rfl rfl rfl hc i [] s5 P H5 _ I5 (K fr5) st5 go) λr s6 h9=>?_;obtain⟨u,hr,h6⟩:=h9;subst hr;refine aG<|iQ h6 λ_ s7 ⟨x,H7,I7,r7,y7,Y,fr7⟩=>?_;have I7':=I7.pinned (K fr7)<|T.obj _ _ Y;refine aG<|Ca (hg _ _ _ fp _ s7 P H7 x u _ I7' r7<|step x H7 y7) λ_ s8 ⟨F,H8,I8,q8⟩=>?_;refine aG<|Ca (ht _ _ _ fp _ s8 F H8 _ I8 q8) λok s9 ⟨H9,I9,q9⟩=>?_;have again:∀{G:aA} {j:Hp},Inv (iG X scope N (s2.heap.push {}).objs.size { s2 with heap:=s2.heap.push {}} (upd H2 s2.heap.objs.size<|.lst []) fp) ([]++qP fp s7.heap) F j G->(∃m',m'<n/\W (i+1) m' F j) ->
     ∃m,m<n/\∃i L H',Inv (iG X scope N (s2.heap.push {}).objs.size { s2 with heap:=s2.heap.push {}} (upd H2 s2.heap.objs.size<|.lst []) fp) [] L H' G/\tn i G.heap/\(∀b∈fp,H' b=none)/\W i m L H':=λ{G j} O h9=>by
    obtain⟨m',hm,w10⟩:=h9;refine⟨m',hm,i+1,F,j,O.nP,T.keep _ _ _ Y λb f o e=>(O.pin (b,o)<|br _<|br _<|jP f e).1,λb f=>?_,w10⟩;obtain⟨o,e,d⟩:=T.obj _ _ Y b f;exact(O.pin (b,o)<|br _<|br _<|jP f e).2.1
   cases ok with
   | false=>
    rw[aO bC]at q9;exact aM ⟨rfl,again I9 q9⟩
   | true=>
    rw[aR rfl]at q9;refine aG<|aG<|Ca (he _ _ _ fp _ s9 F H9 _ I9 q9) λy G ⟨v10,j,O,r10,ys,hD,hz,w10⟩=>?_;refine aG<|Ca (t8 _ G F j (.ref s2.heap.objs.size) [v10] _ [y] (λ_ H'=>H'=upd j s2.heap.objs.size (.lst<|ys++[v10])) O rfl (.cons r10 .nil) ⟨_,ys,v10,rfl,rfl,hD,hz,rfl⟩) λ_ s11 ⟨_,H11,I11,_,e11⟩=>?_;subst e11;exact aM<|aM ⟨rfl,again I11 w10⟩
 exact codeAny_compStart_list (V _ rfl)<|T.self _ 0 _ _ _ st4<|V _ rfl
def OI{ok:Cx->Prop}{X:Cx}{iter:aE}{N:ba}{L:TI}{g:TG}{tc:TT}{te:TE}(S:CpScope X scope N cap)(J:∀C s₀ H₀ ex,(∀a o u,X.H₀ a=some (.frz o u)->H₀ a=some (.frz o u))->ok (iG X scope N C s₀ H₀ ex))(hi:Uj ok X tg iter L)
  (hg:∀C s₀ H₀ ex,PG (iG X scope N C s₀ H₀ ex) tg g) (U:∀C s₀ H₀ ex,MQ (iG X scope N C s₀ H₀ ex) ifs tc) (Z:∀C s₀ H₀ ex,PE (iG X scope N C s₀ H₀ ex) elt te)
  (hs:(∀x,foldedSetIterable iter X.env x=pure x)<|>ζ):PE X (.ListComp elt [⟨tg,iter,ifs,0⟩] scope pos) (M0 cap L g tc te):=by
 z_go;rw[eval_ListComp];exact Mq (use:=none) (Q':=EP X pins σ Q) S J hi hg U Z hs pins s σ H Q I h λj C D d m hn k inv q v=>⟨m,hn,λh' f=>⟨.ref D,d,inv h' f,rfl,q⟩⟩
def Qs{X:Cx}{iter:aE}{N:ba}{j:TI}{g:TG}{tc:TT}{te:TE}(hc:X.calm=true)(S:CpScope X scope N cap)(hi:PI X tg iter j)
  (hg:∀C s₀ H₀ ex,PG (iG X scope N C s₀ H₀ ex) tg g) (J:∀C s₀ H₀ ex,MQ (iG X scope N C s₀ H₀ ex) ifs tc) (L:∀C s₀ H₀ ex,PE (iG X scope N C s₀ H₀ ex) elt te)
  (hs:(∀x,foldedSetIterable iter X.env x=pure x)<|>ζ):PE X (.ListComp elt [⟨tg,iter,ifs,0⟩] scope pos) (M0 cap j g tc te):=
 OI S (λ_ _ _ _ _=>hc) hi.g hg J L hs
section
variable {X:Cx}
def Hv{bs:List Bool}:∀{us:bd},Vals (bs.map V.bl) us->LSm.BoolsAre us bs:=by
 induction bs with
 | nil=>intro us r;cases r;exact .nil
 | cons b bs d=>
  intro us r
  cases r with
  | cons h t=>
   have e:_=Value.bool b:=h;subst e;exact .cons b<|d t
def Fl(hc:X.calm=true):g6 X (.builtin "all") (λxs H Q=>∃(p:aj) (bs:List Bool),xs=[.ref p]/\jM X.K H p (bs.map V.bl)/\Q (.bl<|bs.all id) H):=by
 fin2;obtain⟨p,bs,rfl,B,q⟩:=h;kst_p
 cases rx
 obtain⟨d,m,pl,F⟩:=I.list B;have j:=Hv m;have g:=pl.isList;have f:p<s.heap.objs.size:=by obtain⟨_,e,_⟩:=g;exact aP e
 refine call_all_walk<|wpAny_pyIter_list g ?_;refine⟨s.heap.objs.size,[s.heap.objs.size,p],[s.heap.objs.size],d.toArray.size,_,_,λi=>(bs[i]?).getD true,rfl,Walks.list (A:=X.A.in1) (I.ok.hd hc) _ p (bh f) d.toArray,
  ⟨⟨_,bz _ rfl,rfl,rfl⟩,g.push _⟩,λi v s' J G hP k=>?_,λh' tk C=>?_⟩
 ·obtain⟨b,e,rfl⟩:=j.get i v (by simpa using hP);dsimp[e,cS]at k;exact cH k
 ·have e:((List.range d.toArray.size).all λi=>(bs[i]?).getD true)=bs.all id:=by
   rw[aN,j.length];exact LSm.range_all bs
  rw[e];exact⟨.bl _,H,I.kept<|LSm.kept_iter C,rfl,q⟩
def zf:g6 X (.builtin "sorted") (λxs H Q=>∃(p:aj) (ns:am),xs=[.ref p]/\(jM X.K H p (ns.map V.int)\/kN X.K H p (ns.map V.int))/\ns.length<64 /\
  ∀l (ns':am),H l=none->ns'.Perm ns->ns'.Pairwise (·<=·)->Q (.ref l) (upd H l<|.lst<|ns'.map V.int)):=by
 fin2;obtain⟨p,ns,rfl,B,U,q⟩:=h;kst_p
 cases rx
 have J:∀(d:bd) (T:String) (o:Obj) (n:Nat),(T = "list" \/ T = "tuple")->s.heap.get? p=some o->o.cls=.type T->o.data=.seq d.toArray n->Vals (ns.map V.int) d ->
   wpAny (model X.prog X.w) X.A (call (.builtin "sorted") [.ref p]) (EP X pins σ Q) X.xe s:=by
  intro d T o n Y C f hd j;have hI:=intsAre_of j;have k:d.length=ns.length:=by have:=j.length;rw[aH]at this;exact this.symm
  refine Calls.call_function_entry kind_sorted plain_sorted entry_sorted (args_sorted1 _) ?_;unfold Builtin.«sorted»;refine aG (m:=checkCount "sorted" 1 1 _)<|aM ?_;refine aG (wpAny_collect_seq p Y C f hd (λh' hk=>?_)<|by rw[aN,k,bH];lia);refine aG<|wpAny_newList ?_;have g:(h'.push<|seqObj "list" d.toArray 0).get? h'.objs.size=some (seqObj "list" d.toArray 0):=bz _ rfl
  skip
  refine aG<|b_<|wpAny_call_entry slot_list_sort ⟨_,g,rfl⟩ entry_list_sort (list_sort_tree g hI () λout ns' a1 L Z=>⟨_,rfl,?_⟩)<|args_list_sort _;obtain⟨e,P⟩:=sortedHeap_at (out:=out) g;have G:ns'.length=ns.length:=L.length_eq;have N:Inv X pins σ H { s with heap:=h' }:=I.kept (t':=s.toks) hk;have old:∀b ob,h'.get? b=some ob->(sortedHeap (h'.push<|seqObj "list" d.toArray 0) h'.objs.size d out).get? b=some ob:=λb ob F=>by
   rw[sortedHeap_old (bh<|aP F)<|by rw[cU];exact Nat.lt_succ_of_lt<|aP F];exact aK _ F
  refine aM ⟨_,rfl,.ref h'.objs.size,_,N.laid (t':=s.toks) (o:=.lst<|ns'.map V.int) old (aJ _) ?_,rfl,q _ ns' (N.hok.fresh<|aJ _) L Z⟩;refine⟨by rw[aH,G,bH];lia,out.toList,e,ur a1,?_⟩;rw[P]
 rcases B with B|B
 ·obtain⟨d,j,pl,O⟩:=I.list B;obtain⟨o,C,f,n,hd⟩:=pl.isList;exact J d "list" o n (.inl rfl) C f hd j
 ·obtain⟨d,j,pl,O⟩:=I.tuple B;obtain⟨o,C,f,n,hd⟩:=pl;exact J d "tuple" o n (.inr rfl) C f hd j
def OH:jI X (compareOp .Is) (λx y H Q=>∃a b,x=.bl a/\y=.bl b/\Q (.bl<|a == b) H):=by
 k_ne;obtain⟨a,b,rfl,rfl,q⟩:=h
 cases rx;cases ry
 exact is_bool ⟨.bl _,H,I,rfl,q⟩
def zu:g6 X (.type "range") (λxs H Q=>∃i j,xs=[.int i,.int j]/\∀p,H p=none->Q (.ref p) (upd H p<|.rng i j)):=by
 fin2;obtain⟨i,j,rfl,q⟩:=h;obtain⟨u,f,rfl,⟨t,rfl⟩,⟨d,rfl⟩⟩:=vals2 r;refine call_range_2 ⟨.ref s.heap.objs.size,_,I.laid (o:=.rng i j) (λb o e=>aK _ e) (aJ _) ?_,rfl,q _ I.fresh⟩;exact⟨t,d,s.toks,bz _ rfl⟩
abbrev iV (i j:Int):am:=(List.range (j-i).toNat).map λk:Nat=>i+(k:Int)
def kI(i j:Int):(iV i j).length=(j-i).toNat:=by unfold iV;rw[aH,List.length_range]
def vD{i:Int}{n:Nat}{acc:Array aa}(h:ItemsOf (λk v=>∃t,v=Value.int (i+(k:Int) * 1) t) acc n):Vals (((List.range n).map λk:Nat=>i+(k:Int)).map V.int) acc.toList:=by
 obtain⟨hs,hv⟩:=h;have d:∀(l:bd) (b:Nat),(∀j v,l[j]?=some v->∃t,v=Value.int (i+((b+j:Nat):Int)) t)->Vals (((List.range' b l.length).map λk:Nat=>i+(k:Int)).map V.int) l:=by
  intro l
  induction l with
  | nil=>intro b _;exact .nil
  | cons v l m=>
   intro b f;rw[bq,dg,bf,bf];refine .cons ?_ ?_
   ·obtain⟨t,e⟩:=f 0 v rfl;exact⟨t,by rw[e];simp⟩
   ·refine m (b+1) λj w hw=>?_;obtain⟨t,e⟩:=f (j+1) w hw;exact⟨t,by rw[e,show b+(j+1)=b+1+j by lia]⟩
 have:=d acc.toList 0 λj v g=>by
  obtain⟨t,e⟩:=hv j v (by simpa using g);exact⟨t,by rw[e,zero_add,Int.mul_one]⟩
 rw[cA,hs,<- c9]at this;exact this
def HB{i j:Int}:Builtin.Range.rangeSize i j 1=(((j-i).toNat:Nat):Int):=by rw[rangeSize_one];split<;>omega
def xr(hc:X.calm=true):g6 X (.type "list") (λxs H Q=>∃p i j,xs=[.ref p]/\H p=some (.rng i j)/\(-(2 ^ 62)<=i/\i<2 ^ 62/\-(2 ^ 62)<=j/\j<2 ^ 62)/\(j-i).toNat<=1000/\∀l,H l=none->Q (.ref l) (upd H l<|.lst<|(iV i j).map V.int)):=by
 fin2;obtain⟨p,i,j,rfl,hp,⟨G,B,k,C⟩,hn,q⟩:=h;kst_p
 cases rx
 obtain⟨t,J,v,e⟩:=I.hok p _ hp;refine call_list_range (n:=(j-i).toNat) (I.ok.hd hc) e (small_one G B k C) HB () λh' tk d m F g f=>?_;refine⟨.ref s.heap.objs.size,_,I.laid (o:=.lst<|(iV i j).map V.int) F (aJ _) ⟨?_,d.toList,m,vD f,by rw[g]⟩,rfl,q _ I.fresh⟩;rw[aH,kI,bH];lia
end
section
variable {X:Cx}
def Aq{prog:ah}{w:af}{A:az}{E:aa->aA->Prop}{s:aA}{Q:bd->aA->Prop}{r:aj}{a b c:Int}{v:Tok}{n:Nat}(hh:A.handled=none)(U:IsRange s.heap r a b c t u v)(J:Builtin.Range.small a b c=true)
  (hn:Builtin.Range.rangeSize a b c=n) (L:n<=2 ^ 24)
  (Z:∀h' tk (acc':Array aa),(∀b o,s.heap.get? b=some o->h'.get? b=some o)->ItemsOf (λi v=>∃t,v=.int (a+i * c) t) acc' n->Q acc'.toList { s with heap:=h',toks:=tk }) :
  wpAny (model prog w) A (collect<|.ref r) Q E s:=by
 unfold collect;refine aG<|wpAny_runValue<|codeAny_builtin F.entry_proto_collect ?_;rw[Around.under_plainId F.plain_proto_collect _]
 skip
 refine aG<|bQ ?_;refine aM ⟨plainId_quiet F.plain_list_iadd _,codeAny_builtin F.entry_list_iadd ?_⟩;rw[Around.under_plainId F.plain_list_iadd _]
 skip
 have B:(s.heap.push {}).get? s.heap.objs.size=some { cls:=.type "list",data:=.seq #[] 0 }:=bz _ rfl;have k:∀(h':ak) (tk:Nat) (acc':Array aa) (j:Nat),(∀b o,b≠s.heap.objs.size->(s.heap.push {}).get? b=some o->h'.get? b=some o) ->
   h'.get? s.heap.objs.size=some { cls:=.type "list",dict:=none,data:=.seq acc' j,slots:=#[]}->ItemsOf (λi v=>∃t,v=.int (a+i * c) t) acc' n ->
   wpAny (model prog w) A (match Value.ref s.heap.objs.size with
   | Value.ref a=>do
    match (<- load a).data with
     | Data.seq xs _=>pure xs.toList
     | _=>unsupported "internal:collect"
   | _=>unsupported "internal:collect") Q E { s with heap:=h',toks:=tk }:=by
  intro h' tk acc' j m g d
  skip
  refine aG<|wpAny_load g ?_;refine aM ?_;exact Z h' tk acc' (λb o e=>m b o (bh<|aP e)<|aK _ e) d
 refine bY (wpAny_extend_range (A:=A) (R:=λC s'=>C=.ok (.ret<|.ref s.heap.objs.size)/\∃h' tk acc' j,s'={ s with heap:=h',toks:=tk }/\(∀b o,b≠s.heap.objs.size->(s.heap.push {}).get? b=some o->h'.get? b=some o) /\
   h'.get? s.heap.objs.size=some { cls:=.type "list",dict:=none,data:=.seq acc' j,slots:=#[]}/\ItemsOf (λi v=>∃t,v=.int (a+i * c) t) acc' n)
  (s:={ s with heap:=s.heap.push {}}) hh (aK _ U) J hn L s.heap.objs.size (.ref s.heap.objs.size) 0 B
  (λh' tk acc' j m g d=>⟨rfl,h',tk,acc',j,rfl,m,g,d⟩)) (λp s' h=>?_) λe s' h=>?_
 ·cases p with
  | done f=>
   obtain⟨e,h',tk,acc',j,rfl,m,g,d⟩:=h
   cases e
   exact k h' tk acc' j m g d
  | again j=>exact⟨h.1,eF h.2 λr G U=>by
    obtain⟨rfl,h',tk,acc',j,rfl,m,g,d⟩:=U;exact k h' tk acc' j m g d⟩
 ·exact absurd h.1<|by simp
def qv(l:aj){a b:Int}{v:Tok}{n:Nat}(L:Builtin.Range.small a b 1=true)
  (hn:Builtin.Range.rangeSize a b 1=n) (U:n<=1000) :
  Meets (Builtin.«tuple.__new__» ⟨[.type "tuple",.ref l],[]⟩)
   (λA R s=>A.handled=none/\IsRange s.heap l a b 1 t u v/\∀(h':ak) (tk:Nat) (acc':Array aa),(∀b o',s.heap.get? b=some o'->h'.get? b=some o')->ItemsOf (λi v=>∃t,v=.int (a+i * 1) t) acc' n->R (.ok<|.ret<|.ref h'.objs.size) { s with heap:=h'.push { cls:=.type "tuple",data:=.seq acc' },toks:=tk }):=
 .of_wp λprog w A R s h=>by
  obtain⟨hp,g,d,tk,os⟩:=s;obtain⟨C,p,h⟩:=h;have B:=sub_tuple_self;have m:=init_tuple_lookup;have G:=madeHere_tuple;have F:Shared.TypeIs ⟨hp,g,d,tk,os⟩ (.ref l) "range" := ⟨_,p,rfl⟩;have j:A.in1.handled=none:=C
  wp_walk using AutoSeq1.wpAny_loadPart' p,wpAny_typeOf F,Aq (A:=A.in1) j p L hn (by omega)
  intro h' k acc' J f;show wpAny _ _ (Builtin.Tuple.tupleExact acc'.toList.toArray >>= λv=>ret v) _ _ _;unfold Builtin.Tuple.tupleExact;have e:acc'.toList.toArray=acc':=by simp
  refine aG (bQ ?_<|by show acc'.toList.toArray.size<=sizeLine;rw[e,f.1,bH];omega);refine aM ⟨_,rfl,?_⟩;rw[e];exact h h' k acc' J f
def wO(hc:X.calm=true):g6 X (.type "tuple") (λxs H Q=>∃p i j,xs=[.ref p]/\H p=some (.rng i j)/\(-(2 ^ 62)<=i/\i<2 ^ 62/\-(2 ^ 62)<=j/\j<2 ^ 62)/\(j-i).toNat<=1000/\∀l,H l=none->Q (.ref l) (upd H l<|.tup<|(iV i j).map V.int)):=by
 fin2;obtain⟨p,i,j,rfl,hp,⟨G,m,k,B⟩,hn,q⟩:=h;kst_p
 cases rx
 obtain⟨t,J,v,e⟩:=I.hok p _ hp;refine callType_new F.called_tuple ⋯ (F.typeCall_tuple_1 _) (F.newCall_tuple_1 _) (λobj=>F.args_object_init_2 obj _) F.entry_tuple_new
  (qv (n:=(j-i).toNat) p (small_one G m k B) HB hn) ⟨I.ok.hd hc,e,λh' tk d C f=>⟨⟨_,bz _ rfl,rfl⟩,?_⟩⟩
 have g:Inv X pins σ H { s with heap:=h',toks:=tk }:=I.kept C;refine⟨.ref h'.objs.size,_,g.laid (t':=tk) (o:=.tup<|(iV i j).map V.int) (λb o e=>aK _ e) (aJ _) ⟨?_,d.toList,vD f,?_⟩,rfl,q _<|g.hok.fresh<|aJ _⟩
 ·rw[aH,kI,bH];lia
 ·have e:d.toList.toArray=d:=by simp
  rw[e];exact kc.new _ _
abbrev TV (K:au)(te:TE):TE:=λσ H Q=>te σ H λx H1=>∃a xs,x=.ref a/\jM K H1 a xs/\∀p,H1 p=none->Q (.ref p) (upd H1 p<|.lst xs.reverse)
def L6{te:TE}{J cp:Pos}(L:PE X e te):PE X (.Subscript e (.Slice none none (some<|.UnaryOp .USub (.Constant (.int 1) kk cp) J) p2) pos) (TV X.K te):=by
 z_go;refine Subscript_<|iQ (L pins s σ H _ I h) λv F ⟨x,H1,C,r1,a,xs,ex,B,q⟩=>?_;subst ex
 cases r1
 refine wpAny_Slice ?_;rw[fR];refine aM ?_;refine aM ?_;rw[evalPart_some];refine iQ ((Jj (a:=.Constant (.int 1) kk cp) Ck Bw) pins F σ H1 (λv H'=>v=.int (-1)/\H'=H1) C ⟨1,rfl,rfl,rfl⟩) λG s3 h9=>?_;obtain⟨y,H3,m,j,p,k⟩:=h9;subst p k;obtain⟨t,rfl⟩:=j;have I4:Inv X pins σ H3 { s3 with heap:=s3.heap.push { cls:=.type "slice",data:=.fields #[.none,.none,.int (-1) t]}}:=m.kept (t':=s3.toks) λb ob q=>aK _ q;obtain⟨its,d,pl,g⟩:=I4.list B
 skip
 refine tail_any (ops:=[.ref a,.ref s3.heap.objs.size]) pl.isList.typeIs fM.lookup ?_ (by with_unfolding_all rfl);have f:=d.length;refine wpAny_getItem_list_slice pl.isList (fF ..) .none .none (.int (-1) t) ⋯ ?_ (by rw[aN]<;>lia);rw[PySem.W.krv_pick];refine⟨.ref _,_,I4.Iw (t':=s3.toks) (ys:=xs.reverse) (its:=its.reverse) d.reverse<|by rw[dc];exact g,rfl,q _ I4.fresh⟩
def Az{c:String}:g6 X (.builtin "isinstance") (λxs H Q=>∃x t b,xs=[x,.ty c]/\TyOf X.K H x t/\PySem.W.kitOne X.K t (.type c)=some b/\Q (.bl b) H):=by
 fin2;obtain⟨x,t,b,rfl,ty,e,q⟩:=h;obtain⟨u,f,rfl,rx,d⟩:=vals2 r
 cases d
 exact E4 I rx ty e λtk=>⟨.bl b,H,I.tok tk,rfl,q⟩
abbrev Ol (K:au):R2:=λx y H Q=>∃a b ys,x=.ref a/\y=.ref b/\kN K H a []/\kN K H b ys/\Q (.ref b) H
def Ib:jI X (binaryOp .Add) (Ol X.K):=by
 k_ne;obtain⟨a,b,ys,rfl,rfl,h1,F,q⟩:=h
 cases rx
 cases ry
 obtain⟨us,r1,p1,_⟩:=I.tuple h1;obtain⟨ws,r2,p2,_⟩:=I.tuple F
 cases r1
 obtain⟨⟨cls,dd,data,C⟩,B,hc,n,hd⟩:=id p1;obtain⟨⟨p,m,j,k⟩,f,g,G,d⟩:=id p2;simp only at hc hd g d;subst hc hd g d;exact concat_meets ⟨_,B,rfl⟩ ⟨_,f,rfl⟩ noFill_tuple_add seq_tuple_add eG eB (dY _ _)
   (tuple_addW0 a b _ ws.toArray n G dd m C k<|by simp) ⟨B,f,⟨.ref b,H,I,rfl,q⟩⟩
def vj{ys:ba}:∀{us:bd},Vals (ys.map V.str) us->StrsAre us ys:=by
 induction ys with
 | nil=>intro us r;cases r;exact .nil
 | cons b bs d=>
  intro us r
  cases r with
  | cons h t=>
   obtain⟨f,e⟩:=h;subst e;exact .cons b f<|d t
abbrev rJoin (K:au):V->List V->Hp->VK->Prop:=λx d H Q=>∃z p ys,x=.str z/\d=[.ref p]/\jM K H p (ys.map V.str)/\(ys.map (·.length)).sum+ys.length * z.length<=16777216/\Q (.str<|Txt.join z ys) H
def Mu:TZ X "str.join" (rJoin X.K):=by
 intro pins s σ H x C v us Q I rx f h;obtain⟨z,p,ys,rfl,rfl,j,d,q⟩:=h;kj_on;obtain⟨u,rfl,m⟩:=f.one
 cases m
 obtain⟨B,r,pl,_⟩:=I.list j;exact join_list pl.isList (vj r) d λg k=>⟨.str _,H,I.tok k,⟨g,rfl⟩,q⟩
end
def jd:bootBuiltins "len" = some (.builtin "len"):=by decide +kernel
def NS:bootBuiltins "abs" = some (.builtin "abs"):=by decide +kernel
def vZ:bootBuiltins "all" = some (.builtin "all"):=by decide +kernel
def NP:bootBuiltins "max" = some (.builtin "max"):=by decide +kernel
def P1:bootBuiltins "min" = some (.builtin "min"):=by decide +kernel
def Fx:bootBuiltins "sorted" = some (.builtin "sorted"):=by decide +kernel
def jF:bootBuiltins "isinstance" = some (.builtin "isinstance"):=by decide +kernel
def Bs:bootBuiltins "int" = some (.type "int"):=by decide +kernel
def Lr:bootBuiltins "bool" = some (.type "bool"):=by decide +kernel
def IE:bootBuiltins "str" = some (.type "str"):=by decide +kernel
def qm:bootBuiltins "list" = some (.type "list"):=by decide +kernel
def nO:bootBuiltins "tuple" = some (.type "tuple"):=by decide +kernel
def wQ:bootBuiltins "range" = some (.type "range"):=by decide +kernel
def K4:∀{a b:am},a.Perm b->a.Pairwise (·<=·)->b.Pairwise (·<=·)->a=b:=λp g d=>
 List.Perm.eq_of_pairwise (λx y _ _ h1 f=>Int.le_antisymm h1 f) g d p
def Lv(i j:Int):(iV i j).Pairwise (·<=·):=by
 unfold iV;rw[List.pairwise_map];exact List.pairwise_lt_range.imp λh=>()
def Hu{i j k:Int}:k∈iV i j ↔ i<=k/\k<j:=by
 unfold iV;rw[bR];constructor
 ·rintro⟨a,d,rfl⟩;have:=eE.mp d;omega
 ·rintro⟨h1,f⟩;exact⟨(k-i).toNat,eE.mpr<|by omega,by omega⟩
abbrev Kn (P:ah)(w:af)(K:au)(mg:Str->bi)(base:ak)(k:Nat)(x:Str)(ps:ba)(sp:Sp):Prop:=
 ∃(f:aj) (fd:FuncData),FnOk P w K mg base qA k f fd ps sp/\mg x=some (.ref f)/\PySem.W.keepIn K (.ref f)=true/\Binds K fd ps []
def RH{X:Cx}{k:Nat}{x:Str}{ps:ba}{sp:Sp}{t:TA}{p:Pos}(G:Kn X.prog X.w X.K X.mg X.base k x ps sp)(U:Room k X.A)(Z:PA X (e::es) t)(hg:Gl X x<|>ε)
  (L:(x == ("__debug__" : Str))=false<|>δ) (hs:starEach (e::es) X.env=(false,eval e X.env)::starEach es X.env<|>ε) (J:((backTo pos<|starEach es X.env).any (·.1)=false)<|>ε) :
  PE X (.Call (.Name x p) (e::es) [] pos) (ML sp [] E0 t):=by
 obtain⟨f,fd,F,j,d,g⟩:=G;exact CA F U hg j d g .nil MM Z L hs J
abbrev vA (J fs:ba):ba->List (bp)->Prop
 | [],[]=>True
 | _::N,none::c=>vA J fs N c
 | x::N,some j::c=>J[j]?=some x/\x∈fs/\vA J fs N c
 | _,_=>False
theorem vA.len{fs:ba}:∀{N:ba}{c:List<|bp},vA XN fs N c->c.length=N.length
 | [],[],_=>rfl
 | _::N,none::c,h=>cO (·+1) (vA.len (N:=N) (c:=c) h)
 | _::N,some j::c,h=>cO (·+1) (vA.len (N:=N) (c:=c) h.2.2)
 | [],_::_,h=>h.elim
 | _::_,[],h=>h.elim
theorem vA.cp{fs:ba}:∀{N:ba}{c:List<|bp},vA XN fs N c->∀(i j:Nat) (x:Str),N[i]?=some x->c[i]?=some (some j)->XN[j]?=some x/\x∈fs
 | [],[],_,i,j,x,h1,_=>by simp at h1
 | y::N,none::c,h,i,j,x,h1,h2=>by
  cases i with
  | zero=>simp at h2
  | succ i=>exact vA.cp (N:=N) (c:=c) h i j x (by simpa using h1)<|by simpa using h2
 | y::N,some k::c,h,i,j,x,h1,h2=>by
  cases i with
  | zero=>
   simp at h1 h2;subst h1 h2;exact⟨h.1,h.2.1⟩
  | succ i=>exact vA.cp (N:=N) (c:=c) h.2.2 i j x (by simpa using h1)<|by simpa using h2
 | [],_::_,h,_,_,_,_,_=>h.elim
 | _::_,[],h,_,_,_,_,_=>h.elim
def rY{X:Cx}{scope:Scope}{N:ba}(fs:ba)(kind:scope.kind=.function)(nocf:∀y∈scope.names,y.2=.cell->scope.names.lookup y.1=some .cell/\(y.1,NameKind.free)∉scope.names)(nm:∀y∈scope.names,y.2=.local->scope.names.lookup y.1=some .local)
  (nolf:∀y∈scope.names,y.2=.free->scope.names.lookup y.1≠some .local) (hf:∀y∈scope.names,y.2=.free->y.1∈fs) (J:∀x∈fs,(x,NameKind.free)∈scope.names) (L:∀x∈fs,X.env.kindOf x=some .cell\/X.env.kindOf x=some .free) (cp:vA X.N fs N cap):CpScope X scope N cap where
 kind:=kind
 nocf:=λx hf hc=>(nocf (x,.cell) hc rfl).2 hf
 nm:=nm
 fr:=λy hy e=>L _ (hf y hy e)
 rl:=λy h=>by
  have g:∀k,(k=NameKind.cell\/k=NameKind.free)->(relabel scope X.env).names.lookup y=some k->(y,NameKind.free)∈scope.names\/scope.names.lookup y=some .cell:=λk L e=>by
   obtain⟨⟨C,m⟩,f,d⟩:=bR.mp<|wo e;dsimp only at d;split at d
   ·rename_i hc
    cases d
    have:m=.free:=by
     dsimp[cg]at hc;simpa using hc.1.1
    subst this;exact .inl f
   ·cases d
    rcases L with rfl|rfl
    ·exact .inr (nocf _ f rfl).1
    ·exact .inl f
  rcases h with h|h
  ·exact g _ (.inl rfl) h
  ·exact g _ (.inr rfl) h
 len:=cp.len
 nolf:=λx p=>nolf (x,.free) p rfl
 cp:=λi j x h1 B=>by
  obtain⟨a,b⟩:=cp.cp i j x h1 B;exact⟨a,J x b⟩
inductive Kd where
 | non|bl|int|str|lst|tup
 deriving DecidableEq
abbrev Kd.ty:Kd->aa
 | .non=>.type "NoneType" | .bl=>.type "bool" | .int=>.type "int" | .str=>.type "str" | .lst=>.type "list" | .tup=>.type "tuple"
abbrev OS (H:Hp)(x:V):Kd->Prop
 | .non=>x=.non
 | .bl=>∃b,x=.bl b
 | .int=>∃i,x=.int i
 | .str=>∃s,x=.str s
 | .lst=>∃a xs,x=.ref a/\H a=some (.lst xs)
 | .tup=>∃a xs,x=.ref a/\H a=some (.tup xs)
def OS.Uq{K:au}{H:Hp}{x:V}{k:Kd}(h:OS H x k):TyOf K H x k.ty:=by
 cases k with
 | non=>cases h;exact .non
 | bl=>obtain⟨b,rfl⟩:=h;exact .bl b
 | int=>obtain⟨b,rfl⟩:=h;exact .int b
 | str=>obtain⟨b,rfl⟩:=h;exact .str b
 | lst=>obtain⟨a,xs,rfl,e⟩:=h;exact .lst e
 | tup=>obtain⟨a,xs,rfl,e⟩:=h;exact .tup e
def LL{K:au}(k:Kd):PySem.W.kitOne K k.ty (.type "int")=some (decide<|k=.int\/k=.bl):=by cases k<;>rfl
def J5{K:au}(k:Kd):PySem.W.kitOne K k.ty (.type "bool")=some (decide<|k=.bl):=by cases k<;>rfl
def kit_tuple{K:au}(k:Kd):PySem.W.kitOne K k.ty (.type "tuple")=some (decide<|k=.tup):=by cases k<;>rfl
def J1{K:au}(k:Kd):PySem.W.kitOne K k.ty (.type "list")=some (decide<|k=.lst):=by cases k<;>rfl
section
variable {prog:ah}{w:af}{A:az}{E:aa->aA->Prop}{s:aA}
def Bo(n:Nat):Builtin.Slice.sliceAdjust none none (-1) (n:Int)=((n:Int)-1,-1):=by
 unfold Builtin.Slice.sliceAdjust;rfl
def Cc(n:Nat):Builtin.Slice.slicePlaces ((n:Int)-1) (-1) (-1)=n:=by
 unfold Builtin.Slice.slicePlaces;have h1:¬((-1:Int)>0):=by decide
 dsimp[h1,dO];by_cases h:n=0
 ·subst h;simp
 ·rw[aR ()];rw[show(- -1:Int)=1 by decide,Int.ediv_one]
  lia
def sQ{n:Nat}{Q:Int×Int×Nat->aA->Prop}(hs:s.heap.IsSliceOf sl .none .none<|.int (-1) t)
  (h:Q ((n:Int)-1,-1,n) s):wpAny (model prog w) A (Builtin.Slice.sliceApplied (.ref sl)<|pure (n:Int)) Q E s:=by
 obtain⟨os,f,g,d⟩:=id hs;unfold Builtin.Slice.sliceApplied Builtin.Slice.sliceFields;refine aG<|aG<|c7 f d (x:=.none) rfl<|aG<|c7 f d (x:=.none) rfl<|aG<|c7 f d (x:=.int (-1) t) rfl<|aM ?_;refine aG (slicePart_int ?_)
 skip
 rw[aO ⋯];refine aG<|slicePart_none<|aG<|slicePart_none<|aG<|aM ?_;show wpAny _ _ (match Builtin.Slice.sliceAdjust none none (-1) (n:Int)with|(lo,hi)=>pure (lo,(-1:Int),Builtin.Slice.slicePlaces lo hi<|-1)) _ _ s;rw[Bo n];show wpAny _ _ (pure ((n:Int)-1,(-1:Int),Builtin.Slice.slicePlaces ((n:Int)-1) (-1)<|-1)) _ _ s;rw[Cc];exact aM h
def JA(xs:Array aa):((List.range xs.size).filterMap λ(m:Nat)=>xs[((xs.size:Int)-1+(m:Int) * (-1)).toNat]?).toArray=xs.toList.reverse.toArray:=by
 have e:(λ(m:Nat)=>xs[((xs.size:Int)-1+(m:Int) * (-1)).toNat]?)=(λx=>xs[x]?) ∘ λk=>xs.size-1-k:=by
  funext m
  have:((xs.size:Int)-1+(m:Int) * (-1)).toNat=xs.size-1-m:=()
  show xs[((xs.size:Int)-1+(m:Int) * (-1)).toNat]?=xs[xs.size-1-m]?;rw[this]
 rw[e,<- List.filterMap_map,PySem.W.krv_range,List.filterMap_reverse,PySem.W.krv_all]
def r8{J:Array aa}{Q:aa->aA->Prop}(L:IsTup s.heap t J)(hs:s.heap.IsSliceOf sl .none .none<|.int (-1) tk)
  (h:Q (.ref s.heap.objs.size) { s with heap:=s.heap.push { cls:=.type "tuple",data:=.seq J.toList.reverse.toArray }})
  (hsz:J.size<=sizeLine):wpAny (model prog w) A (getItem (.ref t)<|.ref sl) Q E s:=by
 have d:sizeOk (.seq J.toList.reverse.toArray):=by
  show J.toList.reverse.toArray.size<=sizeLine;rw[aN,dc,cA];exact hsz
 obtain⟨os,k,g,p⟩:=id hs;have j:s.TypeIs (.ref sl) "slice" := ⟨os,k,g⟩;unfold getItem
 try with_reducible refine b_ ?_
 first|refine aG (aM ?_)|skip
 refine aG<|wpAny_sequenceKey L.typeIs ⋯ ?_;refine aG (wpAny_callSpecial?_slot (name:=Str.ofString "__getitem__") L.typeIs bU
  (wpAny_call_entry bU L.typeIs entry_tuple_getitem ?_<|args_tuple_getitem _ _))
 show wpAny _ _ (Builtin.Tuple.tupleItemsOf (.ref t) >>= _) _ _ s;refine aG<|tupleItemsOf_ L ?_;refine aG<|wpAny_typeOf j ?_;rw[aR ⋯];refine aG<|sQ hs ?_;have f:¬((((J.size:Int)-1) == 0 && (-1:Int) == 1 && J.size == J.size)=true):=by
  intro q;rw[cg,cg]at q;exact absurd q.1.2 ⋯
 show wpAny _ _ (if (((J.size:Int)-1) == 0 && (-1:Int) == 1 && J.size == J.size)=true then _ else _) _ _ s;rw[aO f,JA]
 first
  | exact aG (m:=Builtin.Tuple.tupleExact _) (bQ (aM ⟨_,rfl,aM h⟩) d)
  | exact aG (m:=Builtin.Tuple.tupleExact _) (bQ (aG<|aM<|aM ⟨_,rfl,aM h⟩) d)
  | exact aG (aG (m:=Builtin.Tuple.tupleExact _)<|bQ (aM<|aM ⟨_,rfl,aM h⟩) d)
  | exact aG<|aG (m:=Builtin.Tuple.tupleExact _)<|bQ (aM ⟨_,rfl,aM h⟩) d
end
section
variable {X:Cx}
abbrev Qv (K:au)(te:TE):TE:=λσ H Q=>te σ H λx H1=>∃a xs,x=.ref a/\kN K H1 a xs/\∀p,H1 p=none->Q (.ref p) (upd H1 p<|.tup xs.reverse)
def Dy{te:TE}{U cp:Pos}(Z:PE X e te):PE X (.Subscript e (.Slice none none (some<|.UnaryOp .USub (.Constant (.int 1) kk cp) U) p2) pos) (Qv X.K te):=by
 z_go;refine Subscript_<|iQ (Z pins s σ H _ I h) λv J ⟨x,H1,G,r1,a,xs,ex,F,q⟩=>?_;subst ex
 cases r1
 refine wpAny_Slice ?_;rw[fR];refine aM ?_;refine aM ?_;rw[evalPart_some];refine iQ ((Jj (a:=.Constant (.int 1) kk cp) Ck Bw) pins J σ H1 (λv H'=>v=.int (-1)/\H'=H1) G ⟨1,rfl,rfl,rfl⟩) λL s3 h9=>?_;obtain⟨y,H3,B,m,C,p⟩:=h9;subst C p;obtain⟨t,rfl⟩:=m;have f:Inv X pins σ H3 { s3 with heap:=s3.heap.push { cls:=.type "slice",data:=.fields #[.none,.none,.int (-1) t]}}:=B.kept (t':=s3.toks) λb ob q=>aK _ q;obtain⟨d,g,pl,k⟩:=f.tuple F
 skip
 refine tail_any (ops:=[.ref a,.ref s3.heap.objs.size]) pl.typeIs bU.lookup ?_ (by with_unfolding_all rfl);have j:=g.length;refine r8 pl (fF ..) ?_ (by rw[aN]<;>lia);refine⟨.ref _,_,f.laid (t':=s3.toks) (o:=.tup xs.reverse) (λb o e=>aK _ e) (aJ _) ⟨by rw[dc];exact k,d.reverse,g.reverse,?_⟩,rfl,q _ f.fresh⟩;exact kc.new _ _
end
end L2
namespace L2
open PySem PySem.Spec PyProof.Rows
open PySem.SeqAt
open PySem.AutoSeq1 (wpAny_loadPart')
open PySem.MeetsSeq PySem.MeetsSeq2 PySem.MeetsSeq3 PySem.SeqAt
section
variable {X:Cx}
def G1:jI X (binaryOp .FloorDiv) (rI (λ_ j=>0<j/\j<18446744073709551616) λi j=>.int<|i / j):=Sq λi j _ _ _ _ _ hc q=>by
 have h1:(0:Int)<j:=hc.1;have d:j<18446744073709551616:=hc.2;refine floordiv_int (by omega) (by rw[Int.fdiv_eq_ediv_of_nonneg i<|by omega];exact q)<|.inl<|PyProof.noPylong_of_log2 ?_;exact aY ((log2_lt<|by omega).mpr<|show j.natAbs<2 ^ 64 by omega) ⋯
end
end L2
namespace L2
open PySem PySem.Spec PyProof.Rows
abbrev TY (x:Str):It:=⟨λi _=>i<x.cps.size,λi H v H'=>H'=H/\∃c,x.cps[i]?=some c/\v=.str ⟨#[c]⟩,λi _=>i=x.cps.size⟩
def GL{P:ah}{w:af}{K:au}(x:Str)(t:Tok)(it:aj):Turn P w K tg (TY x) [it] it (λi h=>h.IsStrIter it "str_ascii_iterator" x t i) where
 mem:=by simp
 obj:=λi h st b f=>by
  have e:b=it:=by simpa using f
  subst e;obtain⟨o,e,c,d⟩:=st;exact⟨o,e,λv z=>by rw[d]at z;cases z⟩
 keep:=λi h h' st k=>let⟨o,ho,r⟩:=st;⟨o,k it (by simp) o ho,r⟩
 item:=by
  w_up;subst hP hw hK;kd_p;have W:=Walks.strAscii (prog:=X.prog) (w:=X.w) (I.ok.hd hc) it x t;refine W.item i s _ _ hg st λv h' tk hv g j=>?_;obtain⟨c,u,m,rfl⟩:=hv;have B:Inv X pins σ H { s with heap:=h',toks:=tk }:=I.turned (λb o f e=>j b o (by simpa using f) e) f0 f1 f3 f4 f5;obtain⟨o,e,p,d⟩:=id g;exact⟨_,rfl,Cw (s:={ s with heap:=h',toks:=tk }) e p d ⋯ ⟨.str ⟨#[c]⟩,H,B,⟨u,rfl⟩,⟨rfl,c,m,rfl⟩,g,λb f=>(hf b f).1⟩⟩
 done:=by
  w_up;subst hP hw hK;kd_p;have hg:i=x.cps.size:=hg;subst hg;have W:=Walks.strAscii (prog:=X.prog) (w:=X.w) (I.ok.hd hc) it x t;exact W.done s _ _ st λh' tk j=>⟨rfl,I.turned (λb o f e=>j b o (by simpa using f) e) f0 f1 f3 f4 f5⟩
 self:=λ_ _ _ _ _ st h=>wpAny_pyIter_striter_ascii st h
section
variable {X:Cx}{tg:aE}
abbrev Ti (tl:TE):TI:=λσ H R=>tl σ H λx H1=>∃y:Str,x=.str y/\y.cps.all (· < 128)=true/\R (TY y) H1
def Qc{l:aE}{tl:TE}(J:PE X l tl):PI X tg l (Ti tl):=by
 intro pins s σ H R I h;refine iQ (J pins s σ H _ I h) λv d h9=>?_;obtain⟨x,H1,I1,r1,j⟩:=h9;obtain⟨y,e,g,q⟩:=j;subst e;obtain⟨t,rfl⟩:=r1;refine wpAny_pyIter_ascii g ?_;refine⟨d.heap.objs.size,[d.heap.objs.size],_,_,H1,rfl,I1.kept (t':=d.toks) λb o e=>aK _ e,GL y t _,⟨_,bz _ rfl,rfl,rfl⟩,λb f=>?_,q⟩;have e:b=d.heap.objs.size:=by simpa using f
 subst e;exact I1.B5 (aJ _)<|I1.hok.fresh<|aJ _
theorem qC:∀(tk:Nat) (ys:ba),Vals (ys.map V.str) (strValues<|numbered tk ys)
 | _,[]=>.nil
 | tk,y::ys=>.cons ⟨tk,rfl⟩<|qC (tk+1) ys
def GH:Bf X "str.split" (λx xs H Q=>∃y z:Str,x=.str y/\xs=[.str z]/\(z.length == 0)=false/\y.length<=sizeLine/\(Txt.split y z).length<=sizeLine/\∀p,H p=none->Q (.ref p) (upd H p<|.lst<|(Txt.split y z).map V.str)):=by
 intro pins s σ H x xs v us Q I rx m h;obtain⟨y,z,rfl,rfl,j,hy,k,q⟩:=h;kj_on;obtain⟨w,rfl,g⟩:=vals1 m;obtain⟨u,rfl⟩:=g;have f:∀(d:Nat) (l:List<|Str×Tok),l.map (·.1)=Txt.split y z->Vals ((Txt.split y z).map V.str) (strValues l)->EP X pins σ Q (.ref s.heap.objs.size) { s with toks:=d,heap:=s.heap.push { cls:=.type "list",data:=.seq (strValues l).toArray }}:=λd l e r=>
  ⟨.ref s.heap.objs.size,_,I.laid (t':=d) (o:=.lst<|(Txt.split y z).map V.str) (λb ob q=>aK _ q) (aJ _) ⟨by rw[aH];exact k,_,_,r,bz _ rfl⟩,rfl,q _<|I.hok.fresh<|aJ _⟩
 cases h1:(decide (y.length<z.length) || decide (Builtin.Str.strKind y<Builtin.Str.strKind z))
 ·cases hf:(Builtin.Str.occurrences y z 0 y.length<|y.length+1).isEmpty
  ·have es:Txt.split y z=Builtin.Str.partsBetween y (Builtin.Str.occurrences y z 0 y.length<|y.length+1) z.length:=(aO<|fB h1).trans<|aO<|fB hf;refine ef F.slot_str_split (fG _ _ _) fN (fH _ _) (meets_str_split_sep y z t u h1 j hf hy<|by rw[<- es];exact k) ?_
   skip
   rw[strsFrom_eq];exact f _ (numbered s.toks _) ((numbered_texts _ _).trans es.symm)<|by rw[es];exact qC _ _
  ·have es:Txt.split y z=[y]:=(aO<|fB h1).trans<|aR hf;exact ef F.slot_str_split (fG _ _ _) fN (fH _ _) (meets_str_split_not_found y z t u h1 j hf)<|f s.toks [(y,t)] es.symm<|by rw[es];exact .cons ⟨t,rfl⟩ .nil
 ·have es:Txt.split y z=[y]:=aR h1;exact ef F.slot_str_split (fG _ _ _) fN (fH _ _) (meets_str_split_cannot_occur y z t u h1)<|f s.toks [(y,t)] es.symm<|by rw[es];exact .cons ⟨t,rfl⟩ .nil
def xg:Bf X "str.startswith" (λx xs H Q=>∃y z:Str,x=.str y/\xs=[.str z]/\Q (.bl<|0+z.length<=y.length && Builtin.Str.subAt y z 0) H):=by
 intro pins s σ H x xs v us Q I rx f h;obtain⟨y,z,rfl,rfl,q⟩:=h;kj_on;obtain⟨w,rfl,d⟩:=vals1 f;obtain⟨u,rfl⟩:=d;exact ef F.slot_str_startswith (fG _ _ _) F.entry_str_startswith (F.args_str_startswith_2 _ _) (gives_str_startswith y z t u).meets ⟨.bl _,H,I,rfl,q⟩
def Fd:g6 X (.type "int") (λxs H Q=>∃(y:Str) (n:Int),xs=[.str y]/\y.length<=640/\PySem.intText? y=some n/\Q (.int n) H):=by
 intro pins s σ H xs us Q I f h;obtain⟨y,n,rfl,g,hn,q⟩:=h;obtain⟨w,rfl,d⟩:=vals1 f;obtain⟨u,rfl⟩:=d;exact PySem.W.KIN.call_text hn g ⟨.int n,H,I.tok _,⟨_,rfl⟩,q⟩
end
section
variable {κ:Type}[DecidableEq κ]
abbrev n_ (kvs:List<|κ×V)(k:κ):Option V:=(kvs.find? λd=>decide<|d.1=k).map (·.2)
abbrev putK (kvs:List<|κ×V)(k:κ)(v:V):List (κ×V):=
 if (kvs.any λd=>decide<|d.1=k)=true then kvs.map (λd=>if d.1=k then(d.1,v)else d)else kvs++[(k,v)]
abbrev uB (kvs:List<|κ×V)(k:κ):List (κ×V):=kvs.filter λd=>decide<|d.1≠k
def sy{p:κ×V}{r:List<|κ×V}{k:κ}(e:p.1=k):n_ (p::r) k=some p.2:=by simp[n_,cF,e]
def sA{p:κ×V}{r:List<|κ×V}{k:κ}(e:¬p.1=k):n_ (p::r) k=n_ r k:=by simp[n_,cF,e]
theorem wV(k:κ):∀kvs:List<|κ×V,(kvs.any λkv=>decide<|kv.1=k)=(n_ kvs k).isSome
 | []=>rfl
 | p::r=>by
  rw[dB];by_cases e:p.1=k
  ·dsimp[sy e,bB e,Bool.true_or,eg]
  ·rw[sA e,bE e,Bool.false_or];exact wV k r
def uJ(kvs:List<|κ×V)(k:κ)(v:V):(putK kvs k v).length<=kvs.length+1:=by
 unfold putK;split
 ·rw[aH];lia
 ·rw[aU,bq,List.length_nil];lia
def oV.lD{o:Option V}{u:bi}(r:oV o u):o.isSome=u.isSome:=by
 cases o with
 | none=>cases u with
  | none=>rfl
  | some _=>exact(show False from r).elim
 | some _=>cases u with
  | none=>exact(show False from r).elim
  | some _=>rfl
def oV.getD{o:Option V}{u:bi}{d:V}(r:oV o u)(j:RelV d d'):RelV (o.getD d) (u.getD d'):=by
 cases o with
 | none=>cases u with
  | none=>exact j
  | some _=>exact(show False from r).elim
 | some _=>cases u with
  | none=>exact(show False from r).elim
  | some _=>exact r
def KV.val(r:KV kvs vs)(k:κ):oV (n_ kvs k) (valueAt vs k):=by
 unfold KV at r
 induction r with
 | nil=>exact True.intro
 | @cons p q ps d h t g=>
  obtain⟨h1,j⟩:=h;by_cases e:p.1=k
  ·have f:q.1=k:=h1.symm.trans e;have b:valueAt (q::d) k=some q.2:=by simp[valueAt,cF,f]
   rw[sy e,b];exact j
  ·have f:¬q.1=k:=λz=>e<|h1.trans z;have b:valueAt (q::d) k=valueAt d k:=by simp[valueAt,cF,f]
   rw[sA e,b];exact g
def KV.any{kvs:List<|κ×V}{vs:List<|κ×aa}(r:KV kvs vs)(k:κ):(kvs.any λkv=>decide<|kv.1=k)=vs.any λkv=>decide (kv.1=k):=by
 unfold KV at r
 induction r with
 | nil=>rfl
 | cons h t d=>rw[dB,dB,d,h.1]
def KV.repl{kvs:List<|κ×V}{vs:List<|κ×aa}(r:KV kvs vs)(k:κ)(ry:RelV y u) :
  KV (kvs.map λkv=>if kv.1=k then(kv.1,y)else kv) (vs.map λkv=>if kv.1=k then(kv.1,u)else kv):=by
 unfold KV at r ⊢
 induction r with
 | nil=>exact .nil
 | @cons p q ps g h t d=>
  rw[bf,bf];refine .cons ?_ d;obtain⟨h1,f⟩:=h;by_cases e:p.1=k
  ·rw[aR e,aR<|h1.symm.trans e];exact⟨h1,ry⟩
  ·rw[aO e,aO λz=>e<|h1.trans z];exact⟨h1,f⟩
def KV.put(r:KV kvs vs)(k:κ)(ry:RelV y u):KV (putK kvs k y) (stored vs k u):=by
 unfold putK stored;rw[r.any k];by_cases e:(vs.any λd=>decide<|d.1=k)=true
 ·rw[aR e,aR e];exact r.repl k ry
 ·rw[aO e,aO e];exact Paired.snoc r ⟨rfl,ry⟩
def KV.drop(r:KV kvs vs)(k:κ):KV (uB kvs k) (without vs k):=by
 unfold KV at r ⊢;unfold uB without
 induction r with
 | nil=>exact .nil
 | @cons p q ps j h t d=>
  obtain⟨h1,f⟩:=h;rw[dW,dW];by_cases e:p.1=k
  ·have a:¬decide (p.1≠k)=true:=by simp[e]
   have b:¬decide (q.1≠k)=true:=by simp[h1.symm.trans e]
   rw[aO a,aO b];exact d
  ·have g:¬q.1=k:=λz=>e<|h1.trans z;have a:decide (p.1≠k)=true:=by simp[e]
   have b:decide (q.1≠k)=true:=by simp[g]
   rw[aR a,aR b];exact .cons ⟨h1,f⟩ d
def KV.length{kvs:List<|κ×V}{vs:List<|κ×aa}(r:KV kvs vs):kvs.length=vs.length:=fQ r
def z_(kvs:List<|κ×V)(k:κ):(uB kvs k).length<=kvs.length:=eV _ _
end
def oU{P:ah}{w:af}{k:Key}(r:RelV (kV k) u):(g9 P w).is k u=true:=by
 cases k with
 | inl i=>obtain⟨t,e⟩:=(show ∃t,u=Value.int i t from r);subst e;exact AM P w i t
 | inr x=>obtain⟨t,e⟩:=(show ∃t,u=Value.str x t from r);subst e;exact Ay P w x t
theorem yq{P:ah}{w:af}:∀{ks:List Key}{us:bd},Vals (ks.map kV) us->ItemsAre (g9 P w) ks us
 | [],_,r=>by rw[fX]at r;cases r;exact .nil
 | k::ks,_,r=>by
  rw[bf]at r
  cases r with
  | cons h t=>exact .cons (oU h)<|yq t
meta abbrev KT (H:Hp):List (List Key×V)->List (List Key×aj×aa)->Prop:=Paired λp q=>p.1=q.1/\H q.2.1=some (.tup<|p.1.map kV)/\RelV p.2 q.2.2
def KT.val{H:Hp}(r:KT H kvs xs)(k:List Key):oV (n_ kvs k) ((atKey xs k).map (·.2)):=by
 induction r with
 | nil=>exact True.intro
 | @cons p q ps d h t g=>
  obtain⟨h1,_,j⟩:=h;by_cases e:p.1=k
  ·have f:q.1=k:=h1.symm.trans e;have b:atKey (q::d) k=some q.2:=by simp[atKey,cF,f]
   rw[sy e,b];exact j
  ·have f:¬q.1=k:=λz=>e<|h1.trans z;have b:atKey (q::d) k=atKey d k:=by simp[atKey,cF,f]
   rw[sA e,b];exact g
def KT.repl{H:Hp}{kvs:List<|List Key×V}{xs:List<|List Key×aj×aa}(r:KT H kvs xs)(k:List Key)(ry:RelV y u) :
  KT H (kvs.map λkv=>if kv.1=k then(kv.1,y)else kv) (xs.map<|putAt k u):=by
 induction r with
 | nil=>exact .nil
 | @cons p q ps j h t f=>
  rw[bf,bf];refine .cons ?_ f;obtain⟨h1,d,g⟩:=h;unfold putAt;by_cases e:p.1=k
  ·rw[aR e,aR<|h1.symm.trans e];exact⟨h1,d,ry⟩
  ·rw[aO e,aO λz=>e<|h1.trans z];exact⟨h1,d,g⟩
def KT.put{H:Hp}(r:KT H kvs xs)(k:List Key)(hb:H b=some (.tup<|k.map kV))(ry:RelV y u) :
  KT H (putK kvs k y) (storedH xs k b u):=by
 have e:(kvs.any λd=>decide<|d.1=k)=(atKey xs k).isSome:=by
  rw[wV,(r.val k).lD,eN]
 unfold putK storedH;rw[e];by_cases q:(atKey xs k).isSome=true
 ·rw[aR q,aR q];exact r.repl k ry
 ·rw[aO q,aO q];exact Paired.snoc r ⟨rfl,hb,ry⟩
def KT.keeps{H H':Hp}(r:KT H kvs xs)(j:∀b ys,H b=some (.tup ys)->H' b=some (.tup ys)):KT H' kvs xs:=
 Paired.NW r λ_ _ z=>⟨z.1,j _ _ z.2.1,z.2.2⟩
section
variable {P:ah}{w:af}{H:Hp}{h:ak}{a:aj}
def MJ(ok:qh P w H h)(e:Rd H a u):iS P w H h a u:=e.ok ok
def uI{kvs:List<|Key×V}(ok:qh P w H h)(e:Rd H a<|.dK kvs):kvs.length<=sizeLine/\(a == sysModules)=false/\∃vs,KV kvs vs/\h.DictOf (g9 P w) a vs:=
 show iS P w H h a (.dK kvs)from MJ ok e
def Ea{kvs:List<|Key×V}(ok:qh P w H h)(e:H a=some (.dK kvs)):kvs.length<=sizeLine/\(a == sysModules)=false/\∃vs,KV kvs vs/\h.DictOf (g9 P w) a vs:=uI ok<|.inl e
def rz{ks:List Key}(ok:qh P w H h)(e:H a=some (.tup<|ks.map kV)):(tupleKind<|g9 P w).is h ks a:=by
 obtain⟨_,d,r,o,h1,f,_,n,g⟩:=(show iS P w H h a (.tup<|ks.map kV)from ok a _ e);exact⟨o,d.toArray,n,h1,f,g,by simpa using yq r⟩
def wK{kvs:List<|List Key×V}(ok:qh P w H h)(e:Rd H a<|.dT kvs):kvs.length<=sizeLine/\(a == sysModules)=false /\
  ∃xs,KT H kvs xs/\h.DictOfH (tupleKind<|g9 P w) a xs:=by
 obtain⟨z,y,xs,r,o,es,j,h1,g,B,F,k⟩:=(show iS P w H h a (.dT kvs)from MJ ok e);refine⟨z,y,xs,r,o,es,j,h1,g,B,F,λx d=>?_,k⟩;have all:∀{l:List<|List Key×V} {m:List<|List Key×aj×aa},KT H l m->∀x∈m,(tupleKind<|g9 P w).is h x.1 x.2.1:=by
  intro l m q
  induction q with
  | nil=>intro x d;exact nomatch d
  | @cons p q ps G f t C=>
   intro x d
   rcases bJ.mp d with e|d
   ·subst e;exact rz ok (by rw[<- f.1];exact f.2.1)
   ·exact C x d
 exact all r x d
def RE{kvs:List<|List Key×V}(ok:qh P w H h)(e:H a=some (.dT kvs)):kvs.length<=sizeLine/\(a == sysModules)=false /\
  ∃xs,KT H kvs xs/\h.DictOfH (tupleKind<|g9 P w) a xs:=wK ok<|.inl e
end
abbrev pZ (H:Hp)(a:aj)(y:V)(r:Option V):Prop:=
 (∃kvs k,Rd H a (.dK kvs)/\y=kV k/\r=n_ kvs k)\/∃kvs k b,Rd H a (.dT kvs)/\y=.ref b/\H b=some (.tup<|k.map kV)/\r=n_ kvs k
abbrev JP (H:Hp)(a:aj)(y v:V)(H':Hp):Prop:=
 (∃kvs k,H a=some (.dK kvs)/\y=kV k/\kvs.length<sizeLine/\H'=upd H a (.dK<|putK kvs k v)) \/
 ∃kvs k b,H a=some (.dT kvs)/\y=.ref b/\H b=some (.tup<|k.map kV)/\kvs.length<sizeLine/\H'=upd H a (.dT<|putK kvs k v)
theorem pZ.k{H:Hp}{a:aj}{k:Key}(e:H a=some (.dK kvs)):pZ H a (kV k) (n_ kvs k):=.inl ⟨kvs,k,.inl e,rfl,rfl⟩
theorem JP.k{H:Hp}{a:aj}{kvs:List<|Key×V}{k:Key}{v:V}(e:H a=some (.dK kvs))(j:kvs.length<sizeLine):JP H a (kV k) v (upd H a<|.dK<|putK kvs k v):=.inl ⟨kvs,k,e,rfl,j,rfl⟩
section
variable {X:Cx}{pins:bt}{σ:St}{H:Hp}{s:aA}{a:aj}{y v:V}{u r:aa}{o:Option V}{A:az}{E:aa->aA->Prop}
def Inv.big(I:Inv X pins σ H s):sysModules<s.heap.objs.size:=by
 have h:mainGlobals<s.heap.objs.size:=(I.mod.glob.keeps I.bk).lt;exact Nat.lt_trans ⋯ h
def E9{Q:aa->aA->Prop}(J:A.units+1<cLine)(I:Inv X pins σ H s)(g:pZ H a y<|some v)(ry:RelV y u)(h:∀w' s',Inv X pins σ H s'->RelV v w'->Q w' s') :
  wpAny (model X.prog X.w) A (getItem (.ref a) u) Q E s:=by
 rcases g with⟨kvs,k,e,m,l⟩|⟨kvs,k,b,e,m,B,l⟩
 ·subst m;obtain⟨z,hd,C,d,dd⟩:=uI I.hok e;obtain⟨w',hw,f⟩:=oV.some_of (v:=v) (o:=valueAt C k) (by rw[l];exact d.val k);exact wpAny_getItem_of (oU ry) dd.mapOf hw (h w' _ (I.tok _) f)
 ·subst m
  cases(show u=Value.ref b from ry)
  obtain⟨z,hd,xs,d,dd⟩:=wK I.hok e;obtain⟨w',hw,f⟩:=oV.some_of (v:=v) (o:=(atKey xs k).map (·.2)) (by rw[l];exact d.val k);obtain⟨p,hp,j⟩:=aX.mp hw;refine wpAny_getItem_heap (cX J) (rz I.hok B) dd hp ?_;rw[j];exact h w' _ (I.tok _) f
def T_{Q:aa->aA->Prop}(J:A.units+1<cLine)(I:Inv X pins σ H s)(g:pZ H a y o)(ry:RelV y u)(h:∀s',Inv X pins σ H s'->Q (.bool o.isSome) s') :
  wpAny (model X.prog X.w) A (compareOp .In u<|.ref a) Q E s:=by
 rcases g with⟨kvs,k,e,f,l⟩|⟨kvs,k,b,e,f,j,l⟩
 ·subst f;obtain⟨z,hd,m,d,dd⟩:=uI I.hok e;refine wpAny_in_of (oU ry) hd dd.mapOf ?_;rw[<- (d.val k).lD,<- l];exact h _ (I.tok _)
 ·subst f
  cases(show u=Value.ref b from ry)
  obtain⟨z,hd,xs,d,dd⟩:=wK I.hok e;refine wpAny_in_heap (cX J) (rz I.hok j) hd dd ?_;have q:=(d.val k).lD;rw[eN]at q;rw[<- q,<- l];exact h _<|I.tok _
def KS{Q:aa->aA->Prop}(J:A.units+1<cLine)(I:Inv X pins σ H s)(g:pZ H a y o)(ry:RelV y u)(h:∀s',Inv X pins σ H s'->Q (.bool<|!o.isSome) s') :
  wpAny (model X.prog X.w) A (compareOp .NotIn u<|.ref a) Q E s:=by
 rcases g with⟨kvs,k,e,f,l⟩|⟨kvs,k,b,e,f,j,l⟩
 ·subst f;obtain⟨z,hd,m,d,dd⟩:=uI I.hok e;refine wpAny_notIn_of (oU ry) hd dd.mapOf ?_;rw[<- (d.val k).lD,<- l];exact h _ (I.tok _)
 ·subst f
  cases(show u=Value.ref b from ry)
  obtain⟨z,hd,xs,d,dd⟩:=wK I.hok e;refine wpAny_notIn_heap (cX J) (rz I.hok j) hd dd ?_;have q:=(d.val k).lD;rw[eN]at q;rw[<- q,<- l];exact h _<|I.tok _
def u7{h':ak}{t':Nat}{ob:HO}(I:Inv X pins σ H s)(j:Ry<|H a)(hs:Heap.SameBut a s.heap h')(J:∃q,h'.get? a=some q)(new:iS X.prog X.w (upd H a ob) h' a ob) :
  Inv X pins σ (upd H a ob) { s with heap:=h',toks:=t' }:=
 I.write (x:=a) (e:=a) j (.inl rfl) (λb q d z=>(hs.2 b d).trans z) J new
def zm{P:ah}{w:af}{H':Hp}{h':ak}{kvs:List<|Key×V}(z:kvs.length<=sizeLine)(hd:(a == sysModules)=false)(j:KV kvs vs)(dd:h'.DictOf (g9 P w) a vs) :
  iS P w H' h' a (.dK kvs):=⟨z,hd,vs,j,dd⟩
def E1{H':Hp}{Q:Unit->aA->Prop}(Z:A.units+1<cLine)(I:Inv X pins σ H s)(g:JP H a y v H')(ry:RelV y u)(U:RelV v r)(h:∀s',Inv X pins σ H' s'->Q Unit.unit s') :
  wpAny (model X.prog X.w) A (setItem (.ref a) u r) Q E s:=by
 rcases g with⟨kvs,k,e,p,l,m⟩|⟨kvs,k,b,e,p,C,l,m⟩
 ·subst p m;obtain⟨z,hd,J,d,dd⟩:=Ea I.hok e;have j:J.length<=sizeLine:=by rw[<- d.length];exact z
  have B:(putK kvs k v).length<=sizeLine:=by have:=uJ kvs k v;lia
  refine wpAny_setItem_pairs (hsz:=j) (oU ry) dd λh' dd' hs=>h _ ?_;have G:∃q,h'.get? a=some q:=let⟨q,_,_,f,_⟩:=dd';⟨q,f⟩
  exact u7 I (by rw[e];exact True.intro) hs G<|zm B hd (d.put k U) dd'
 ·subst p m
  cases(show u=Value.ref b from ry)
  obtain⟨z,hd,xs,d,dd⟩:=RE I.hok e;have j:xs.length<=sizeLine:=by rw[<- fQ d];exact z
  have B:(putK kvs k v).length<=sizeLine:=by have:=uJ kvs k v;lia
  refine wpAny_setItem_heap (hsz:=j) (cX Z) (rz I.hok C) dd λh' dd' hs=>h _ ?_;obtain⟨q,es,K,f,N,L,P,_,O⟩:=dd';refine u7 I (by rw[e];exact True.intro) hs ⟨q,f⟩ ⟨B,hd,_,(d.put k C U).keeps λc ys F=>?_,q,es,K,f,N,L,P,O⟩;rw[gy<|QE F e λz=>nomatch z];exact F
end
section
variable {X:Cx}{pins:bt}{σ:St}{H:Hp}{s:aA}{a:aj}{kvs:List (Key×V)}{k:Key}{u:aa}{A:az}{E:aa->aA->Prop}
def E_{Q:Unit->aA->Prop}(I:Inv X pins σ H s)(e:H a=some (.dK kvs))(ry:RelV (kV k) u)(l:(n_ kvs k).isSome=true)(h:∀s',Inv X pins σ (upd H a<|.dK<|uB kvs k) s'->Q Unit.unit s') :
  wpAny (model X.prog X.w) A (delItem (.ref a) u) Q E s:=by
 obtain⟨z,hd,g,d,dd⟩:=Ea I.hok e;refine wpAny_delItem_slot dd.typeIs ⋯ PySem.F.slot_dict_delitem
  (eO PySem.F.slot_dict_delitem dd.typeIs PySem.F.entry_dict_delitem (PySem.F.args_dict_delitem_2 _ _) (meets_dict_delitem_pairs (g9 X.prog X.w) a<|oU ry) ⟨g,dd,by rw[<- d.length];exact z,by rw[<- (d.val k).lD];exact l,λh' dd' hs=>h _ ?_⟩)
 have f:∃q,h'.get? a=some q:=let⟨q,_,_,hq,_⟩:=dd';⟨q,hq⟩
 exact u7 I (by rw[e];exact True.intro) hs f<|zm (bI (z_ kvs k) z) hd (d.drop k) dd'
def RW{v:V}{Q:aa->aA->Prop}(I:Inv X pins σ H s)(e:H a=some (.dK kvs))(ry:RelV (kV k) u)(l:n_ kvs k=some v)(J:more=[]\/∃x,more=[x])
  (h:∀w' s',Inv X pins σ (upd H a<|.dK<|uB kvs k) s'->RelV v w'->Q w' s'):wpAny (model X.prog X.w) A (call (.builtin "dict.pop") (.ref a::u::more)) Q E s:=by
 obtain⟨z,hd,g,d,dd⟩:=Ea I.hok e;obtain⟨w',hw,f⟩:=oV.some_of (v:=v) (o:=valueAt g k) (by rw[<- l];exact d.val k);have hp:(keyPart u).isSome=true:=by
  cases k with
  | inl i=>obtain⟨t,q⟩:=(show ∃t,u=Value.int i t from ry);subst q;rfl
  | inr x=>obtain⟨t,q⟩:=(show ∃t,u=Value.str x t from ry);subst q;rfl
 have m:argsOk "dict.pop" ⟨.ref a::u::more,[]⟩:=by
  rcases J with q|⟨x,q⟩
  ·subst q;exact PySem.F.args_dict_pop_2 _ _
  ·subst q;exact PySem.F.args_dict_pop_3 _ _ _
 refine eO PySem.F.slot_dict_pop dd.typeIs PySem.F.entry_dict_pop m (meets_dict_pop_there (g9 X.prog X.w) a (oU ry) more J hp)
  ⟨g,w',dd,by rw[<- d.length];exact z,hw,λh' dd' hs=>h w' _ ?_ f⟩
 have j:∃q,h'.get? a=some q:=let⟨q,_,_,hq,_⟩:=dd';⟨q,hq⟩
 exact u7 I (by rw[e];exact True.intro) hs j<|zm (bI (z_ kvs k) z) hd (d.drop k) dd'
def RL{Q:aa->aA->Prop}(I:Inv X pins σ H s)(e:Rd H a<|.dK kvs)(h:∀t s',Inv X pins σ H s'->Q (.int kvs.length t) s'):wpAny (model X.prog X.w) A (call (.builtin "len") [.ref a]) Q E s:=by
 obtain⟨z,hd,f,d,dd⟩:=uI I.hok e;refine call_len_dict hd dd (by rw[<- d.length];rw[bH]at z;lia) ?_;rw[<- d.length];exact h _ _<|I.tok _
end
def Ai{H:Hp}{s:aA}{a:aj}{o:Option V}(I:Inv X pins σ H s)(g:pZ H a y o):s.TypeIs (.ref a) "dict" := by
 rcases g with⟨kvs,k,e,_,_⟩|⟨kvs,k,b,e,_,_,_⟩
 ·obtain⟨_,_,d,_,dd⟩:=uI I.hok e;exact dd.typeIs
 ·obtain⟨_,_,xs,_,dd⟩:=wK I.hok e;exact dd.typeIs
abbrev Sg (td ty:TE):TS:=λD σ H=>td σ H λx H1=>ty σ H1 λy H2=>∃a kvs k,x=.ref a/\H2 a=some (.dK kvs)/\y=kV k/\(n_ kvs k).isSome=true/\D.nx σ (upd H2 a<|.dK<|uB kvs k)
section
variable {X:Cx}{o i e:aE}{pos tpos:Pos}{td ty:TE}
def Lj(J:PE X o td)(hi:PE X i ty):PS X (.Delete [.Subscript o i tpos] pos) (Sg td ty):=by
 kcf_m;refine wpAny_Delete<|wpAny_deleteEach_cons<|wpAny_delete_Subscript<|iQ (J pins s σ H _ I h) λu p ⟨x,H1,B,rx,j⟩=>iQ (hi pins p σ H1 _ B j) λiv s2 ⟨y,H2,d,ry,a,kvs,k,ex,e,m,l,f⟩=>?_;subst ex m;obtain rfl:u=Value.ref a:=rx;exact E_ d e ry l λs3 g=>wpAny_deleteEach_nil ⟨σ,_,g,f⟩
end
def IU{P:ah}{w:af}{H:Hp}(h:ak)(hb:sysModules<h.objs.size):iS P w H (h.push { cls:=.type "dict",data:=.dict #[]}) h.objs.size (.dK []):=
 ⟨er _,bN.mpr<|bM<|bh hb,[],.nil,Heap.DictOf.new h⟩
abbrev Pu:TE:=λ_ H Q=>∀p,H p=none->Q (.ref p) (upd H p<|.dK [])
section
variable {X:Cx}{pos:Pos}
def Gu:PE X (.Dict [] [] pos) Pu:=λpins s σ H Q I h=>
 wpAny_Dict_empty ⟨.ref s.heap.objs.size,_,I.laid (a:=s.heap.objs.size) (o:=.dK []) (t':=s.toks) (λ_ _ q=>aK _ q) (aJ _)<|IU s.heap I.big,rfl,h _<|I.hok.fresh<|aJ _⟩
end
structure M2 (X:Cx)(o:aE)(m:Str)(apos:Pos)(e f:aE)(cpos:Pos):Prop where
 base:attributeBase o m X.env (eval o X.env)=eval o X.env
 few:((backTo cpos<|starEach [e,f] X.env).all (λx=>!x.1) && (backToKw cpos<|keywordEach [] X.env).all (λx=>x.1.isSome)
  && decide (([e,f]:List aE).length+([]:List Keyword).length+(if ([]:List Keyword).isEmpty then 0 else 1)<30))=true
 line:(apos.endLine == cpos.line)=true
 trees:backTo cpos (starEach [e,f] X.env)=[(false,eval e X.env),(false,eval f X.env)]
section
variable {X:Cx}{pins:bt}{σ:St}{H:Hp}{s:aA}{a:aj}{y d:V}{u r:aa}{o:Option V}{A:az}{E:aa->aA->Prop}
def OT{Q:aa->aA->Prop}(J:A.units+1<cLine)(I:Inv X pins σ H s)(g:pZ H a y o)(ry:RelV y u)(h:∀w' s',Inv X pins σ H s'->RelV (o.getD .non) w'->Q w' s') :
  wpAny (model X.prog X.w) A (call (.builtin "dict.get") [.ref a,u]) Q E s:=by
 rcases g with⟨kvs,k,e,f,l⟩|⟨kvs,k,b,e,f,j,l⟩
 ·subst f;obtain⟨z,hd,m,d,dd⟩:=uI I.hok e;refine eO cJ dd.typeIs dw (PySem.F.args_dict_get_2 _ _) (meets_dict_get (g9 X.prog X.w) a (oU ry) hd) ⟨_,dd.mapOf,h _ _ (I.tok _) ?_⟩;rw[l];exact(d.val k).getD rfl
 ·subst f
  cases(show u=Value.ref b from ry)
  obtain⟨z,hd,xs,d,dd⟩:=wK I.hok e;refine eO cJ dd.typeIs dw (PySem.F.args_dict_get_2 _ _) (meetsH_dict_get (tupleKind<|g9 X.prog X.w) a b hd) ⟨cX J,k,xs,rz I.hok j,dd,h _ _ (I.tok _) ?_⟩;rw[l];exact(d.val k).getD rfl
def OO{Q:aa->aA->Prop}(L:A.units+1<cLine)(I:Inv X pins σ H s)(g:pZ H a y o)(ry:RelV y u)(J:RelV d r)(h:∀w' s',Inv X pins σ H s'->RelV (o.getD d) w'->Q w' s') :
  wpAny (model X.prog X.w) A (call (.builtin "dict.get") [.ref a,u,r]) Q E s:=by
 rcases g with⟨kvs,k,e,j,l⟩|⟨kvs,k,b,e,j,m,l⟩
 ·subst j;obtain⟨z,hd,p,f,dd⟩:=uI I.hok e;refine eO cJ dd.typeIs dw (PySem.F.args_dict_get_3 _ _ _) (meets_dict_get_default (g9 X.prog X.w) a (oU ry) hd r) ⟨_,dd.mapOf,h _ _ (I.tok _) ?_⟩;rw[l];exact(f.val k).getD J
 ·subst j
  cases(show u=Value.ref b from ry)
  obtain⟨z,hd,xs,f,dd⟩:=wK I.hok e;refine eO cJ dd.typeIs dw (PySem.F.args_dict_get_3 _ _ _) (meetsH_dict_get_default (tupleKind<|g9 X.prog X.w) a b hd r) ⟨cX L,k,xs,rz I.hok m,dd,h _ _ (I.tok _) ?_⟩;rw[l];exact(f.val k).getD J
end
meta abbrev FJ:=am×am
abbrev MW (x:am):Int:=reduceHash<|Builtin.Tuple.tupleHashOf<|x.map hashInt
abbrev R0 (k:FJ):Int:=reduceHash<|Builtin.Tuple.tupleHashOf [MW k.1,MW k.2]
abbrev U_ (x:(FJ×aj×aa)):DictEntry:=⟨R0 x.1,.ref x.2.1,x.2.2⟩
abbrev SI (a:aj)(xs:List<|FJ×aj×aa)(h:ak):Prop:=(a == sysModules)=false/\xs.length<=sizeLine/\∃o es d,h.get? a=some o/\o.ExactDict/\o.data=.dict es d/\es.toList=xs.map U_/\(xs.map (·.1)).Nodup
abbrev zU (H:Hp)(b:aj)(k:FJ):Prop:=∃r1 r2,H b=some (.tup [.ref r1,.ref r2])/\H r1=some (.tup<|k.1.map V.int)/\H r2=some (.tup<|k.2.map V.int)
section
variable {X:Cx}
def Lo(J:X.A.units+1<cLine):Mz X (λx y H Q=>∃a v,x=.ref a/\pZ H a y (some v)/\Q v H):=by
 intro value d pins s σ H x y v u Q I rx ry h hs;obtain⟨a,z,rfl,g,q⟩:=h
 cases rx
 have m:=Ai I g;unfold subscriptTail;refine aG ?_;rw[getitemInPython_of_ne m.not_modules];refine aG<|wpAny_specialOf m PySem.F.slot_dict_getitem.lookup ?_;have f:wpAny (model X.prog X.w) X.A (subscripted d false (.ref a) u) (λr j=>wpAny (model X.prog X.w) X.A (letTemporaryGo value (.ref a) r >>= λ_=>pure r) (EP X pins σ Q) X.xe j) X.xe s:=by
  rw[hs];exact wpAny_operating<|E9 J I g ry λB s3 p k=>aG<|wpAny_letTemporaryGo<|aM ⟨z,H,p,k,q⟩
 first
  | exact aM (aG f)
  | exact aG (aM<|aG f)
  | exact aG f
def O9(j:X.A.units+1<cLine):jI X (compareOp .In) (λy x H Q=>∃a o,x=.ref a/\pZ H a y o/\Q (.bl o.isSome) H):=by
 intro pins s σ H y x v u Q I ry rx h;obtain⟨a,o,rfl,g,q⟩:=h
 cases rx
 exact T_ j I g ry λs3 d=>⟨.bl o.isSome,H,d,rfl,q⟩
def ES(j:X.A.units+1<cLine):jI X (compareOp .NotIn) (λy x H Q=>∃a o,x=.ref a/\pZ H a y o/\Q (.bl<|!o.isSome) H):=by
 intro pins s σ H y x v u Q I ry rx h;obtain⟨a,o,rfl,g,q⟩:=h
 cases rx
 exact KS j I g ry λs3 d=>⟨.bl<|!o.isSome,H,d,rfl,q⟩
def set_dict(J:X.A.units+1<cLine):Iz X (λo i v H Q=>∃a H',o=.ref a/\JP H a i v H'/\Q H'):=by
 intro pins s σ H o i v p iv u Q I k j f h;obtain⟨a,H',rfl,g,q⟩:=h
 cases k
 exact E1 J I g j f λm d=>⟨H',d,q⟩
end
abbrev C0 (e:aj)(h:ak):Prop:=∃o d,h.get? e=some o/\o.data=.fields d/\d[2]?=some .none/\o.dict=none
abbrev gU (e:aj){α:Type}(m:Sem α):Prop:=∀(M:Model) (d:PySem.Ctx) (Q:α->Pos->aA->Prop) (E:aa->Pos->aA->Prop) (p:Pos) (s:aA),Sem.wp M d m Q E p s->C0 e s.heap->Sem.wp M d m (λa p s=>Q a p s/\C0 e s.heap) (λv p s=>E v p s/\C0 e s.heap) p s
section
variable {e:aj}{α β:Type}
def gU.bind{m:Sem α}{f:α->Sem β}(h1:gU e m)(j:∀a,gU e<|f a):gU e (m >>= f):=by
 intro M d Q E p s h c;rw[Sem.wp_bind']at h ⊢;exact Sem.wp_mono M d m (λa g s' z=>j a M d Q E g s' z.1 z.2) (λ_ _ _ z=>z) p s<|h1 M d _ _ p s h c
theorem gU.pure(a:α):gU e (pure a:Sem α):=λM d Q E p s h c=>by rw[Sem.wp_pure']at h ⊢;exact⟨h,c⟩
def gU.FQ(w:String):gU e (PySem.unsupported w:Sem α):=λM d Q E p s h c=>by
 have h:Sem.wp M d (.unsupported w:Sem α) Q E p s:=h;rw[Sem.wp_unsupported]at h;exact h.elim
def gU.load(a:aj):gU e (PySem.load a):=λM d Q E p s h c=>by
 have h:Sem.wp M d (.load a none .pure) Q E p s:=h;show Sem.wp M d (.load a none .pure) _ _ p s;rw[Sem.wp_load]at h ⊢;obtain⟨o,f,h⟩:=h;rw[ff]at h;exact⟨o,f,by rw[ff];exact⟨h,c⟩⟩
def C0.update{h:ak}{a:aj}{f:Obj->Obj}(c:C0 e h)(hf:∀o vs,o.data=.fields vs->vs[2]?=some .none->∃ws,(f o).data=.fields ws/\ws[2]?=some .none/\(f o).dict=o.dict):C0 e (h.update a f):=by
 obtain⟨o,vs,h1,d,j,g⟩:=c;by_cases z:a=e
 ·subst z;obtain⟨ws,k,m,p⟩:=hf o vs d j;exact⟨f o,ws,eU f h1<|Obj.isFreed_of_fields k,k,m,p.trans g⟩
 ·exact⟨o,vs,by rw[dj _ _ z];exact h1,d,j,g⟩
def gU.update(a:aj)(f:Obj->Obj)(hf:∀o vs,o.data=.fields vs->vs[2]?=some .none->∃ws,(f o).data=.fields ws/\ws[2]?=some .none/\(f o).dict=o.dict):gU e (PySem.update a f):=λM d Q E p s h c=>by
 have h:Sem.wp M d (.update a none f .pure) Q E p s:=h;show Sem.wp M d (.update a none f .pure) _ _ p s;rw[Sem.wp_update]at h ⊢;obtain⟨g,h⟩:=h;rw[ff]at h;exact⟨g,by rw[ff];exact⟨h,c.update hf⟩⟩
def gU.alloc(o:Obj):gU e (PySem.alloc o):=λM d Q E p s h c=>by
 have h:Sem.wp M d (.alloc o .pure) Q E p s:=h;show Sem.wp M d (.alloc o .pure) _ _ p s;rw[Sem.wp_alloc,ff]at h ⊢;obtain⟨ob,g,h1,f,k,j⟩:=c;exact⟨h,ob,g,aK _ h1,f,k,j⟩
def gU.stack:gU e PySem.stack:=λM d Q E p s h c=>by
 have h:Sem.wp M d (.stack .pure) Q E p s:=h;show Sem.wp M d (.stack .pure) _ _ p s;rw[Sem.wp_stack,ff]at h ⊢;exact⟨h,c⟩
def gU.ite{c:Prop}[Decidable c]{a b:Sem α}(h1:gU e a)(j:gU e b):gU e (if c then a else b):=by
 split
 ·exact h1
 ·exact j
def gU.field(v:aa)(i:Nat):gU e (PySem.field v i):=by
 unfold PySem.field PySem.fieldsOf;refine gU.bind ?_ λd=>?_
 ·split
  ·refine gU.bind (gU.load _) λo=>?_;split
   ·exact gU.pure _
   ·exact gU.FQ _
  ·exact gU.FQ _
 ·split
  ·exact gU.pure _
  ·exact gU.FQ _
def gU.setField(v x:aa)(i:Nat)(hi:i≠2):gU e (PySem.setField v i x):=by
 unfold PySem.setField PySem.updateField;split
 ·refine gU.bind (gU.load _) λo=>?_;split
  ·refine gU.ite (gU.update _ _ λo f h1 d=>⟨_,fJ h1 _,?_,?_⟩) (gU.FQ _)
   ·rw[Array.getElem?_setIfInBounds_ne hi];exact d
   ·unfold Obj.mapFields;split<;>rfl
  ·exact gU.FQ _
 ·exact gU.FQ _
def gU.frameEnvs:gU e PySem.frameEnvs:=by
 unfold PySem.frameEnvs;exact gU.bind gU.stack λ_=>gU.pure _
def gU.behind(env:Env)(outer:List Env):gU e (behindIsImport env outer):=by
 unfold behindIsImport;refine gU.ite (gU.pure _)<|gU.ite (gU.pure _)<|gU.bind (gU.field _ _) λ_=>gU.pure _
def gU.under:gU e underTheClaimsCaller:=by
 unfold underTheClaimsCaller;exact gU.bind gU.stack λ_=>gU.pure _
def gU.kept(env:Env)(b:Bool)(l:List Env):gU e (keptBack env b l):=by
 unfold keptBack;split
 ·refine gU.ite (gU.pure _) (gU.bind gU.under λ_=>gU.pure _)
 ·exact gU.pure _
theorem gU.ready:∀(l:List Env),gU e (readyFrames l)
 | []=>gU.pure _
 | env::outer=>by
  unfold readyFrames;split
  ·refine gU.bind (gU.load _) λo=>?_;refine gU.ite (gU.pure _) ?_;refine gU.bind (gU.behind _ _) λ_=>gU.bind (gU.kept _ _ _) λ_=>gU.bind (gU.update _ _ λo f h1 d=>⟨f,h1,d,rfl⟩) λ_=>gU.ready outer
  ·exact gU.FQ _
def gU.frameOf(env:Env):gU e (PySem.frameOf env):=by
 unfold PySem.frameOf;refine gU.bind gU.frameEnvs λl=>gU.bind ?_ λ_=>?_
 ·unfold frameObject;split
  ·exact gU.pure _
  ·exact gU.bind (gU.ready _) λ_=>gU.pure _
 ·split
  ·exact gU.pure _
  ·exact gU.FQ _
def gU.place(f:aj)(b:Bool):gU e (entryPlaceOf f b):=by
 unfold entryPlaceOf;refine gU.bind gU.stack λ_=>?_;split
 ·exact gU.pure _
 ·exact gU.pure _
def gU.entry(a b c d f:aa)(l:bd):gU e (EntryCells.newEntry a b c d f l):=by
 unfold EntryCells.newEntry newFields newObj
 repeat (first|exact gU.pure _|exact gU.FQ _|refine gU.bind (gU.alloc _) λ_=>?_|refine gU.bind (gU.FQ _) λ_=>?_|refine gU.ite ?_ ?_|(refine gU.bind ?_ λ_=>?_))
def gU.flight(v:aa)(f:Option aj):gU e (setFlight v f):=by
 unfold setFlight;refine gU.bind (gU.field _ _) λ_=>gU.ite (gU.setField _ _ _ ⋯)<|gU.pure _
def gU.note(v:aa)(env:Env):gU e (noteFrame v env):=by
 unfold noteFrame;split
 ·refine gU.bind (gU.field _ _) λh=>gU.ite ?_ ?_
  ·refine gU.bind (gU.field _ _) λ_=>gU.ite (gU.pure _) ?_;refine gU.bind (gU.setField _ _ _ ⋯) λ_=>gU.bind (gU.frameOf _) λ_=>gU.bind (gU.place _ _) λ_=>gU.bind (gU.entry _ _ _ _ _ _) λ_=>gU.setField _ _ _ ⋯
  ·refine gU.bind (gU.frameOf _) λ_=>gU.bind (gU.place _ _) λ_=>gU.bind (gU.entry _ _ _ _ _ _) λ_=>gU.setField _ _ _ ⋯
 ·exact gU.FQ _
def gU.leave(v:aa)(env:Env):gU e (leaving env v):=by
 unfold leaving;exact gU.bind (gU.note _ _) λ_=>gU.flight _ _
def gU.any{m:Sem α}{A:az}{Q:α->aA->Prop}{E:aa->aA->Prop}{s:aA}(k:gU e m)(h:wpAny M A m Q E s)(c:C0 e s.heap):wpAny M A m (λa s'=>Q a s'/\C0 e s'.heap) (λv s'=>E v s'/\C0 e s'.heap) s:=
 λf p d=>k M f _ _ p s (h f p d) c
end
def iS.here{P:ah}{w:af}{H:Hp}{h:ak}{a:aj}{o:HO}(x:iS P w H h a o):∃ob,h.get? a=some ob:=by
 cases o with
 | lst xs=>obtain⟨_,_,_,_,e⟩:=x;exact⟨_,e⟩
 | tup xs=>obtain⟨_,_,_,p⟩:=x;obtain⟨o,e,_⟩:=p;exact⟨_,e⟩
 | dK kvs=>obtain⟨_,_,_,_,o,_,_,e,_⟩:=x;exact⟨_,e⟩
 | dT kvs=>obtain⟨_,_,_,_,o,_,_,e,_⟩:=x;exact⟨_,e⟩
 | set S n=>obtain⟨o,_,_,_,e,_⟩:=x;exact⟨_,e⟩
 | ins C dx fs=>obtain⟨_,_,_,e,_⟩:=x;exact⟨_,e⟩
 | own y=>exact x
 | xd fs=>obtain⟨_,⟨_,_,_,e,_⟩,_⟩:=x;exact⟨_,e⟩
 | rng lo hi=>obtain⟨_,_,_,e⟩:=x;exact⟨_,e⟩
 | frz ob u=>obtain⟨e,_⟩:=x;exact⟨_,e⟩
 | tbl ps=>exact⟨_,(show h.get? a=some _ from x)⟩
 | met f y=>exact⟨_,(show h.get? a=some _ from x)⟩
 | ext d=>obtain⟨_,⟨o,e⟩,_⟩:=x;exact⟨_,e⟩
structure Fly (l:List Env)(xs:be)(g:ak)(pn:bt)(H:Hp)(e:aj)(cls:aa)(h:ak):Prop where
 ex:∃(B:ak) (a0:aa),Heap.FlyingW B l e cls a0 h/\(∀a u,H a=some u->∃o,B.get? a=some o)/\(∀b o,g.get? b=some o->b∉frs l->b∉xs->∃o',B.get? b=some o')/\(∀p∈pn,∃o',B.get? p.1=some o')/\C0 e h
structure Made (X:Cx)(H:Hp)(e:aj)(cls:aa)(g:ak)(h:ak):Prop where
 ex:∃(g':ak) (vs:bd),Heap.MadeExcOf g' h e cls vs/\g'.FunFrames X.base X.stack/\(∀a u,H a=some u->∃o,g'.get? a=some o)/\(∀b o,g.get? b=some o->b∉X.ex->∃o',g'.get? b=some o')/\(∀p∈X.pn,∃o',g'.get? p.1=some o')
def yW{g:ak}{cls:aa}(M:Heap.MadeExcOf g h e cls vs):C0 e h:=by
 obtain⟨t,d,_⟩:=M.there;exact⟨_,_,d,rfl,rfl,rfl⟩
structure Held (X:Cx)(H:Hp)(e:aj)(cls:aa)(h:ak):Prop where
 ex:∃(B:ak) (a0:aa) (L:aj),X.env.frame=some L/\Heap.HeldW B X.stack e cls a0 L h/\(∀a u,H a=some u->∃o,B.get? a=some o)/\(∀b o,X.s₀.heap.get? b=some o->b∉frs X.stack->b∉X.ex->∃o',B.get? b=some o')/\(∀p∈X.pn,∃o',B.get? p.1=some o')/\C0 e h
abbrev t_ (X:Cx)(H:Hp)(e:aj)(cls:aa)(s':aA):Prop:=Made X H e cls X.s₀.heap s'.heap\/Fly X.stack X.ex X.s₀.heap X.pn H e cls s'.heap\/Held X H e cls s'.heap
section
variable {X:Cx}{pins:bt}{σ:L2.St}{H:Hp}{s':aA}{e:aj}{cls:aa}
def sH(I:Inv X pins σ H s')(J:X.ex=[]){B:ak}(k1:B.StaysIn s'.heap)(k2:B.StaysIn h')(L:s'.heap.UpToSlots h')(c1:∀a u,H a=some u->∃o,B.get? a=some o)(c2:∀b o,X.s₀.heap.get? b=some o->b∉X.fs->∃o',B.get? b=some o') :
  Un X.fs [] X.H₀ H X.s₀.heap h'/\qh X.prog X.w H h':=by
 have nx:∀b:aj,b∉X.ex:=λb z=>by rw[J]at z;cases z
 have g:∀b o o',B.get? b=some o'->s'.heap.get? b=some o->h'.get? b=some o:=λb o o' f es=>by
  have:=k1 b o' f;rw[es]at this;cases this;exact k2 b o f
 have slot:∀b o,X.s₀.heap.get? b=some o->X.H₀ b=none->b∈X.fs->∃j,h'.get? b=some { o with slots:=j }:=λb o q n d=>by
  obtain⟨j,e1⟩:=I.base.slot b o q n d<|nx b;obtain⟨_,F,m,C⟩:=I.ok.oW.mem d;rw[q]at m;cases m;obtain⟨k,e2⟩:=L b _ e1 C;exact⟨k,e2⟩
 refine⟨⟨λb o q n d _=>?_,λb o q n d _=>slot b o q n d,λb o q n _=>I.base.free b o q n<|nx b,λb o q _=>?_,I.base.tups,I.base.frzs,I.base.tbls⟩,λa u p=>?_⟩
 ·obtain⟨o',f⟩:=c2 b o q d;exact g b o o' f (I.base.keep b o q n d<|nx b)
 ·by_cases d:b∈X.fs
  ·obtain⟨j,z⟩:=slot b o q (I.ok.frf b d) d;exact⟨_,z⟩
  ·obtain⟨o',f⟩:=c2 b o q d;exact⟨o',k2 b o' f⟩
 ·refine(I.hok a u p).stay (λb v d q=>?_) (λ_ q=>q) λ_ _ q=>q
  rcases d with z|z
  ·subst z;obtain⟨o',f⟩:=c1 _ u p;exact g _ v o' f q
  ·obtain⟨o',f⟩:=c1 b _ z;exact g b v o' f q
def BO(I:Inv X pins σ H s')(hst:X.stack=X.env::X.outer)(hf:X.env.frame=some X.env.locals)(hex:X.ex=[])(R:t_ X H e cls s'){Q:aA->Prop}{E:aa->aA->Prop}
  (hQ:∀h',Un X.fs [] X.H₀ H X.s₀.heap h'->qh X.prog X.w H h'->Fly X.outer [] X.s₀.heap [] H e cls h'->Q { s' with heap:=h' }):wpAny (model X.prog X.w) X.A (leaving X.env<|.ref e) (λ_ s''=>Q s'') E s':=by
 have m:X.A.frames=some (X.env::X.outer):=by rw[<- hst];exact I.ok.frames
 have J:∀b o,X.s₀.heap.get? b=some o->b∉X.fs->b∉frs (X.env::X.outer):=λb o q d z=>by
  unfold frs at z;rw[c_,hf]at z
  rcases bJ.mp z with z|z
  ·rw[z]at q;exact absurd (aY (aP q) I.ok.above) (cR _)
  ·exact d z
 have nx:∀b:aj,b∉X.ex:=λb z=>by rw[hex]at z;cases z
 rcases R with⟨g',vs,M,C,T,Y,_⟩|⟨B,a0,F,c1,c2,_,k0⟩|⟨B,a0,L,O,F,c1,c2,_,k0⟩
 ·
  rw[hst]at C;have N:∀env∈(X.env::X.outer),∀b,env.frame=some b->b∈frs (X.env::X.outer):=λenv P b d=>cT.mpr ⟨env,P,d⟩;refine bY (gU.any (e:=e) (gU.leave _ _) (wpAny_leaves_madeW (Q:=λ_ s''=>∃h' t,s''={ s' with heap:=h' }/\Heap.FlyingW (PySem.W.hideAll g'<|frs (X.env::X.outer)) X.outer e cls (.ref t) h'/\s'.heap.UpToSlots h') (E:=λ_ _=>False) (base:=PySem.W.hideAll g'<|frs (X.env::X.outer)) m hf (λb o q=>cC _ q) (eS C N) M λh' t f x2 x3 k=>⟨h',t,rfl,f,k⟩)<|yW M) (λ_ s'' z=>?_) λ_ _ z=>z.1.elim;obtain⟨⟨h',t,rfl,f,k⟩,k0⟩:=z;kln_w;have c1:∀a u,H a=some u->∃o,(PySem.W.hideAll g'<|frs (X.env::X.outer)).get? a=some o:=λa u K=>by
   obtain⟨o,q⟩:=T a u K;refine⟨o,cz _ q λz=>?_⟩;rw[<- hst]at z;rw[I.qg a z]at K;cases K
  have c2:∀b o,X.s₀.heap.get? b=some o->b∉X.fs->∃o',(PySem.W.hideAll g'<|frs (X.env::X.outer)).get? b=some o':=λb o q d=>by
   obtain⟨o',q'⟩:=Y b o q<|nx b;exact⟨o',cz _ q'<|J b o q d⟩
  obtain⟨un,g⟩:=sH I hex k1 f.1 k c1 c2;exact hQ h' un g ⟨_,_,f,c1,λb o q d _=>c2 b o q d,λp hp=>absurd hp<|by simp,k0⟩
 ·rw[hst]at F c2;refine bY (gU.any (e:=e) (gU.leave _ _) (wpAny_leaves_onW (Q:=λ_ s''=>∃h',s''={ s' with heap:=h' }/\Heap.FlyingW B X.outer e cls a0 h'/\s'.heap.UpToSlots h') (E:=λ_ _=>False) m hf F λh' f k=>⟨h',rfl,f,k⟩) k0) (λ_ s'' z=>?_) λ_ _ z=>z.1.elim;obtain⟨⟨h',rfl,f,k⟩,k0'⟩:=z;have j:∀b o,X.s₀.heap.get? b=some o->b∉X.fs->∃o',B.get? b=some o':=λb o q d=>c2 b o q (J b o q d)<|nx b;obtain⟨un,g⟩:=sH I hex F.1 f.1 k c1 j;exact hQ h' un g ⟨_,_,f,c1,λb o q d _=>j b o q d,λp hp=>absurd hp<|by simp,k0'⟩
 ·rw[hst]at F c2;rw[hf]at O
  cases O
  have U:wpAny (model X.prog X.w) X.A (leaving X.env<|.ref e) (λ_ s''=>∃h',s''={ s' with heap:=h' }/\Heap.FlyingW B X.outer e cls a0 h'/\s'.heap.UpToSlots h') (λ_ _=>False) s':=by
   unfold leaving;refine aG<|eT hf F.2.2.2 ?_;refine wpAny_landsW F λh' G V=>?_;obtain⟨k1,k2,⟨_,_,k3⟩,Z⟩:=G;exact⟨h',rfl,⟨k1,k2,k3,Z⟩,V⟩
  refine bY (gU.any (e:=e) (gU.leave _ _) U k0) (λ_ s'' z=>?_) λ_ _ z=>z.1.elim;obtain⟨⟨h',rfl,f,k⟩,k0'⟩:=z;have j:∀b o,X.s₀.heap.get? b=some o->b∉X.fs->∃o',B.get? b=some o':=λb o q d=>c2 b o q (J b o q d)<|nx b;obtain⟨un,g⟩:=sH I hex F.1 f.1 k c1 j;exact hQ h' un g ⟨_,_,f,c1,λb o q d _=>j b o q d,λp hp=>absurd hp<|by simp,k0'⟩
end
abbrev uK (P:ah)(w:af):HX:=λouter H s E e d=>∃f cls H',e=.ref f/\d.os=s.os/\AllBare d.gens/\Un (frs outer) [] H H' s.heap d.heap/\qh P w H' d.heap/\Fly outer [] s.heap [] H' f cls d.heap/\E cls none H'
section
variable {P:ah}{w:af}{K:au}{mg:Str->bi}{base:ak}{N:ba}{qual:Str}{scope:Scope}{f:aj}{cd:aa}{A:az}{outer:List Env}{s:aA}{H:Hp}{E:XK}
def Fq{H':Hp}{cls:aa}(I:Inv (uX (uK P w) P w K mg base N qual scope f cd A outer s H E) pins σ' H' s')
  (hf:(envOfC qual scope s.heap.objs.size f cd).frame=some (envOfC qual scope s.heap.objs.size f cd).locals)
  (R:t_ (uX (uK P w) P w K mg base N qual scope f cd A outer s H E) H' ea cls s') (J:E cls none H'):(uX (uK P w) P w K mg base N qual scope f cd A outer s H E).xe (.ref ea) s':=by
 refine BO I rfl hf rfl R (Q:=λg=>uK P w outer H s E (.ref ea) g) λh' un d j=>?_;exact⟨ea,cls,H',rfl,I.os,I.bare,un,d,j,J⟩
abbrev EX (X:Cx):XK:=λcls _ H'=>∀pins d s' e,Inv X pins d H' s'->t_ X H' e cls s'->X.xe (.ref e) s'
def v8{X:Cx}(hP:X.prog=P)(hw:X.w=w):Passes (uK P w) X (EX X):=by
 intro pins σ H s e s' I ⟨L,cls,H',C,os,f,un,k,⟨B,a0,F,c1,c2,_,k0⟩,m⟩;subst C hP hw;obtain⟨J,g,d,t,j⟩:=s';obtain rfl:j=s.os:=os;refine m pins σ _ L (I.call (h':=J) (g':=g) (d':=d) (t':=t) (ch:=[]) un k f λb z=>absurd z<|by simp) (.inr<|.inl ⟨B,a0,F,c1,λb o q G K=>?_,λp hp=>?_,k0⟩)
 ·obtain⟨o',q'⟩:=I.base.there b o q K;exact c2 b o' q' G (by simp)
 ·obtain⟨q,_,N,O,_⟩:=I.pin p<|bK _ hp;exact c2 p.1 _ q (λz=>(bJ.mp<|I.tV _ z).elim N O)<|by simp
abbrev Pj (X:Cx)(C:aj)(t:TA):TS:=λ_ σ H=>t σ H λd H'=>d.length<=sizeLine/\EX X (.ref C) none H'
def vJ{X:Cx}{x:Str}{C:aj}{t:TA}(O:OwnCls x C bmB newId X.mg X.base)(U:ExcBaseFacts B newId initId bmB)(hh:X.A.handled=none)(Z:PA X (e::es) t)(hg:Gl X x<|>ε)
  (hs:starEach (e::es) X.env=(false,eval e X.env)::starEach es X.env<|>ε) (L:((backTo cpos<|starEach es X.env).any (·.1)=false)<|>ε) (hd:(x == ("__debug__" : Str))=false<|>δ) :
  PS X (.Raise (some<|.Call (.Name x np) (e::es) [] cpos) none pos) (Pj X C t):=by
 kcf_m;obtain⟨tl,N,nm,q,bs,hdct,sn,sub,ab,col,dd,k0,k1,k2,k3,k5,mN,F,G,f,T⟩:=O.obj;refine wpAny_Raise_call_subU (C:=C) (nm:=nm) (q:=q) (N:=N) (bs:=bs) (bm:=tl) (hdct:=hdct) (sn:=sn) (sub:=sub) (ab:=ab) (col:=col) (dd:=dd) (k0:=k0) (k1:=k1) (k2:=k2) (k3:=k3) (k5:=k5)
  U U.hasB U (mN:=mN) (T.hasType U.hasBase) hh (by rw[hs];show(false || (backTo cpos<|starEach es X.env).any (·.1))=false;rw[L];rfl) f (r9 I hg O.bound ⟨rfl,?_⟩ hd)
 have j:=Z cpos pins s σ H _ I h;rw[hs]at j ⊢;refine Calls.evalArgs_plain<|iQ j λus s2 ⟨K,H2,d,r2,J,k⟩=>?_;refine⟨rfl,by rw[<- r2.length];exact J,d.bk _ _ F,G.keeps d.bk,T.keeps d.bk,λh' g M=>?_⟩;refine k pins σ { s2 with heap:=h' } g ?_ (.inl ⟨s2.heap,us,M,d.stack,λa u g=>?_,λb o q m=>?_,λp hp=>⟨_,(d.pin p<|bK _ hp).1⟩⟩)
 ·exact d.kept (t':=s2.toks) M.keeps
 ·exact(d.hok a u g).here
 ·exact d.base.there b o q m
end
abbrev vO:List (Str ⊕ TE)->St->Hp->(Hp->Prop)->Prop
 | [],_,H,k=>k H
 | .inl x::ps,σ,H,k=>x.length<=1000/\vO ps σ H k
 | .inr t::ps,σ,H,k=>t σ H λv H'=>∃i,v=.int i/\i.natAbs.log2<64/\vO ps σ H' k
inductive FParts (X:Cx):List aE->List (Str ⊕ TE)->Prop
 | nil:FParts X [] []
 | txt {x:Str} {j pos} {es:List aE} {ps:List<|Str ⊕ TE} (h:FParts X es ps):FParts X (.Constant (.str x) j pos::es) (.inl x::ps)
 | val {e:aE} {pos:Pos} {t:TE} {es:List aE} {ps:List<|Str ⊕ TE} (he:PE X e t) (h:FParts X es ps):FParts X (.FormattedValue e (-1) none pos::es) (.inr t::ps)
theorem qI{X:Cx}{Q:VK}:∀{es:List aE}{ps:List<|Str ⊕ TE},FParts X es ps->∀(H:Hp) (s:aA) (out:Str),Inv X pins σ H s->out.length+2000 * es.length<=sizeLine ->
  vO ps σ H (λH'=>∀x:Str,x.length<=sizeLine->Q (.str x) H')->wpAny (model X.prog X.w) X.A (joinParts out<|evalEach es X.env) (EP X pins σ Q) X.xe s
 | _,_,.nil,H,s,out,I,d,h=>joinParts_nilE (joinParts_nil (show EP X pins σ Q _ _ from⟨.str out,H,I.tok _,⟨_,rfl⟩,h out<|by simpa using d⟩)<|by simpa using d)
 | _,_,.txt (x:=x) hp,H,s,out,I,d,h=>by
  refine fq<|joinParts_cons<|fE ?_;rw[bq]at d;have g:=h.1;have f:(out++x).length=out.length+x.length:=e_ ..;exact⟨by rw[f];lia,qI hp H _ _ (I.tok _) (by rw[f];lia) h.2⟩
 | _,_,.val (e:=e) (t:=t) he hp,H,s,out,I,d,h=>by
  rw[bq]at d;refine fq<|joinParts_cons<|FormattedValue_plain<|iQ (he pins s σ H _ I h) λv m ⟨x,H1,j,r1,i,g,hi,h1⟩=>?_;subst g;obtain⟨tk,rfl⟩:=r1;refine formatField_int_small () ?_;have p:(Str.ofString<|toString i).length<=65:=by
   have:=int_text_length_le (a:=i) (k:=64) ⋯ hi;rw[PySem.ofString_length];exact this
  have f:(out++Str.ofString (toString i)).length=out.length+(Str.ofString<|toString i).length:=e_ ..;exact⟨by rw[f];lia,qI hp H1 _ _ (j.tok _) (by rw[f];lia) h1⟩
abbrev U9 (ps:List<|Str ⊕ TE):TE:=λσ H Q=>vO ps σ H λH'=>∀x:Str,x.length<=sizeLine->Q (.str x) H'
def RV{ps:List<|Str ⊕ TE}(h:FParts X (e1::e2::es) ps)(j:2000 * (e1::e2::es).length<=sizeLine<|>δ):PE X (.JoinedStr (e1::e2::es) pos) (U9 ps):=
 λpins s σ H Q I q=>JoinedStr_many<|qI h H s Str.empty I (by rw[show Str.empty.length=0 from rfl,zero_add];exact j) q
abbrev Cx.nQ (X:Cx)(pn':bt)(xe':aa->aA->Prop):Cx:={ X with xe:=xe',pn:=pn' }
abbrev xu:HO:=.ext λ_=>True
abbrev Cx.hand (X:Cx)(pn':bt)(e:aj)(j:Obj):Cx:={ X with A:=X.A.mark<|some<|.ref e,calm:=false,xe:=λ_ _=>False,pn:=pn',H₀:=upd X.H₀ e<|.frz j xu}
structure XO (C:aj)(o:Obj):Prop where
 cls:o.cls=.ref C
 dict:o.dict=none
 ctx:∃vs,o.data=.fields vs/\vs[2]?=some .none
structure Fr0 (X:Cx)(e:aj):Prop where
 no:∀o,X.s₀.heap.get? e≠some o
 tup:∀xs,X.H₀ e≠some (.tup xs)
 frz:∀o u,X.H₀ e≠some (.frz o u)
 tbl:∀ps,X.H₀ e≠some (.tbl ps)
section
variable {X:Cx}{pins:bt}{σ:L2.St}{H:Hp}{s':aA}{e:aj}{cls:aa}
def EZ(I:Inv X pins σ H s')(hst:X.stack=X.env::X.outer)(hf:X.env.frame=some X.env.locals)(hex:X.ex=[])(R:t_ X H e cls s'){Q:Unit->aA->Prop}{E:aa->aA->Prop}
  (hQ:∀h' B a0,Heap.HeldW B (X.env::X.outer) e cls a0 X.env.locals h'->B.StaysIn s'.heap->s'.heap.UpToSlots h'->(∀a u,H a=some u->∃o,B.get? a=some o)->(∀b o,X.s₀.heap.get? b=some o->b∉X.fs->∃o',B.get? b=some o')->(∀p∈X.pn,∃o',B.get? p.1=some o')->C0 e h'->Q Unit.unit { s' with heap:=h' }) :
  wpAny (model X.prog X.w) X.A (noteFrame (.ref e) X.env) Q E s':=by
 have k:X.A.frames=some (X.env::X.outer):=by rw[<- hst];exact I.ok.frames
 have G:∀b o,X.s₀.heap.get? b=some o->b∉X.fs->b∉frs (X.env::X.outer):=λb o q d z=>by
  unfold frs at z;rw[c_,hf]at z
  rcases bJ.mp z with z|z
  ·rw[z]at q;exact absurd (aY (aP q) I.ok.above) (cR _)
  ·exact d z
 have nx:∀b:aj,b∉X.ex:=λb z=>by rw[hex]at z;cases z
 rcases R with⟨g',vs,M,m,U,Z,Y⟩|⟨B,a0,F,c1,c2,c3,k0⟩|⟨B,a0,L,O,F,c1,c2,c3,k0⟩
 ·rw[hst]at m;have K:∀env∈(X.env::X.outer),∀b,env.frame=some b->b∈frs (X.env::X.outer):=λenv C b d=>cT.mpr ⟨env,C,d⟩;have hl:=eS m K;obtain⟨t,C,htn,ht⟩:=M.there;have N:(PySem.W.hideAll g'<|frs (X.env::X.outer)).get? e=none:=by
   cases hq:(PySem.W.hideAll g'<|frs (X.env::X.outer)).get? e with
   | none=>rfl
   | some o'=>have:=cC _ hq;rw[M.new]at this;cases this
  kln_w;have V:wpAny (model X.prog X.w) X.A (noteFrame (.ref e) X.env) (λ_ f=>∃h',f={ s' with heap:=h' }/\Heap.HeldW (PySem.W.hideAll g'<|frs (X.env::X.outer)) (X.env::X.outer) e cls (.ref t) X.env.locals h'/\s'.heap.UpToSlots h') (λ_ _=>False) s':=by
   unfold noteFrame;dsimp[hf];refine aG<|c7 C rfl (x:=.none) rfl ?_;rw[aO ⋯];refine wpAny_entryW (base:=PySem.W.hideAll g'<|frs (X.env::X.outer)) (a0:=.ref t) k (hl.of_keeps λb o d _=>⟨o,M.keeps b o d,rfl⟩) hf C k1 N rfl (by simp) rfl λh' T=>?_;obtain⟨j,x2,P,g⟩:=T;exact⟨h',rfl,⟨j,N,x2,P⟩,g⟩
  refine bY (gU.any (e:=e) (gU.note _ _) V<|yW M) (λ_ f z=>?_) λ_ _ z=>z.1.elim;obtain⟨⟨h',rfl,j,g⟩,k0⟩:=z;refine hQ h' _ _ j k1 g (λa u J=>?_) (λb o q d=>?_) (λp hp=>?_) k0
  ·obtain⟨o,q⟩:=U a u J;refine⟨o,cz _ q λz=>?_⟩;rw[<- hst]at z;rw[I.qg a z]at J;cases J
  ·obtain⟨o',q'⟩:=Z b o q<|nx b;exact⟨o',cz _ q'<|G b o q d⟩
  ·obtain⟨o',q'⟩:=Y p hp;obtain⟨q,_,n1,n2,_⟩:=I.pin p<|bK _ hp;refine⟨o',cz _ q' λz=>?_⟩;rw[<- hst]at z;exact(bJ.mp<|I.tV _ z).elim n1 n2
 ·rw[hst]at F c2;refine bY (gU.any (e:=e) (gU.note _ _) (wpAny_looks_onW (Q:=λ_ f=>∃h',f={ s' with heap:=h' }/\Heap.HeldW B (X.env::X.outer) e cls a0 X.env.locals h'/\s'.heap.UpToSlots h') (E:=λ_ _=>False) k hf F λh' j g=>⟨h',rfl,j,g⟩) k0) (λ_ f z=>?_) λ_ _ z=>z.1.elim;obtain⟨⟨h',rfl,j,g⟩,k0'⟩:=z;exact hQ h' B a0 j F.1 g c1 (λb o q d=>c2 b o q (G b o q d)<|nx b) c3 k0'
 ·rw[hst]at F c2;rw[hf]at O
  cases O
  refine eT hf F.2.2.2 ?_;exact hQ s'.heap B a0 F F.1 (Heap.UpToSlots.refl _) c1 (λb o q d=>c2 b o q (G b o q d)<|nx b) c3 k0
end
section
variable {X:Cx}{pn' pins:bt}{xe':aa->aA->Prop}{σ:L2.St}{H:Hp}{s':aA}{e C:aj}{B h6:ak}{a0:aa}
def yc(I:Inv (X.nQ pn' xe') pins σ H s')(hex:X.ex=[])(F:Heap.FlyingW B (X.env::X.outer) e (.ref C) a0 h6)(k1:B.StaysIn s'.heap)(up:s'.heap.UpToSlots h6)
  (c1:∀a u,H a=some u->∃o,B.get? a=some o) (c2:∀b o,X.s₀.heap.get? b=some o->b∉X.fs->∃o',B.get? b=some o') (c3:∀p∈pn',∃o',B.get? p.1=some o') (k0:C0 e h6) :
  Fr0 X e/\H e=none/\∃oe,XO C oe/\Inv (X.hand pn' e oe) [] σ (upd H e<|.frz oe xu) { s' with heap:=h6 }:=by
 obtain⟨un,hok⟩:=sH I hex k1 F.1 up c1 c2;have hn:H e=none:=by
  cases q:H e with
  | none=>rfl
  | some u=>obtain⟨o,z⟩:=c1 e u q;rw[F.2.1]at z;cases z
 obtain⟨g,V,J,g2,g3,g5⟩:=k0;have ns:∀o,X.s₀.heap.get? e≠some o:=λo q=>by
  by_cases f:e∈X.fs
  ·obtain⟨_,Y,j,d2⟩:=I.ok.oW.mem f;have j:X.s₀.heap.get? e=some Y:=j;rw[q]at j;cases j;obtain⟨sl,z⟩:=un.slot e o q (I.ok.frf e f) f (by simp);rw[J]at z;have z:g=_:=aQ z;rw[z]at g2;exact d2 _ g2
  ·obtain⟨o',z⟩:=c2 e o q f;rw[F.2.1]at z;cases z
 have N:∀(b:aj) (ob:Obj),s'.heap.get? b=some ob->(∀K,ob.data≠.fields K)->b≠e:=λb ob q d z=>by
  obtain⟨sl,U⟩:=up b ob q d;rw[z,J]at U;have U:g=_:=aQ U;rw[U]at g2;exact d _ g2
 obtain⟨m,hm,hl⟩:=id I.loc;have L:s'.heap.Ns X.env.locals m:=hm;have G:∀c v,s'.heap.IsCell c v->h6.IsCell c v:=λc v h9=>by
  obtain⟨oc,q,d⟩:=h9;obtain⟨sl,z⟩:=up c oc q λK y=>by rw[d]at y;cases y
  exact⟨_,z,d⟩
 have Z:X.env.locals≠e:=by
  obtain⟨oL,es,ep,q,d,_⟩:=id L;exact N _ oL q λK y=>by rw[d]at y;cases y
 have xo:XO C g:=by
  obtain⟨_,_,_,oe,K,T,oT,ts,P,⟨hc,_⟩,hd,_⟩:=F;rw[J]at P;have P:g=oe:=aQ P;subst P;exact⟨hc,g5,V,g2,g3⟩
 have no:∀u,H e≠some u:=λu q=>by rw[hn]at q;cases q
 have fr:Fr0 X e:=⟨ns,λxs q=>no _<|un.tups e xs q,λo u q=>no _<|un.frzs e o u q,λps q=>let⟨_,z⟩:=un.tbls e ps q;no _ z⟩;refine⟨fr,hn,g,xo,⟨I.ok.mod,I.ok.kind,I.ok.glob,I.ok.blt,I.ok.above,I.ok.inj,I.ok.has,I.ok.cab,λh=>(by cases h),I.ok.frames,I.ok.stk,I.ok.exf,λb o q=>⟨(I.ok.bs b o q).1,?_⟩,I.ok.bsz,I.ok.noex,I.ok.exfs,I.ok.oW,λb f=>?_⟩,I.os,I.bare,?_,⟨m,up.ns L,λi x v h1 h2 h3=>?_⟩,λx c h=>?_,?_,λx c h=>?_,λp hp=>?_,λb u q=>?_,I.len⟩
 ·show upd X.H₀ e _ b=none;rw[gy λz=>ns o<|by rw[<- z];exact(I.ok.bs b o q).1];exact(I.ok.bs b o q).2
 ·show upd X.H₀ e _ b=none;obtain⟨_,Y,j,d2⟩:=I.ok.oW.mem f;rw[gy λz=>ns Y<|by rw[<- z];exact j];exact I.ok.frf b f
 ·have h0:∀b o,X.s₀.heap.get? b=some o->upd X.H₀ e (.frz g xu) b=none->X.H₀ b=none:=λb o q n=>by
   rwa [gy λz=>ns o<|by rw[<- z];exact q]at n
  refine⟨λb o q n h _=>un.keep b o q (h0 b o q n) h<|by simp,λb o q n h _=>un.slot b o q (h0 b o q n) h<|by simp,λb o q n _=>?_,λb o q _=>un.there b o q<|by simp,λb xs q=>?_,λb o u q=>?_,λb ps q=>?_⟩
  ·rw[gy λz=>ns o<|by rw[<- z];exact q];exact un.free b o q (h0 b o q n) (by simp)
  ·have q:upd X.H₀ e (.frz g xu) b=some (.tup xs):=q;by_cases f:b=e
   ·rw[f,g8]at q;cases q
   ·rw[gy f]at q ⊢;exact un.tups b xs q
  ·have q:upd X.H₀ e (.frz g xu) b=some (.frz o u):=q;by_cases f:b=e
   ·rw[f,g8]at q ⊢;exact q
   ·rw[gy f]at q ⊢;exact un.frzs b o u q
  ·have q:upd X.H₀ e (.frz g xu) b=some (.tbl ps):=q;by_cases f:b=e
   ·rw[f,g8]at q;cases q
   ·rw[gy f]at q ⊢;exact un.tbls b ps q
 ·obtain⟨u,r,lk⟩:=hl i x v h1 h2 h3;refine⟨u,r,?_⟩
  rcases lk with⟨k,z⟩|⟨k,c,z,y⟩
  ·exact .inl ⟨k,z⟩
  ·exact .inr ⟨k,c,z,G c _ y⟩
 ·obtain⟨v,z⟩:=I.cell x c h;exact⟨v,G c v z⟩
 ·show upd H e _ X.env.locals=none;rw[gy Z];exact I.free
 ·obtain⟨v,oc,q,d⟩:=I.cell x c h;rw[gy<|N c oc q λK y=>by rw[d]at y;cases y];exact I.freeC x c h
 ·have hp:p∈pn':=by
   have hp:p∈pn'++[]:=hp
   rwa [bX]at hp
  obtain⟨q,n,n1,n2,d⟩:=I.pin p<|bK _ hp;obtain⟨o',z⟩:=c3 p hp;have O:=k1 _ _ z;rw[q]at O;have O:p.2=o':=aQ O;refine⟨by rw[O];exact F.1 _ _ z,?_,n1,n2,d⟩;rw[gy λy=>by rw[y,F.2.1]at z;cases z];exact n
 ·by_cases f:b=e
  ·subst f;rw[g8]at q;cases q;exact⟨J,trivial,⟨g,J⟩,λ_ _ _ _=>trivial⟩
  ·rw[gy f]at q;exact(hok b u q).stay (λ_ _ _ z=>z) (λc z=>by rw[gy<|gI z hn];exact z) λc xs z=>by rw[gy<|gI z hn];exact z
end
section
variable {X:Cx}{pins:bt}{σ:L2.St}{H:Hp}{s:aA}
def Fc{A:az}{E:aa->aA->Prop}{i:Nat}{n:Str}{v:V}{Q:Unit->aA->Prop}(I:Inv X pins σ H s)(hN:X.N.Nodup)(hi:X.N[i]?=some n)(hlo:X.env.scope.names.lookup n=some .local)(hv:σ[i]?=some (some v))
  (h:∀s',Inv X pins (σ.set i none) H s'->Q Unit.unit s'):wpAny M A (unbindName X.env n) Q E s:=by
 obtain⟨m,hn,K⟩:=id I.loc;obtain⟨u,r,lk⟩:=K i n v hi hv<|.inl hlo;have Z:m n=some u:=by
  rcases lk with⟨_,z⟩|⟨k,_⟩
  ·exact z
  ·exfalso;have hk:X.env.kindOf n=some .local:=hlo
   rcases k with k|k<;>(rw[hk]at k;cases k)
 have J:(X.env.scope.kind == .class || (X.env.scope.kind == .module && X.env.locals != X.env.globals))=false:=by rw[I.ok.kind];rfl
 refine wpAny_unbindName_local hlo hn Z J λh' u' C hs=>?_;have f:∀b o,X.s₀.heap.get? b=some o->h'.get? b=s.heap.get? b:=λb o q=>hs.2 b<|bh<|aY (aP q) I.ok.above;obtain⟨oL,_,_,Y,_⟩:=id hn;refine h _ ⟨I.ok,I.os,I.bare,⟨λb o q F G g=>(f b o q).trans<|I.base.keep b o q F G g,λb o q F G g=>?_,I.base.free,λb o q g=>?_,I.base.tups,I.base.frzs,I.base.tbls⟩,⟨_,C,λj y U e1 e2 e3=>?_⟩,λy c q=>?_,I.free,I.freeC,λp hp=>?_,λb ob q=>?_,by rw[bx];exact I.len⟩
 ·obtain⟨P,z⟩:=I.base.slot b o q F G g;exact⟨P,(f b o q).trans z⟩
 ·obtain⟨o',z⟩:=I.base.there b o q g;exact⟨o',(f b o q).trans z⟩
 ·by_cases B:j=i
  ·subst B;have:j<σ.length:=(aI.mp hv).1;rw[bu this]at e2
   cases e2
  ·rw[aT<|bM B]at e2;obtain⟨w,r',q⟩:=K j y U e1 e2 e3;refine⟨w,r',?_⟩
   rcases q with⟨k,z⟩|⟨k,c,z,O⟩
   ·have:y≠n:=λz=>B<|vC hN e1<|z ▸ hi;exact .inl ⟨k,by simp[this,z]⟩
   ·exact .inr ⟨k,c,z,O.sameBut hs<|I.Mf y c z⟩
 ·obtain⟨w,z⟩:=I.cell y c q;exact⟨w,z.sameBut hs<|I.Mf y c q⟩
 ·obtain⟨z,T,ne,L,d⟩:=I.pin p hp;exact⟨(hs.2 p.1 ne).trans z,T,ne,L,d⟩
 ·refine(I.hok b ob q).stay (λc w hc z=>(hs.2 c ?_).trans z) (λ_ z=>z) λ_ _ z=>z;intro y
  rcases hc with hc|hc
  ·rw[<- hc,y,I.free]at q;cases q
  ·rw[y,I.free]at hc;cases hc
def Inv.nQ(I:Inv X pins σ H s)(xe':aa->aA->Prop):Inv (X.nQ (X.pn++pins) xe') [] σ H s:=
 ⟨⟨I.ok.mod,I.ok.kind,I.ok.glob,I.ok.blt,I.ok.above,I.ok.inj,I.ok.has,I.ok.cab,I.ok.hd,I.ok.frames,I.ok.stk,I.ok.exf,I.ok.bs,I.ok.bsz,I.ok.noex,I.ok.exfs,I.ok.oW,I.ok.frf⟩,I.os,I.bare,I.base,I.loc,I.cell,I.free,I.freeC,λp hp=>I.pin p (by
  have hp:p∈(X.pn++pins)++[]:=hp
  rwa [bX]at hp),I.hok,I.len⟩
def Inv.yh{xe':aa->aA->Prop}(I:Inv (X.nQ (X.pn++pins) xe') pins' σ H s):Inv X pins σ H s:=
 ⟨⟨I.ok.mod,I.ok.kind,I.ok.glob,I.ok.blt,I.ok.above,I.ok.inj,I.ok.has,I.ok.cab,I.ok.hd,I.ok.frames,I.ok.stk,I.ok.exf,I.ok.bs,I.ok.bsz,I.ok.noex,I.ok.exfs,I.ok.oW,I.ok.frf⟩,I.os,I.bare,I.base,I.loc,I.cell,I.free,I.freeC,λp hp=>I.pin p<|bK _ hp,I.hok,I.len⟩
def Inv.NO(I:Inv (X.hand (X.pn++pins) e oe) pins' σ H s)(ok:X.Ok)(f0:Fr0 X e):Inv X pins σ H s:=
 have h0:∀b o,X.s₀.heap.get? b=some o->X.H₀ b=none->upd X.H₀ e (.frz oe xu) b=none:=λb o q n=>by
  rw[gy λz=>f0.no o<|by rw[<- z];exact q];exact n
 ⟨ok,I.os,I.bare,⟨λb o q n=>I.base.keep b o q<|h0 b o q n,λb o q n=>I.base.slot b o q<|h0 b o q n,λb o q n=>I.base.free b o q<|h0 b o q n,I.base.there,λb xs q=>I.base.tups b xs<|show upd X.H₀ e (.frz oe xu) b=_ by rw[gy λz=>f0.tup xs<|by rw[<- z];exact q];exact q,λb o u q=>I.base.frzs b o u<|show upd X.H₀ e (.frz oe xu) b=_ by rw[gy λz=>f0.frz o u<|by rw[<- z];exact q];exact q,λb ps q=>I.base.tbls b ps<|show upd X.H₀ e (.frz oe xu) b=_ by rw[gy λz=>f0.tbl ps<|by rw[<- z];exact q];exact q⟩,I.loc,I.cell,I.free,I.freeC,λp hp=>I.pin p<|bK _ hp,I.hok,I.len⟩
end
section
variable {M:Model}{A:az}{E:aa->aA->Prop}{h:ak}{g:Array GenState}{d:Drawn}{t:Nat}{os:OsState}{C N D N':aj}{nm q nm' q':Str}{bs bm bs' bm':bd}{hdct hdct':Bool}{sn sn':ba}{sub sub':bd}{ab ab':Bool}{col col':bo}{dd dd':Option aj}{k0 k1 k2 k3 k5 k0' k1' k2' k3' k5':bi}{newId newId':String}
def xB{U:Obj}{Q:Bool->aA->Prop}(hC:h.get? C=some (excClassObj nm q C N bs bm hdct sn sub ab col dd k0 k1 k2 k3 k5 newId))(Z:h.get? D=some (excClassObj nm' q' D N' bs' bm' hdct' sn' sub' ab' col' dd' k0' k1' k2' k3' k5' newId'))
  (he:h.get? e=some U) (L:U.cls=.ref C) (J:bm'.contains (.type "BaseException")=true) (hq:Q ((Value.ref C::bm).contains<|.ref D) ⟨h,g,d,t,os⟩):wpAny M A (excMatches (.ref e)<|.ref D) Q E ⟨h,g,d,t,os⟩:=by
 have j:(Value.ref D::bm').contains (.type "BaseException")=true:=by rw[List.contains_cons,J,Bool.or_true]
 have f:=tc_notTuple;unfold excMatches
 repeat (first|(with_reducible refine wpAny_loadPart_at he ?_;rw[L])|with_reducible refine wpAny_loadPart_at Z ?_|(with_reducible refine wpAny_isSubtype_exc Z ?_;rw[j])|with_reducible refine wpAny_isSubtype_exc hC ?_|wp_step)
 cases k:(Value.ref C::bm).contains (.ref D)<;>(rw[k]at hq;wp_walk;exact hq)
end
abbrev mroIn (K:au)(C:aj):Option (bd):=match K.lookup C with
 | some ⟨.type "type",_,.cls cd,sl⟩=>(match cd.mro,sl.toList with
  | .ref C'::bm,[_,_,_,_,some<|.builtin _,_]=>if C'=C/\cd.hasDel=false then some bm else none
  | _,_=>none)
 | _=>none
structure ClsAt (h:ak)(C:aj)(bm:bd):Prop where
 ex:∃nm q N bs hdct sn sub ab col dd k0 k1 k2 k3 k5 newId,h.get? C=some (excClassObj nm q C N bs bm hdct sn sub ab col dd k0 k1 k2 k3 k5 newId)
def IY{K:au}{C:aj}(X:K.In h)(e:mroIn K C=some bm):ClsAt h C bm:=by
 unfold mroIn at e;split at e
 ·rename_i dd cd g B;split at e
  ·rename_i G bm' k0 k1 k2 k3 n k5 j hs;split at e
   ·rename_i hc
    cases e
    obtain⟨rfl,d⟩:=hc;obtain⟨nm,bs,m,F,k,hd,sn,sub,ab,col,p⟩:=cd;dsimp only at j d;subst j d;have f:g=#[k0,k1,k2,k3,some<|.builtin n,k5]:=by
     obtain⟨l⟩:=g;simp only at hs;rw[hs]
    subst f;exact⟨nm,k,F,bs,hd,sn,sub,ab,col,dd,k0,k1,k2,k3,k5,n,X _ _ B⟩
   ·cases e
  ·cases e
 ·cases e
abbrev Uh (i:Nat)(D:Ends):Ends:=⟨λσ H=>D.nx (σ.set i none) H,D.rt,λσ H=>D.bk (σ.set i none) H,λσ H=>D.ct (σ.set i none) H⟩
section
variable {X:Cx}{pins pins':bt}{xe':aa->aA->Prop}{σ:L2.St}{H:Hp}{s':aA}{e C Dc:aj}{bm bmD:bd}{x n:Str}{i:Nat}{De:Ends}{b0:aF}{suite:List aF}{np hp:Pos}
def Ac{f:Flow}(U:X.N.Nodup)(hi:X.N[i]?=some n)(L:X.env.scope.names.lookup n=some .local)(ok:X.Ok)(f0:Fr0 X e)(h:SP (X.hand (X.pn++pins) e oe) [] (Uh i De) f s2) :
  wpAny (model X.prog X.w) X.A (do bindName X.env n .none;unbindBehindTheSuite X.env n pos) (λ_ s3=>SP X pins De f s3) X.xe s2:=by
 have m:∀{d:L2.St} {H':Hp},Inv (X.hand (X.pn++pins) e oe) [] d H' s2->(∀s3,Inv X pins (d.set i none) H' s3->SP X pins De f s3)->wpAny (model X.prog X.w) X.A (do bindName X.env n .none;unbindBehindTheSuite X.env n pos) (λ_ s3=>SP X pins De f s3) X.xe s2:=λ{d H'} J k=>by
  have J:=J.NO ok f0;have j:i<d.length:=by rw[J.len];exact(aI.mp hi).1
  refine aG<|wpAny_bindName<|sG (v:=.non) J U hi (.inl L) rfl (λs3 g=>?_)<|.inr L;unfold unbindBehindTheSuite;refine wpAny_onRaise (Fc (v:=.non) g U hi L (bu j) λp B=>k p ?_)
  rwa [List.set_set]at B
 cases f with
 | next=>obtain⟨d,H',J,q⟩:=h;exact m J λs3 g=>⟨_,_,g,q⟩
 | brk=>obtain⟨d,H',J,q⟩:=h;exact m J λs3 g=>⟨_,_,g,q⟩
 | cont=>obtain⟨d,H',J,q⟩:=h;exact m J λs3 g=>⟨_,_,g,q⟩
 | ret u=>obtain⟨v,d,H',J,r,q⟩:=h;exact m J λs3 g=>⟨v,_,_,g,r,q⟩
def JL(hst:X.stack=X.env::X.outer)(hf:X.env.frame=some X.env.locals)(hex:X.ex=[])(hN:X.N.Nodup)(hi:X.N[i]?=some n)(hlo:X.env.scope.names.lookup n=some .local)(hg:Gl X x)(hm:X.mg x=some (.ref Dc))(mD:mroIn X.K Dc=some bmD)(hbD:bmD.contains (.type "BaseException")=true)
  (I:Inv (X.nQ (X.pn++pins) xe') pins' σ H s') (R:t_ (X.nQ (X.pn++pins) xe') H e (.ref C) s') (mC:mroIn X.K C=some bm) (hCD:(Value.ref C::bm).contains (.ref Dc)=true)
  (k:∀oe s6,XO C oe->H e=none->Inv (X.hand (X.pn++pins) e oe) [] (σ.set i<|some<|.ref e) (upd H e<|.frz oe xu) s6->wpAny (model X.prog X.w) (X.A.mark<|some<|.ref e) (execs (b0::suite) X.env) (SP (X.hand (X.pn++pins) e oe) []<|Uh i De) (λ_ _=>False) s6)
  (ok:X.Ok) (hdb:(x == ("__debug__" : Str))=false) :
  wpAny (model X.prog X.w) X.A (noteFrame (.ref e) X.env) (λ_ s2=>wpAny (model X.prog X.w) X.A (setFlight (.ref e) none) (λ_ s3=>wpAny (model X.prog X.w) X.A (handleBy (.ref e) X.env [.ExceptHandler (some<|.Name x np) (some n) (b0::suite) hp]) (SP X pins De) X.xe s3) X.xe s2) X.xe s':=by
 refine EZ I hst hf hex R λh4 B a0 j k1 m c1 c2 c3 z4=>?_;refine bY (gU.any (e:=e) (gU.flight _ _) (wpAny_landsW (Q:=λ_ d=>∃h',d={ s' with heap:=h' }/\Heap.FlyingW B (X.env::X.outer) e (.ref C) a0 h'/\h4.UpToSlots h') (E:=λ_ _=>False) j λh' F J=>⟨h',rfl,F,J⟩) z4) (λ_ d z=>?_) λ_ _ z=>z.1.elim;obtain⟨⟨h5,rfl,L,g⟩,O⟩:=z;obtain⟨_,_,o5,V,p⟩:=yc I hex L k1 (m.trans g) c1 c2 c3 O;refine wpAny_handleBy_cons (codeAny_handlers_test<|r9 (X:=X.hand (X.pn++pins) e o5) p hg hm ?_ hdb) (by intro q;cases q);obtain⟨g1,_⟩:=p.hok e _ g8;obtain⟨_,_,_,_,_,_,_,_,_,_,_,_,_,_,_,_,hC⟩:=(IY p.rg mC).ex;obtain⟨_,_,_,_,_,_,_,_,_,_,_,_,_,_,_,_,Y⟩:=(IY p.rg mD).ex;refine xB hC Y g1 V.cls hbD ?_;rw[hCD];refine codeAny_handlers_suite_as ?_;refine bY (gU.any (e:=e) (gU.flight _ _) (lands_againW (Q:=λ_ d=>∃h',d={ s' with heap:=h' }/\Heap.FlyingW B (X.env::X.outer) e (.ref C) a0 h'/\h5.UpToSlots h') (E:=λ_ _=>False) L λh' F J=>⟨h',rfl,F,J⟩) O) (λ_ d z=>?_) λ_ _ z=>z.1.elim;obtain⟨⟨h6,rfl,F6,G⟩,T⟩:=z;obtain⟨f0,n6,P,x6,I6⟩:=yc I hex F6 k1 ((m.trans g).trans G) c1 c2 c3 T;refine sG (X:=X.hand (X.pn++pins) e P) (v:=.ref e) I6 hN hi (.inl hlo) rfl (λU I7=>?_)<|.inr hlo;exact bY (k P U x6 n6 I7) (λf s8 Z=>Ac hN hi hlo ok f0 Z) λ_ _ z=>z.elim
end
open PySem.W in
structure XCls (K:au)(C:aj):Prop where
 ga:findIn K (.ref C) "__getattribute__" = some (some<|.builtin "BaseException.__getattribute__")
 gt:findIn K (.ref C) "__getattr__" = some none
 fc:findObj K C none "__class__" = some (.bind (.builtin "getset_descriptor.__get__")<|.builtin "object.__class__")
 ob:PySem.W.mroIn K C (.type "object")=some true
 bs:subIn K (.ref C) (.type "BaseException")=some true
section
open PySem.W
variable {K:au}{C a:aj}{ox:Obj}{prog:ah}{w:af}{A:az}{E:aa->aA->Prop}{h:ak}{g:Array GenState}{d:Drawn}{t:Nat}{os:OsState}
def Gp{Q:Fin->aA->Prop}(x:XCls K C)(X:K.In h)(I:PySem.W.InstAt h a ox C none)(J:Q (.done<|.ret<|.ref C) ⟨h,g,d,t,os⟩) :
  wpAny (model prog w) A (Builtin.«object.__getattribute__» ⟨[.ref a,.str "__class__" tk],[]⟩) Q E ⟨h,g,d,t,os⟩:=by
 have f:=I.type (M:=model prog w);have j:=looks_find (M:=model prog w) X I x.fc;unfold Builtin.«object.__getattribute__»
 repeat (first|with_reducible refine aG (fW ?_)|with_reducible refine fW ?_|lk)
 refine class_get X I x.ob ?_
 repeat lk
 exact J
def G7{Q:Unit->aA->Prop}(x:XCls K C)(X:K.In h)(I:PySem.W.InstAt h a ox C none)(J:Q Unit.unit ⟨h,g,d,t,os⟩):wpAny M A (checkBuiltinCall "BaseException.__getattribute__" ⟨[.ref a,nv],[]⟩) Q E ⟨h,g,d,t,os⟩:=by
 have m:builtinKind "BaseException.__getattribute__" = some .slot:=by decide +kernel
 have hs:splitId "BaseException.__getattribute__" = some ("BaseException", "__getattribute__"):=by decide +kernel
 have B:Looks M h (isInstance (.ref a)<|.type "BaseException") true:=(I.type (M:=M)).andThen<|looks_subIn X x.bs;have k:=F.args_bexc_ga (.ref a) nv;dsimp[checkBuiltinCall,m,hs];refine aG<|B.at ?_;show wpAny M A (match Manifest.signature? "BaseException.__getattribute__" with
  | some f=>Bind.checkArgs "BaseException.__getattribute__" f { pos:=[Value.ref a,nv]}
  | x=>pure Unit.unit) Q E _
 cases j:Manifest.signature? "BaseException.__getattribute__" with
 | none=>exact aM J
 | some f=>
  dsimp[argsOk,j]at k;have p:Bind.checkArgs "BaseException.__getattribute__" f ⟨[.ref a,nv],[]⟩=pure Unit.unit:=k;show wpAny M A (Bind.checkArgs "BaseException.__getattribute__" f ⟨[.ref a,nv],[]⟩) Q E _;rw[p];exact aM J
def LU(self:aa):bindSpecial (.builtin "BaseException.__getattribute__") self=pure (.builtin "BaseException.__getattribute__",[self]):=by
 have h1:withoutEnding? "BaseException.__getattribute__" "#opaque" = none:=by decide +kernel
 have d:withoutEnding? "BaseException.__getattribute__" "#data" = none:=by decide +kernel
 have f:builtinKind "BaseException.__getattribute__" = some .slot:=by decide +kernel
 dsimp[bindSpecial,typeOf,builtinType,h1,d,f];rfl
def RP{Q:aa->aA->Prop}(x:XCls K C)(X:K.In h)(I:PySem.W.InstAt h a ox C none)(J:Q (.ref C) ⟨h,g,d,t,os⟩):wpAny (model prog w) A (getAttrBy (.ref a) (.str "__class__" tk) false) Q E ⟨h,g,d,t,os⟩:=by
 have f:=I.type (M:=model prog w);have j:=looks_findIn (M:=model prog w) X x.ga;have L2:=looks_findIn (M:=model prog w) X x.gt;unfold getAttrBy;refine b_<|aG<|f.at<|aG<|j.at ?_;show wpAny _ _ (if (onTheHeap (Value.ref C) && Value.builtin "BaseException.__getattribute__" == Value.builtin "object.__getattribute__")=true then _ else getAttrByItsOwn (.ref a) (.str "__class__" tk) (.ref C) (.builtin "BaseException.__getattribute__") false false) _ _ _;have ne:(Value.builtin "BaseException.__getattribute__" == Value.builtin "object.__getattribute__")=false:=by decide +kernel
 rw[ne,f9,aO bC];unfold getAttrByItsOwn hookBefore;rw[aR<|show onTheHeap (Value.ref C)=true from rfl];refine aG<|L2.at<|aG<|wpAny_attempt<|b_ ?_;unfold callGetattribute boundAndCalled
 skip
 rw[LU,pure_bind];refine fW<|codeAny_call_builtin ∅ F.entry_bexc_ga (G7 x X I<|Gp x X I ?_);exact aM J
def Kx{Q:bi->aA->Prop}(x:XCls K C)(X:K.In h)(I:PySem.W.InstAt h a ox C none)(j:Q (some<|.ref C) ⟨h,g,d,t+1,os⟩):wpAny (model prog w) A (getAttr? (.ref a) "__class__") Q E ⟨h,g,d,t,os⟩:=by
 unfold getAttr? getAttrBy?;refine aG<|wpAny_mkText<|aG<|wpAny_attempt<|RP x X I ?_;exact aM j
abbrev VB (C a:aj):ak->Prop:=λh=>∃ox,PySem.W.InstAt h a ox C none
def HG(x:XCls K C)(hc:(clsIn K C).isSome=true):KitX K (.ref a) (.ref C) (VB C a) where
 ty:=λ_ _ _ ⟨_,I⟩=>I.type
 it:=λ_ _ X _=>by
  unfold clsIn at hc;split at hc
  ·rename_i f;intro F N m s' k q;unfold isType loadHead;exact aG (wpAny_loadPart (k _ _<|X _ _ f)<|aM q)
  ·cases hc
 ne:=λh g dd j n B X d=>by
  refine Bool.eq_false_iff.mpr λq=>?_;have e:C=g:=Value.ref.inj<|dN.mp q;subst e;unfold clsIn at hc;split at hc
  ·rename_i f;have z:=(X _ _ f).symm.trans d
   cases z
  ·cases hc
 ca:=λ{_ _ _ _ _ s} X ⟨_,I⟩ k=>by
  obtain⟨p,J,dd,G,L⟩:=s;exact Kx x X I k
end
section
variable {X:Cx}{C:aj}{pins:bt}{σ:L2.St}{H:Hp}{s:aA}
def Bp{A:az}{E:aa->aA->Prop}{Q:aa->aA->Prop}{a:aj}{c:aa}(x:XCls X.K C)(hc:(PySem.W.clsIn X.K C).isSome=true)(I:Inv X pins σ H s)(J:H a=some (.frz oe xu))(L:XO C oe)(e:PySem.W.kitOne X.K (.ref C) c=some b)(h:∀tk,Q (.bool b) { s with toks:=tk }) :
  wpAny (model X.prog X.w) A (call (.builtin "isinstance") [.ref a,c]) Q E s:=by
 obtain⟨f,_⟩:=I.hok a _ J;obtain⟨g2,d,j,g,k⟩:=L;refine bW (HG x hc) I.rg ⟨oe,f,g2,?_,?_⟩ e (λz=>nomatch z) h
 ·unfold PySem.W.notCls;rw[g]
 ·rw[d];trivial
end
end L2
namespace L2
open PySem PySem.Spec PyProof.Rows
end L2
namespace L2
open PySem PySem.Spec PyProof.Rows PySem.SeqAt
def O3:bootBuiltins "zip" = some (.type "zip"):=by decide +kernel
abbrev SN (K:au)(j J:aj):It:=
 ⟨λi H=>∃xs ys x y,jM K H j xs/\jM K H J ys/\xs[i]?=some x/\ys[i]?=some y,
  λi H v H'=>∃T,H T=none/\v=.ref T/\∀xs ys x y,jM K H j xs->jM K H J ys->xs[i]?=some x->ys[i]?=some y->H'=upd H T (.tup [x,y]),
  λi H=>∃xs ys,jM K H j xs/\jM K H J ys/\(xs[i]?=none\/ys[i]?=none)⟩
def Kz{P:ah}{w:af}{K:au}{TI TO:aj}(D:ZipApart z TI TO i1 i2 l1 l2) :
  Turn P w K (.Tuple elts x1 tpos) (SN K l1 l2) [z,TI,TO,i1,i2] z (λi h=>IsZip h z TI TO .none/\IsPair h TI (.ref i1) (.ref i2)/\(∃a b,IsPair h TO a b)/\h.IsListIter i1 l1 i/\h.IsListIter i2 l2 i) where
 mem:=by simp
 obj:=λi h st b G=>by
  obtain⟨s1,s2,⟨a,b',s3⟩,⟨o4,e4,c4,d4⟩,⟨o5,e5,c5,d5⟩⟩:=st;have B:b=z\/b=TI\/b=TO\/b=i1\/b=i2:=by simpa using G
  rcases B with rfl|rfl|rfl|rfl|rfl
  ·exact⟨_,s1,λv z=>by cases z⟩
  ·exact⟨_,s2,λv z=>by cases z⟩
  ·exact⟨_,s3,λv z=>by cases z⟩
  ·exact⟨o4,e4,λv z=>by rw[d4]at z;cases z⟩
  ·exact⟨o5,e5,λv z=>by rw[d5]at z;cases z⟩
 keep:=λi h h' st k=>by
  obtain⟨s1,s2,⟨a,b',s3⟩,s4,s5⟩:=st;exact⟨k z (by simp) _ s1,k TI (by simp) _ s2,⟨a,b',k TO (by simp) _ s3⟩,s4.at λo C=>k i1 (by simp) o C,s5.at λo C=>k i2 (by simp) o C⟩
 item:=by
  w_up;subst hP hw hK;obtain⟨s1,s2,⟨a,b',s3⟩,s4,s5⟩:=st;obtain⟨xs,ys,x,y,V,Y,hx,hy⟩:=hg;obtain⟨Z,rv1,p1,hz1⟩:=I.list V;obtain⟨its2,rv2,p2,hz2⟩:=I.list Y;obtain⟨u1,hu1,ru1⟩:=rv1.get hx;obtain⟨u2,hu2,ru2⟩:=rv2.get hy;refine wpAny_pyNext_zip_item D s1 s2 s3 s4 s5 p1.isList p2.isList (x:=u1) (y:=u2) (by simpa using hu1) (by simpa using hu2) λh' hz' hTO' h1' h2' hT hsz hk=>?_;refine⟨_,rfl,wpAny_letOwnedTupleGo_zip hz' λh2 he2 T=>?_⟩;have fT:H s.heap.objs.size=none:=I.hok.fresh<|aJ _;have lz:z<s.heap.objs.size:=aP s1;have lTI:TI<s.heap.objs.size:=aP s2;have lTO:TO<s.heap.objs.size:=aP s3;have li1:i1<s.heap.objs.size:=by obtain⟨o,C,_⟩:=s4;exact aP C
  have li2:i2<s.heap.objs.size:=by obtain⟨o,C,_⟩:=s5;exact aP C
  have k2:∀b o,b≠z->b≠TO->b≠i1->b≠i2->s.heap.get? b=some o->h2.get? b=some o:=λb o J O N L q=>T.extBut b o J<|hk b o J O N L q;have hT2:IsPair h2 s.heap.objs.size u1 u2:=T.extBut _ _ (fV lz) hT;have fz:=hf z (by simp);have fTI:=hf TI (by simp);have g:=hf TO (by simp);have d:=hf i1 (by simp);have f:=hf i2 (by simp);have nT:∀b o,s.heap.get? b=some o->b≠s.heap.objs.size:=λb o q=>bh<|aP q;have p:∀c v,H c=some v->c≠z/\c≠TO/\c≠i1/\c≠i2:=λc v q=>⟨(λw=>by rw[w,fz.1]at q;cases q),(λw=>by rw[w,g.1]at q;cases q),(λw=>by rw[w,d.1]at q;cases q),(λw=>by rw[w,f.1]at q;cases q)⟩;have F:∀b,b∉[z,TO,i1,i2]->b≠z/\b≠TO/\b≠i1/\b≠i2:=λb G=>by simpa using G
  have I2:Inv X pins σ (upd H s.heap.objs.size<|.tup [x,y]) { s with heap:=h2,toks:=s.toks }:=by
   refine I.step (g':=s.gens) (d':=s.drawn) (ch:=[z,TO,i1,i2]) (λb G=>?_) (λb o _ _ j q _=>?_) (λb o _ _ j q _=>?_) (λb o j q n=>?_) (λb o j q=>?_) (λb ys q=>?_) (λb o u' q=>?_) (λb ps q=>?_) (λm hm=>?_) (λb u' q=>?_) I.bare
   ·have B:b=z\/b=TO\/b=i1\/b=i2:=by simpa using G
    rcases B with rfl|rfl|rfl|rfl
    ·exact⟨fz.2.2.2.1,fz.2.1,fz.2.2.2.2.1,fz.2.2.2.2.2⟩
    ·exact⟨g.2.2.2.1,g.2.1,g.2.2.2.2.1,g.2.2.2.2.2⟩
    ·exact⟨d.2.2.2.1,d.2.1,d.2.2.2.2.1,d.2.2.2.2.2⟩
    ·exact⟨f.2.2.2.1,f.2.1,f.2.2.2.2.1,f.2.2.2.2.2⟩
   ·obtain⟨J,O,N,L⟩:=F b j;exact k2 b o J O N L q
   ·obtain⟨J,O,N,L⟩:=F b j;exact⟨o.slots,k2 b o J O N L q⟩
   ·rw[gy<|nT b o q];exact n
   ·obtain⟨J,O,N,L⟩:=F b j;exact⟨o,k2 b o J O N L q⟩
   ·rw[gy<|gI q fT];exact q
   ·rw[gy<|gI q fT];exact q
   ·exact⟨#[],by rw[gy<|gI q fT,q];simp⟩
   ·obtain⟨o,es,ep,C,r⟩:=hm;exact⟨o,es,ep,k2 _ o (bM fz.2.1) (bM g.2.1) (bM d.2.1) (bM f.2.1) C,r⟩
   ·by_cases G:b=s.heap.objs.size
    ·subst G;rw[g8]at q
     cases q
     exact⟨by show 2<=sizeLine;decide,[u1,u2],.cons ru1<|.cons ru2 .nil,⟨_,hT2,rfl,rfl,0,rfl⟩⟩
    ·rw[gy G]at q;refine(I.hok b u' q).stay (λc v hc q'=>?_) (λc q'=>?_) λc ys q'=>?_
     ·have U:c≠z/\c≠TO/\c≠i1/\c≠i2:=by
       rcases hc with w|w
       ·rw[w];exact p b u' q
       ·exact p c _ w
      exact k2 c v U.1 U.2.1 U.2.2.1 U.2.2.2 q'
     ·rw[gy<|gI q' fT];exact q'
     ·rw[gy<|gI q' fT];exact q'
  refine⟨.ref s.heap.objs.size,_,I2,rfl,⟨s.heap.objs.size,fT,rfl,λxs' ys' x' y' hy1 hy2 e1 e2=>?_⟩,⟨he2,?_,⟨u1,u2,?_⟩,?_,?_⟩,λb G=>?_⟩
  ·rw[I.vK hy1 V,hx]at e1;rw[I.vK hy2 Y,hy]at e2
   cases e1;cases e2;rfl
  ·exact k2 TI _ D.TIz D.TITO D.TIi1 D.TIi2 s2
  ·exact T.extBut TO _ D.TOz hTO'
  ·exact h1'.at λo C=>T.extBut i1 o D.i1z C
  ·exact h2'.at λo C=>T.extBut i2 o D.i2z C
  ·have B:b=z\/b=TI\/b=TO\/b=i1\/b=i2:=by simpa using G
   rcases B with rfl|rfl|rfl|rfl|rfl
   ·rw[gy<|bh lz];exact fz.1
   ·rw[gy<|bh lTI];exact fTI.1
   ·rw[gy<|bh lTO];exact g.1
   ·rw[gy<|bh li1];exact d.1
   ·rw[gy<|bh li2];exact f.1
 done:=by
  w_up;subst hP hw hK;obtain⟨s1,s2,⟨a,b',s3⟩,s4,s5⟩:=st;obtain⟨xs,ys,V,Y,hend⟩:=hg;obtain⟨Z,rv1,p1,hz1⟩:=I.list V;obtain⟨its2,rv2,p2,hz2⟩:=I.list Y;have hl1:=rv1.length;have hl2:=rv2.length;have fz:=hf z (by simp);have g:=hf TO (by simp);have d:=hf i1 (by simp);have f:=hf i2 (by simp);have hend':Z.toArray[i]?=none\/its2.toArray[i]?=none:=by
   rcases hend with q|q
   ·left;rw[cY]at q;simp;lia
   ·right;rw[cY]at q;simp;lia
  refine wpAny_pyNext_zip_end (I.ok.hd hc) D s1 s2 s3 s4 s5 p1.isList p2.isList hend' λh' hk=>⟨rfl,?_⟩;have F:∀b,b∉[z,TO,i1,i2]->b≠z/\b≠TO/\b≠i1/\b≠i2:=λb G=>by simpa using G
  have p:∀c v,H c=some v->c≠z/\c≠TO/\c≠i1/\c≠i2:=λc v q=>⟨(λw=>by rw[w,fz.1]at q;cases q),(λw=>by rw[w,g.1]at q;cases q),(λw=>by rw[w,d.1]at q;cases q),(λw=>by rw[w,f.1]at q;cases q)⟩;refine I.step (g':=s.gens) (d':=s.drawn) (t':=s.toks) (ch:=[z,TO,i1,i2]) (λb G=>?_) (λb o _ _ j q _=>?_) (λb o _ _ j q _=>?_) (λb o j q n=>n) (λb o j q=>?_) (λb ys q=>q) (λb o u' q=>q) (λb ps q=>⟨#[],by rw[q];simp⟩) (λm hm=>?_) (λb u' q=>?_) I.bare
  ·have B:b=z\/b=TO\/b=i1\/b=i2:=by simpa using G
   rcases B with rfl|rfl|rfl|rfl
   ·exact⟨fz.2.2.2.1,fz.2.1,fz.2.2.2.2.1,fz.2.2.2.2.2⟩
   ·exact⟨g.2.2.2.1,g.2.1,g.2.2.2.2.1,g.2.2.2.2.2⟩
   ·exact⟨d.2.2.2.1,d.2.1,d.2.2.2.2.1,d.2.2.2.2.2⟩
   ·exact⟨f.2.2.2.1,f.2.1,f.2.2.2.2.1,f.2.2.2.2.2⟩
  ·obtain⟨J,O,N,L⟩:=F b j;exact hk b o J O N L q
  ·obtain⟨J,O,N,L⟩:=F b j;exact⟨o.slots,hk b o J O N L q⟩
  ·obtain⟨J,O,N,L⟩:=F b j;exact⟨o,hk b o J O N L q⟩
  ·obtain⟨o,es,ep,C,r⟩:=hm;exact⟨o,es,ep,hk _ o (bM fz.2.1) (bM g.2.1) (bM d.2.1) (bM f.2.1) C,r⟩
  ·refine(I.hok b u' q).stay (λc v hc q'=>?_) (λc q'=>q') λc ys q'=>q';have U:c≠z/\c≠TO/\c≠i1/\c≠i2:=by
    rcases hc with w|w
    ·rw[w];exact p b u' q
    ·exact p c _ w
   exact hk c v U.1 U.2.1 U.2.2.1 U.2.2.2 q'
 self:=λ_ _ _ _ _ st h=>wpAny_pyIter_zip st.1 h
section
variable {X:Cx}
abbrev Tt (K:au)(ta:TA):TI:=λσ H R=>ta σ H λd H1=>∃a b xs ys,d=[.ref a,.ref b]/\jM K H1 a xs/\jM K H1 b ys/\R (SN K a b) H1
def NK{a b:aE}{ta:TA}{p:Pos}(hg:Gl X "zip")(hm:X.mg "zip" = none)(ha:PA X [a,b] ta)(hs:starEach [a,b] X.env=(false,eval a X.env)::starEach [b] X.env<|>ε)(hpl:((backTo pos<|starEach [b] X.env).any (·.1)=false)<|>ε):PI X (.Tuple elts x1 tpos) (.Call (.Name "zip" p) [a,b] [] pos) (Tt X.K ta):=by
 intro pins s σ H R I h;refine Call_<|uo I hg hm O3<|cP (iQ (ha pos pins s σ H _ I h) λus d ⟨vs,H1,I1,r1,q1⟩=>?_) hs hpl;obtain⟨t1,Y,xs,ys,e,F,j,q⟩:=q1;subst e;obtain⟨u1,f,rfl,g,r2⟩:∃u f,us=u::f/\RelV (.ref t1) u/\Vals [.ref Y] f:=by
  cases r1 with|cons h t=>exact⟨_,_,rfl,h,t⟩
 obtain⟨u2,rfl,G⟩:=vals1 r2
 cases g
 cases G
 obtain⟨Z,rv1,p1,hz1⟩:=I1.list F;obtain⟨V,rv2,p2,hz2⟩:=I1.list j;refine call_zip_2 p1.isList p2.isList λh' T J m P L hsz hk=>?_;have I2:Inv X pins σ H1 { d with heap:=h' }:=I1.kept (t':=d.toks) hk;have B:t1<d.heap.objs.size:=by obtain⟨o,N,_⟩:=p1.isList;exact aP N
 have C:Y<d.heap.objs.size:=by obtain⟨o,N,_⟩:=p2.isList;exact aP N
 have fr:∀k,H1 (d.heap.objs.size+k)=none:=λk=>I1.hok.fresh<|Nat.le_add_right _ k;refine wpAny_pyIter_zip T ⟨_,[d.heap.objs.size+4,d.heap.objs.size+2,d.heap.objs.size+3,d.heap.objs.size,d.heap.objs.size+1],_,_,H1,rfl,I2,Kz<|zipApart_new B C,⟨T,J,⟨_,_,m⟩,P,L⟩,λb U=>?_,q⟩;have O:∃k,b=d.heap.objs.size+k:=by
  dsimp[bJ,fU,or_false]at U
  rcases U with rfl|rfl|rfl|rfl|rfl
  ·exact⟨4,rfl⟩
  ·exact⟨2,rfl⟩
  ·exact⟨3,rfl⟩
  ·exact⟨0,rfl⟩
  ·exact⟨1,rfl⟩
 obtain⟨k,rfl⟩:=O;exact I1.B5 (Nat.le_add_right _ k)<|fr k
end
end L2
namespace Sx
open PySem PyProof.Rows
structure Ord where
 lt:Nat->Nat->Bool
 irr:∀i,lt i i=false
 tr:∀i j k,lt i j=true->lt j k=true->lt i k=true
 neg:∀i j k,lt i k=true->lt i j=true\/lt j k=true
abbrev P (o:Ord)(i j:Nat):Prop:=o.lt i j=true\/(o.lt j i=false/\i<j)
abbrev So (o:Ord)(g:Nat->Nat)(a b:Nat):Prop:=∀i j,a<=i->i<j->j<b->P o (g i) (g j)
abbrev Cl (g:Nat->Nat)(a b:Nat):Prop:=∀i,a<=i->i<b->a<=g i/\g i<b
section
variable {o:Ord}{N:Nat}{f:Nat->Keyed}{kd:SortKind}{g:Nat->Nat}{p:Array (Nat×Nat×Nat)}{st:SortSt}
structure Rn (o:Ord)(g0 g:Nat->Nat)(a b:Nat):Prop where
 out:∀i,i<a\/b<=i->g i=g0 i
 cl:Cl g a b
 so:So o g a b
end
section
variable {o:Ord}{g g0:Nat->Nat}
structure Dc (o:Ord)(g0 g:Nat->Nat)(a b q:Nat):Prop where
 out:∀i,i<a\/b<=i->g i=g0 i
 cl:Cl g a b
 few:a+(q+1)<=b
 dn:∀i j,a<=i->i<j->j<b->i<b-(q+1)->P o (g j) (g i)
 id:∀i,b-(q+1)<=i->i<b->g i=i
 al:∀i j,b-(q+1)<=i->i<b->b-(q+1)<=j->j<b->o.lt i j=false
abbrev Fin (o:Ord)(g0 g:Nat->Nat)(a b:Nat):Prop:=(∀i,i<a\/b<=i->g i=g0 i)/\Cl g a b/\(∀i j,a<=i->i<j->j<b->P o (g j) (g i))
end
abbrev Cs:Bool->Keyed->Array Keyed->Nat->Nat->Nat->StateT SortSt Sem (bp):=sortPriv% PySem.Builtin.gallop
abbrev QC:Nat->StateT SortSt Sem Unit:=sortPriv% PySem.Builtin.setMinGallop
section
variable {o:Ord}{N:Nat}{f:Nat->Keyed}{A B hs:ar}{ia ib:Nat}
abbrev fa (f:Nat->Keyed)(l:ar):Array Keyed:=(l.map f).toArray
abbrev Res (o:Ord)(f:Nat->Keyed)(A B:ar)(out:Array Keyed):Prop:=∃hs:ar,out=fa f hs/\hs.length=A.length+B.length/\hs.Pairwise (P o)/\∀x∈hs,x∈A\/x∈B
end
structure Sm (st st':SortSt):Prop where
 a:arrOf st'=arrOf st
 k:kindOf st'=kindOf st
 p:pendingOf st'=pendingOf st
 f:failedOf st'=failedOf st
meta abbrev G:=Option (Array Keyed)×Array Keyed×Nat×Nat×Nat×Nat×Nat
abbrev T3 (a b out:Array Keyed)(ia ib mg j J:Nat):StateT SortSt Sem (ForInStep G):=do
 let x <- elem' a ia
 if (ia+1+1 == a.size)=true then pure (ForInStep.done (some<|out.push x++b.extract ib b.size++a.extract (ia+1) a.size,out.push x,ia+1,ib,mg,j,J))
 else if (decide (j<7) && decide (J<7))=true then pure (ForInStep.done (none,out.push x,ia+1,ib,mg,j,J))
 else pure (ForInStep.yield (none,out.push x,ia+1,ib,mg,j,J))
abbrev T2 (a b out:Array Keyed)(ia ib mg j J:Nat):StateT SortSt Sem (ForInStep G):=do
 let x <- elem' b ib
 if (ib+1 == b.size)=true then pure (ForInStep.done (some<|out.push x++a.extract ia a.size++b.extract (ib+1) b.size,out.push x,ia,ib+1,mg,j,J))
 else
  let y <- elem' a ia
  let r <- Cs true y b (ib+1) (b.size-(ib+1)) 0
  match r with
  | some k=>
   if k>0 then
    if (ib+1+k == b.size)=true then pure (ForInStep.done (some<|out.push x++b.extract (ib+1) (ib+1+k)++a.extract ia a.size++b.extract (ib+1+k) b.size,out.push x++b.extract (ib+1) (ib+1+k),ia,ib+1+k,mg,j,k))
    else T3 a b (out.push x++b.extract (ib+1) (ib+1+k)) ia (ib+1+k) mg j k
   else T3 a b (out.push x) ia (ib+1) mg j k
  | _=>pure<|ForInStep.done (some<|out.push x++a.extract ia a.size++b.extract (ib+1) b.size,out.push x,ia,ib+1,mg,j,J)
abbrev T1 (a b out:Array Keyed)(ia ib mg J j:Nat):StateT SortSt Sem (ForInStep G):=do
 QC mg
 let x <- elem' b ib
 let r <- Cs false x a ia (a.size-ia) 0
 match r with
 | some k=>
  if k>0 then
   if (ia+k+1 == a.size)=true then pure (ForInStep.done (some<|out++a.extract ia (ia+k)++b.extract ib b.size++a.extract (ia+k) a.size,out++a.extract ia (ia+k),ia+k,ib,mg,k,j))
   else if (ia+k == a.size)=true then pure (ForInStep.done (some<|out++a.extract ia (ia+k)++a.extract (ia+k) a.size++b.extract ib b.size,out++a.extract ia (ia+k),ia+k,ib,mg,k,j))
   else T2 a b (out++a.extract ia (ia+k)) (ia+k) ib mg k j
  else T2 a b out ia ib mg k j
 | _=>pure<|ForInStep.done (some<|out++a.extract ia a.size++b.extract ib b.size,out,ia,ib,mg,J,j)
section
variable {o:Ord}{A B ts:ar}{na nb:Nat}
structure Mh (o:Ord)(A B ts:ar)(na nb:Nat):Prop where
 la:na<=A.length
 lb:nb<=B.length
 len:ts.length+na+nb=A.length+B.length
 so:ts.Pairwise (P o)
 mem:∀x∈ts,x∈A\/x∈B
 ua:∀y∈A.take na,∀x∈ts,P o y x
 ub:∀y∈B.take nb,∀x∈ts,P o y x
end
meta abbrev H:=Option (Array Keyed)×Nat×Nat×Array Keyed×Nat×Nat×Nat
section
variable {o:Ord}{f:Nat->Keyed}{st0:SortSt}{X Y ts:ar}{na nb:Nat}
abbrev Oh (o:Ord)(X Y:ar)(n:Nat)(ts:ar)(na nb:Nat):Prop:=Mh o X Y ts na nb/\1<=na/\2<=nb/\na+nb+n<=X.length+Y.length
abbrev H2 (o:Ord)(f:Nat->Keyed)(X Y:ar)(n:Nat)(st0:SortSt):ForInStep H->SortSt->Prop:=λr j=>Sm st0 j/\match r with
 | .done c=>(∃r z,c=(some r,z)/\Res o f X Y r)\/∃ts na nb mg g d,c=(none,na,nb,fa f ts.reverse,mg,g,d)/\Oh o X Y n ts na nb
 | .yield c=>∃ts na nb mg g d,c=(none,na,nb,fa f ts.reverse,mg,g,d)/\Oh o X Y n ts na nb
end
meta abbrev pr (x:Nat×Nat×Nat):Nat×Nat:=(x.1,x.2.1)
abbrev Q3 (o:Ord)(g:Nat->Nat):List (Nat×Nat)->Nat->Nat->Prop
 | [],a,b=>a=b
 | x::l,a,b=>x.1=a/\1<=x.2/\Cl g a (a+x.2)/\So o g a (a+x.2)/\Q3 o g l (a+x.2) b
abbrev PA (o:Ord)(g:Nat->Nat)(p:Array<|Nat×Nat×Nat)(b:Nat):Prop:=Q3 o g (p.toList.map pr) 0 b
end Sx
namespace Am
open PySem
inductive A where
 | unb|non|bl (b:Bool)|int (i:Int)|str (x:Str)|tup (xs:List A)|frz (xs:List A)|rng (lo hi:Int)|ref (n:Nat)|exn (c:Str)|ty (n:String)|ktu (xs:List A)
@[reducible]def ae:=List A
inductive O where
 | lst (xs:ae)|dct (kvs:List<|am×A)|dki (kvs:List<|Int×A)|jE (kvs:List<|Str×A)|dcp (kvs:List<|L2.FJ×A)|dcf (kvs:List<|am×A)|dkf (kvs:List<|Int×A)|ins (c:Str) (fs:List<|Str×A)|obj (c:Str) (fs:List<|Str×A)
meta abbrev gr:=List O
inductive R (α:Type) where
 | ok (a:α) (S:gr)|ex (c:Str) (S:gr)|no
abbrev R.bind {α β:Type}(r:R α)(f:α->gr->R β):R β:=match r with
 | .ok a S=>f a S
 | .ex c S=>.ex c S
 | .no=>.no
abbrev R.post {α:Type}(r:R α)(P:α->gr->Prop)(E:Str->gr->Prop):Prop:=match r with
 | .ok a S=>P a S
 | .ex c S=>E c S
 | .no=>False
def gu{α β:Type}{r:R α}{f:α->gr->R β}{P:β->gr->Prop}{E:Str->gr->Prop}(h:(r.bind f).post P E):r.post (λa S=>(f a S).post P E) E:=by
 cases r<;>exact h
def iY{α:Type}{r:R α}{P j:α->gr->Prop}{E J:Str->gr->Prop}(h:r.post P E)(hp:∀a S,P a S->j a S)(L:∀c S,E c S->J c S):r.post j J:=by
 cases r with
 | ok a S=>exact hp _ _ h
 | ex c S=>exact L _ _ h
 | no=>exact h.elim
abbrev gd {α:Type}(c:Prop)[Decidable c](r:R α):R α:=if c then r else .no
abbrev opt {α β:Type}(o:Option β)(f:β->R α):R α:=match o with
 | some b=>f b
 | none=>.no
def gO{α:Type}{c:Prop}[Decidable c]{r:R α}{P:α->gr->Prop}{E:Str->gr->Prop}(h:(gd c r).post P E):c/\r.post P E:=by
 unfold gd at h;by_cases hc:c
 ·rw[aR hc]at h;exact⟨hc,h⟩
 ·rw[aO hc]at h;exact h.elim
def gD{α β:Type}{o:Option β}{f:β->R α}{P:α->gr->Prop}{E:Str->gr->Prop}(h:(opt o f).post P E):∃b,o=some b/\(f b).post P E:=by
 cases o with
 | none=>exact h.elim
 | some b=>exact⟨b,rfl,h⟩
def ki{α:Type}{c:Prop}[Decidable c]{r:R α}(h:c):gd c r=r:=aR h
abbrev gn (S:gr)(n:Nat):Option (ae):=match S[n]? with
 | some (.lst xs)=>some xs
 | _=>none
def gF{n:Nat}(h:gn S n=some xs):S[n]?=some (.lst xs):=by
 unfold gn at h;split at h
 ·rename_i e;cases h;exact e
 ·cases h
def mP{S:gr}{n:Nat}(h:S[n]?=some (.lst xs)):gn S n=some xs:=by
 unfold gn;rw[h]
inductive RS where
 | nx (τ:ae) (S:gr)|rt (a:A) (S:gr)|bk (τ:ae) (S:gr)|ct (τ:ae) (S:gr)|ex (c:Str) (S:gr)|no
meta abbrev Ex:=ae->gr->R A
meta abbrev lq:=ae->gr->R (ae)
meta abbrev Te:=ae->gr->R Bool
meta abbrev Sm:=ae->gr->RS
meta abbrev Tg:=A->ae->gr->R (ae)
end Am
namespace Am
open PySem L2
section
variable (K:au) (ρ:be) (H:Hp)
abbrev w_ (K:au)(c:Str)(C:aj):Prop:=PySem.W.nsIn K mainGlobals c=some (some<|.ref C)
abbrev Fz (K:au)(H:Hp)(a:aj)(vs:List V):Prop:=
 (∃o,H a=some (.frz o<|.lst vs))\/∃(o:Obj) (d:Array aa) (n:Nat),K.lookup a=some o/\o.cls=.type "list" /\ o.dict=none/\o.data=.seq d n/\d.size<=sizeLine/\Vals vs d.toList
abbrev Vd (K:au)(a:aj)(vs:List V):Prop:=∃(o:Obj) (d:Array aa) (n:Nat),K.lookup a=some o/\o.cls=.type "tuple" /\ o.dict=none/\o.data=.seq d n/\d.size<=sizeLine/\Vals vs d.toList
mutual
inductive AV:A->V->Prop
 | non:AV .non .non
 | bl (b:Bool):AV (.bl b) (.bl b)
 | int (i:Int):AV (.int i) (.int i)
 | str (x:Str):AV (.str x) (.str x)
 | ty (n:String):AV (.ty n) (.ty n)
 | tup {a:aj} {xs:ae} {vs:List V} (h:H a=some (.tup vs)) (r:AVs xs vs):AV (.tup xs) (.ref a)
 | frz {a:aj} {xs:ae} {vs:List V} (h:Fz K H a vs) (r:AVs xs vs):AV (.frz xs) (.ref a)
 | rng {a:aj} {lo hi:Int} (h:H a=some (.rng lo hi)):AV (.rng lo hi) (.ref a)
 | ref {a:aj} {n:Nat} (h:ρ[n]?=some a):AV (.ref n) (.ref a)
 | exn {a C:aj} {c:Str} {oe:Obj} (n:w_ K c C) (h:H a=some (.frz oe xu)) (x:XO C oe):AV (.exn c) (.ref a)
 | ktu {a:aj} {xs:ae} {vs:List V} (h:Vd K a vs) (r:AVs xs vs):AV (.ktu xs)<|.ref a
inductive AVs:ae->List V->Prop
 | nil:AVs [] []
 | cons {x:A} {v:V} {xs:ae} {vs:List V} (h:AV x v) (t:AVs xs vs):AVs (x::xs) (v::vs)
end
abbrev DV:List (am×A)->List (List Key×V)->Prop
 | [],[]=>True
 | p::r,q::r'=>(q.1=p.1.map Sum.inl/\AV K ρ H p.2 q.2)/\DV r r'
 | _,_=>False
abbrev DI:List (Int×A)->List (Key×V)->Prop
 | [],[]=>True
 | p::r,q::r'=>(q.1=Sum.inl p.1/\AV K ρ H p.2 q.2)/\DI r r'
 | _,_=>False
abbrev DS:List (Str×A)->List (Key×V)->Prop
 | [],[]=>True
 | p::r,q::r'=>(q.1=Sum.inr p.1/\AV K ρ H p.2 q.2)/\DS r r'
 | _,_=>False
abbrev DP:List (L2.FJ×A)->List (L2.FJ×aj×aa)->Prop
 | [],[]=>True
 | p::r,q::r'=>(q.1=p.1/\L2.zU H q.2.1 q.1/\∃v,RelV v q.2.2/\AV K ρ H p.2 v)/\DP r r'
 | _,_=>False
abbrev FV:List (Str×A)->List (Str×V)->Prop
 | [],[]=>True
 | p::r,q::r'=>(q.1=p.1/\AV K ρ H p.2 q.2)/\FV r r'
 | _,_=>False
abbrev OR (a:aj):O->Prop
 | .lst xs=>∃d,H a=some (.lst d)/\AVs K ρ H xs d
 | .dct kvs=>∃ks,H a=some (.dT ks)/\DV K ρ H kvs ks
 | .dki kvs=>∃ks,H a=some (.dK ks)/\DI K ρ H kvs ks
 | .jE kvs=>∃ks,H a=some (.dK ks)/\DS K ρ H kvs ks
 | .dcp kvs=>∃xs,H a=some (.ext<|L2.SI a xs)/\DP K ρ H kvs xs
 | .dcf kvs=>∃o ks,H a=some (.frz o<|.dT ks)/\DV K ρ H kvs ks
 | .dkf kvs=>∃o ks,H a=some (.frz o<|.dK ks)/\DI K ρ H kvs ks
 | .ins _ _=>∃o u,H a=some (.frz o u)
 | .obj c fs=>∃ws,(∃C dx,w_ K c C/\H a=some (.ins C dx ws))/\FV K ρ H fs ws
structure Rel (S:gr):Prop where
 len:ρ.length=S.length
 nd:ρ.Nodup
 «at»:∀(n:Nat) (a:aj) (o:O),ρ[n]?=some a->S[n]?=some o->OR K ρ H a o
end
abbrev Sk:HO->Prop
 | .tup _=>True
 | .rng _ _=>True
 | .frz _ _=>True
 | _=>False
structure Ext0 (ρ ρ':be)(H H':Hp):Prop where
 pre:ρ <+: ρ'
 im:∀a u,Sk u->H a=some u->H' a=some u
structure Ext (ρ ρ':be)(H H':Hp):Prop extends Ext0 ρ ρ' H H' where
 fr:∀a u,H a=some u->a∉ρ->H' a=some u
 nw:∀a,a∈ρ'->a∈ρ\/H a=none
def Ext.refl{H:Hp}:Ext ρ ρ H H:=⟨⟨dh _,λ_ _ _ h=>h⟩,λ_ _ h _=>h,λ_ h=>.inl h⟩
def Ext.trans{H H1 H2:Hp}(a:Ext ρ ρ1 H H1)(b:Ext ρ1 ρ2 H1 H2):Ext ρ ρ2 H H2:=⟨⟨a.pre.trans b.pre,λx u i h=>b.im x u i<|a.im x u i h⟩,λx u h n=>b.fr x u (a.fr x u h n) λz=>(a.nw x z).elim n λz=>by(rw[z]at h;cases h),λx h=>by
 by_cases d:x∈ρ
 ·exact .inl d
 ·right
  cases q:H x with
  | none=>rfl
  | some u=>
   rcases b.nw x h with z|z
   ·exact((a.nw x z).elim d λz=>by(rw[z]at q;cases q)).elim
   ·rw[a.fr x u q d]at z;cases z⟩
def Ext0.get{H H':Hp}(e:Ext0 ρ ρ' H H'){n:Nat}{a:aj}(h:ρ[n]?=some a):ρ'[n]?=some a:=by
 obtain⟨t,rfl⟩:=e.pre;rw[aS (aI.mp h).1];exact h
section
variable {K:au}{ρ ρ':be}{H H':Hp}
def Ext0.UG(e:Ext0 ρ ρ' H H'){a:aj}(h:kN K H a vs):kN K H' a vs:=by
 rcases h with(h|⟨o,h⟩)|h
 ·exact .inl (.inl<|e.im _ _ trivial h)
 ·exact .inl (.inr ⟨o,e.im _ _ trivial h⟩)
 ·exact .inr h
def Ext0.fz(e:Ext0 ρ ρ' H H'){a:aj}(h:Fz K H a vs):Fz K H' a vs:=by
 rcases h with⟨o,h⟩|h
 ·exact .inl ⟨o,e.im _ _ trivial h⟩
 ·exact .inr h
def Fz.KC{a:aj}(h:Fz K H a vs):jM K H a vs:=by
 rcases h with⟨o,h⟩|h
 ·exact .inl (.inr ⟨o,h⟩)
 ·exact .inr h
mutual
theorem AV.iB(e:Ext0 ρ ρ' H H'):∀{x:A}{v:V},AV K ρ H x v->AV K ρ' H' x v
 | _,_,.non=>.non
 | _,_,.bl b=>.bl b
 | _,_,.int i=>.int i
 | _,_,.str x=>.str x
 | _,_,.ty x=>.ty x
 | _,_,.tup h r=>.tup (e.im _ _ trivial h) (AVs.iB e r)
 | _,_,.frz h r=>.frz (e.fz h) (AVs.iB e r)
 | _,_,.rng h=>.rng (e.im _ _ trivial h)
 | _,_,.ref h=>.ref (e.get h)
 | _,_,.exn n h x=>.exn n (e.im _ _ trivial h) x
 | _,_,.ktu h r=>.ktu h<|AVs.iB e r
theorem AVs.iB(e:Ext0 ρ ρ' H H'):∀{xs:ae}{vs:List V},AVs K ρ H xs vs->AVs K ρ' H' xs vs
 | _,_,.nil=>.nil
 | _,_,.cons h t=>.cons (AV.iB e h)<|AVs.iB e t
end
theorem DV.iB(e:Ext0 ρ ρ' H H'):∀{xs:List<|am×A}{vs:List<|List Key×V},DV K ρ H xs vs->DV K ρ' H' xs vs
 | [],[],_=>trivial
 | _::_,_::_,⟨⟨a,b⟩,r⟩=>⟨⟨a,AV.iB e b⟩,DV.iB e r⟩
def DV.ext{x:List<|am×A}{v:List<|List Key×V}(h:DV K ρ H x v)(e:Ext ρ ρ' H H'):DV K ρ' H' x v:=DV.iB e.toExt0 h
theorem DI.iB(e:Ext0 ρ ρ' H H'):∀{xs:List<|Int×A}{vs:List<|Key×V},DI K ρ H xs vs->DI K ρ' H' xs vs
 | [],[],_=>trivial
 | _::_,_::_,⟨⟨a,b⟩,r⟩=>⟨⟨a,AV.iB e b⟩,DI.iB e r⟩
def DI.ext{x:List<|Int×A}{v:List<|Key×V}(h:DI K ρ H x v)(e:Ext ρ ρ' H H'):DI K ρ' H' x v:=DI.iB e.toExt0 h
theorem DS.iB(e:Ext0 ρ ρ' H H'):∀{xs:List<|Str×A}{vs:List<|Key×V},DS K ρ H xs vs->DS K ρ' H' xs vs
 | [],[],_=>trivial
 | _::_,_::_,⟨⟨a,b⟩,r⟩=>⟨⟨a,AV.iB e b⟩,DS.iB e r⟩
def DS.ext{x:List<|Str×A}{v:List<|Key×V}(h:DS K ρ H x v)(e:Ext ρ ρ' H H'):DS K ρ' H' x v:=DS.iB e.toExt0 h
theorem FV.iB(e:Ext0 ρ ρ' H H'):∀{xs:List<|Str×A}{vs:List<|Str×V},FV K ρ H xs vs->FV K ρ' H' xs vs
 | [],[],_=>trivial
 | _::_,_::_,⟨⟨a,b⟩,r⟩=>⟨⟨a,AV.iB e b⟩,FV.iB e r⟩
def FV.ext{x:List<|Str×A}{v:List<|Str×V}(h:FV K ρ H x v)(e:Ext ρ ρ' H H'):FV K ρ' H' x v:=FV.iB e.toExt0 h
def zU.iB{k:L2.FJ}(e:Ext0 ρ ρ' H H'):L2.zU H b k->L2.zU H' b k:=λ⟨r1,r2,h1,d,f⟩=>⟨r1,r2,e.im _ _ trivial h1,e.im _ _ trivial d,e.im _ _ trivial f⟩
theorem DP.iB(e:Ext0 ρ ρ' H H'):∀{xs:List<|L2.FJ×A}{vs:List<|L2.FJ×aj×aa},DP K ρ H xs vs->DP K ρ' H' xs vs
 | [],[],_=>trivial
 | _::_,_::_,⟨⟨a,k,v,c,b⟩,r⟩=>⟨⟨a,zU.iB e k,v,c,AV.iB e b⟩,DP.iB e r⟩
def DP.ext{x:List<|L2.FJ×A}{v:List<|L2.FJ×aj×aa}(h:DP K ρ H x v)(e:Ext ρ ρ' H H'):DP K ρ' H' x v:=DP.iB e.toExt0 h
def AV.ext{x:A}{v:V}(h:AV K ρ H x v)(e:Ext ρ ρ' H H'):AV K ρ' H' x v:=AV.iB e.toExt0 h
def AVs.ext{x:ae}{v:List V}(h:AVs K ρ H x v)(e:Ext ρ ρ' H H'):AVs K ρ' H' x v:=AVs.iB e.toExt0 h
theorem AVs.length:∀{xs:ae}{vs:List V},AVs K ρ H xs vs->xs.length=vs.length
 | _,_,.nil=>rfl
 | _,_,.cons _ t=>cO (·+1)<|AVs.length t
theorem AVs.append:∀{xs ys:ae}{vs ws:List V},AVs K ρ H xs vs->AVs K ρ H ys ws->AVs K ρ H (xs++ys) (vs++ws)
 | _,_,_,_,.nil,s=>s
 | _,_,_,_,.cons h t,s=>.cons h<|AVs.append t s
theorem AVs.take:∀{xs:ae}{vs:List V}(n:Nat),AVs K ρ H xs vs->AVs K ρ H (xs.take n) (vs.take n)
 | _,_,0,_=>.nil
 | _,_,_+1,.nil=>.nil
 | _,_,n+1,.cons h t=>.cons h<|AVs.take n t
theorem AVs.drop:∀{xs:ae}{vs:List V}(n:Nat),AVs K ρ H xs vs->AVs K ρ H (xs.drop n) (vs.drop n)
 | _,_,0,r=>r
 | _,_,_+1,.nil=>.nil
 | _,_,n+1,.cons _ t=>AVs.drop n t
theorem AVs.reverse:∀{xs:ae}{vs:List V},AVs K ρ H xs vs->AVs K ρ H xs.reverse vs.reverse
 | _,_,.nil=>.nil
 | _,_,.cons h t=>by rw[eK,eK];exact(AVs.reverse t).append (.cons h .nil)
theorem AVs.get:∀{xs:ae}{vs:List V}{i:Nat}{x:A},AVs K ρ H xs vs->xs[i]?=some x->∃v,vs[i]?=some v/\AV K ρ H x v
 | _,_,_,_,.nil,e=>by simp at e
 | _,_,0,_,.cons h _,e=>by simp at e;subst e;exact⟨_,rfl,h⟩
 | _,_,i+1,x,.cons _ t,e=>by
  obtain⟨u,h1,d⟩:=AVs.get (i:=i) (x:=x) t (by simpa using e);exact⟨u,by simpa using h1,d⟩
theorem AVs.set{x:A}{v:V}(h:AV K ρ H x v):∀{xs:ae}{vs:List V}(i:Nat),AVs K ρ H xs vs->AVs K ρ H (xs.set i x) (vs.set i v)
 | _,_,_,.nil=>.nil
 | _,_,0,.cons _ t=>.cons h t
 | _,_,i+1,.cons q t=>.cons q<|AVs.set h i t
def AVs.one{x:A}{v:V}(h:AV K ρ H x v):AVs K ρ H [x] [v]:=.cons h .nil
theorem pL:∀(ns:am),AVs K ρ H (ns.map .int) (ns.map .int)
 | []=>.nil
 | n::ns=>.cons (.int n)<|pL ns
def Rel.lay{S:gr}{p:aj}(R:Rel K ρ H S)(hp:H p=none)(r:AVs K ρ H xs vs):Ext ρ (ρ++[p]) H (upd H p<|.lst vs)/\Rel K (ρ++[p]) (upd H p<|.lst vs) (S++[.lst xs])/\(ρ++[p])[S.length]?=some p:=by
 have ex:Ext ρ (ρ++[p]) H (upd H p<|.lst vs):=⟨⟨dz _ _,λa u _ h=>by rw[gy<|gI h hp];exact h⟩,λa u h _=>by rw[gy<|gI h hp];exact h,λa h=>by
  rcases bO.mp h with z|z
  ·exact .inl z
  ·have e:a=p:=by simpa using z
   rw[e];exact .inr hp⟩
 have np:∀(n:Nat) (a:aj),ρ[n]?=some a->a≠p:=by
  intro n a e z;subst z;have hn:n<S.length:=by rw[<- R.len];exact(aI.mp e).1
  have:=R.at n a S[n] e (aL hn)
  cases g:S[n]with
  | lst xs=>rw[g]at this;obtain⟨vs,h,_⟩:=this;rw[hp]at h;cases h
  | dct _|dki _|jE _|dcp _=>rw[g]at this;obtain⟨vs,h,_⟩:=this;rw[hp]at h;cases h
  | dcf _|dkf _=>rw[g]at this;obtain⟨_,vs,h,_⟩:=this;rw[hp]at h;cases h
  | ins _ _=>rw[g]at this;obtain⟨_,_,h⟩:=this;rw[hp]at h;cases h
  | obj _ _=>rw[g]at this;obtain⟨_,⟨_,_,_,h⟩,_⟩:=this;rw[hp]at h;cases h
 have d:(ρ++[p])[S.length]?=some p:=by rw[<- R.len];simp
 refine⟨ex,⟨by simp[R.len],?_,?_⟩,d⟩
 ·rw[dI];refine⟨R.nd,by simp,λa B b k e=>?_⟩;have:b=p:=by simpa using k
  obtain⟨n,hn,F⟩:=fj.mp B;exact np n a (by rw[aL hn,F])<|e.trans this
 ·intro n a o h1 f;by_cases hn:n<S.length
  ·rw[aS<|by rw[R.len];exact hn]at h1;rw[aS hn]at f;have:=R.at n a o h1 f
   cases o with
   | lst ys=>obtain⟨ws,e,q⟩:=this;exact⟨ws,by rw[gy<|np n a h1];exact e,q.ext ex⟩
   | dct _|dki _|jE _|dcp _=>obtain⟨ws,e,q⟩:=this;exact⟨ws,by rw[gy<|np n a h1];exact e,q.ext ex⟩
   | dcf _|dkf _=>obtain⟨j,ws,e,q⟩:=this;exact⟨j,ws,by rw[gy<|np n a h1];exact e,q.ext ex⟩
   | ins _ _=>obtain⟨j,m,e⟩:=this;exact⟨j,m,by rw[gy<|np n a h1];exact e⟩
   | obj _ _=>obtain⟨ws,⟨C,dx,c,e⟩,q⟩:=this;exact⟨ws,⟨C,dx,c,by rw[gy<|np n a h1];exact e⟩,q.ext ex⟩
  ·have e:n=S.length:=by
    have:=(aI.mp f).1;simp at this
    lia
   subst e;rw[d]at h1
   cases h1
   simp at f;subst f;exact⟨vs,g8,r.ext ex⟩
def Rel.im{p:aj}(R:Rel K ρ H S)(hp:H p=none):Ext ρ ρ H (upd H p u)/\Rel K ρ (upd H p u) S:=by
 have ex:Ext ρ ρ H (upd H p u):=⟨⟨dh _,λa u _ h=>by rw[gy<|gI h hp];exact h⟩,λa u h _=>by rw[gy<|gI h hp];exact h,λ_ h=>.inl h⟩;refine⟨ex,R.len,R.nd,λn a o h1 f=>?_⟩;have:=R.at n a o h1 f
 cases o with
 | lst ys=>obtain⟨ws,e,q⟩:=this;exact⟨ws,by rw[gy<|gI e hp];exact e,q.ext ex⟩
 | dct _|dki _|jE _|dcp _=>obtain⟨ws,e,q⟩:=this;exact⟨ws,by rw[gy<|gI e hp];exact e,q.ext ex⟩
 | dcf _|dkf _=>obtain⟨d,ws,e,q⟩:=this;exact⟨d,ws,by rw[gy<|gI e hp];exact e,q.ext ex⟩
 | ins _ _=>obtain⟨d,g,e⟩:=this;exact⟨d,g,by rw[gy<|gI e hp];exact e⟩
 | obj _ _=>obtain⟨ws,⟨C,dx,c,e⟩,q⟩:=this;exact⟨ws,⟨C,dx,c,by rw[gy<|gI e hp];exact e⟩,q.ext ex⟩
def Rel.put{S:gr}{n:Nat}{a:aj}(R:Rel K ρ H S)(J:ρ[n]?=some a)(L:S[n]?=some (.lst xs))(r:AVs K ρ H ys ws):Ext ρ ρ H (upd H a<|.lst ws)/\Rel K ρ (upd H a<|.lst ws) (S.set n<|.lst ys):=by
 obtain⟨F,e,_⟩:=R.at n a _ J L;have ex:Ext ρ ρ H (upd H a<|.lst ws):=⟨⟨dh _,λb u i h=>by
  have:b≠a:=by
   intro z;subst z;rw[e]at h;cases h;exact i
  rw[gy this];exact h⟩,λb u h n=>by
  rw[gy λz=>n<|by rw[z];exact bP J];exact h,λ_ h=>.inl h⟩
 refine⟨ex,by rw[bx];exact R.len,R.nd,λm b o h1 g=>?_⟩;by_cases k:m=n
 ·subst k;rw[J]at h1;cases h1;rw[bu (aI.mp L).1]at g
  cases g
  exact⟨ws,g8,r.ext ex⟩
 ·rw[aT<|bM k]at g;have nb:b≠a:=λz=>by
   subst z;obtain⟨B,e1⟩:=aI.mp J;obtain⟨G,e2⟩:=aI.mp h1;exact k<|(eX R.nd).mp<|e2.trans e1.symm
  have:=R.at m b o h1 g
  cases o with
  | lst ys=>obtain⟨d,f,q⟩:=this;exact⟨d,by rw[gy nb];exact f,q.ext ex⟩
  | dct _|dki _|jE _|dcp _=>obtain⟨d,f,q⟩:=this;exact⟨d,by rw[gy nb];exact f,q.ext ex⟩
  | dcf _|dkf _=>obtain⟨j,d,f,q⟩:=this;exact⟨j,d,by rw[gy nb];exact f,q.ext ex⟩
  | ins _ _=>obtain⟨j,p,f⟩:=this;exact⟨j,p,by rw[gy nb];exact f⟩
  | obj _ _=>obtain⟨ws,⟨C,dx,c,f⟩,q⟩:=this;exact⟨ws,⟨C,dx,c,by rw[gy nb];exact f⟩,q.ext ex⟩
def Rel.lst{n:Nat}{a:aj}(R:Rel K ρ H S)(j:ρ[n]?=some a)(J:S[n]?=some (.lst xs)):∃vs,H a=some (.lst vs)/\AVs K ρ H xs vs:=R.at n a _ j J
structure SR (K:au)(ρ:be)(H:Hp)(τ:ae)(σ:St):Prop where
 len:τ.length=σ.length
 «at»:∀(i:Nat) (a:A),τ[i]?=some a->a=.unb\/∃v,σ[i]?=some (some v)/\AV K ρ H a v
def SR.iB(s:SR K ρ H τ σ)(e:Ext0 ρ ρ' H H'):SR K ρ' H' τ σ:=⟨s.len,λi a h=>by
 rcases s.at i a h with z|⟨v,h1,d⟩
 ·exact .inl z
 ·exact .inr ⟨v,h1,AV.iB e d⟩⟩
def SR.ext(s:SR K ρ H τ σ)(e:Ext ρ ρ' H H'):SR K ρ' H' τ σ:=s.iB e.toExt0
def Rel.out(R:Rel K ρ H S)(J:H D=some (.lst vs))(hn:D∉ρ):Ext0 ρ ρ H (upd H D<|.lst ws)/\Rel K ρ (upd H D<|.lst ws) S:=by
 have ex:Ext0 ρ ρ H (upd H D<|.lst ws):=⟨dh _,λb u i h=>by
  have:b≠D:=by
   intro z;subst z;rw[J]at h;cases h;exact i
  rw[gy this];exact h⟩
 refine⟨ex,R.len,R.nd,λn a o h1 g=>?_⟩;have na:a≠D:=λz=>hn (by rw[<- z];exact bP h1);have:=R.at n a o h1 g
 cases o with
 | lst ys=>obtain⟨d,e,q⟩:=this;exact⟨d,by rw[gy na];exact e,AVs.iB ex q⟩
 | dct _|dki _|jE _|dcp _=>obtain⟨d,e,q⟩:=this;exact⟨d,by rw[gy na];exact e,q.iB ex⟩
 | dcf _|dkf _=>obtain⟨f,d,e,q⟩:=this;exact⟨f,d,by rw[gy na];exact e,q.iB ex⟩
 | ins _ _=>obtain⟨f,j,e⟩:=this;exact⟨f,j,by rw[gy na];exact e⟩
 | obj _ _=>obtain⟨ws,⟨C,dx,c,e⟩,q⟩:=this;exact⟨ws,⟨C,dx,c,by rw[gy na];exact e⟩,q.iB ex⟩
def Rel.take{S:gr}{D:aj}(R:Rel K ρ H S)(J:H D=some (.lst vs))(hn:D∉ρ)(r:AVs K ρ H xs vs):Rel K (ρ++[D]) H (S++[.lst xs])/\(ρ++[D])[S.length]?=some D:=by
 have ex:Ext0 ρ (ρ++[D]) H H:=⟨dz _ _,λ_ _ _ h=>h⟩;have d:(ρ++[D])[S.length]?=some D:=by rw[<- R.len];simp
 refine⟨⟨by simp[R.len],?_,λn a o h1 f=>?_⟩,d⟩
 ·rw[dI];refine⟨R.nd,by simp,λa m b j e=>?_⟩;have:b=D:=by simpa using j
  exact hn<|by rw[<- this,<- e];exact m
 ·by_cases hs:n<S.length
  ·rw[aS<|by rw[R.len];exact hs]at h1;rw[aS hs]at f;have:=R.at n a o h1 f
   cases o with
   | lst ys=>obtain⟨ws,e,q⟩:=this;exact⟨ws,e,AVs.iB ex q⟩
   | dct _|dki _|jE _|dcp _=>obtain⟨ws,e,q⟩:=this;exact⟨ws,e,q.iB ex⟩
   | dcf _|dkf _=>obtain⟨g,ws,e,q⟩:=this;exact⟨g,ws,e,q.iB ex⟩
   | ins _ _=>obtain⟨g,k,e⟩:=this;exact⟨g,k,e⟩
   | obj _ _=>obtain⟨ws,⟨C,dx,c,e⟩,q⟩:=this;exact⟨ws,⟨C,dx,c,e⟩,q.iB ex⟩
  ·have e:n=S.length:=by
    have:=(aI.mp f).1;simp at this
    lia
   subst e;rw[d]at h1
   cases h1
   simp at f;subst f;exact⟨vs,J,AVs.iB ex r⟩
def SR.set{τ:ae}{σ:St}{a:A}{v:V}(s:SR K ρ H τ σ)(h:AV K ρ H a v):SR K ρ H (τ.set i a) (σ.set i<|some v):=by
 refine⟨by simp[s.len],λj b e=>?_⟩;by_cases d:j=i
 ·subst d;have f:j<τ.length:=by
   have:=(aI.mp e).1;simpa using this
  rw[bu f]at e
  cases e
  exact .inr ⟨v,bu<|by rw[<- s.len];exact f,h⟩
 ·rw[aT<|bM d]at e;rw[aT<|bM d];exact s.at j b e
end
end Am
namespace Am
open PySem PySem.Spec PyProof.Rows L2
abbrev XE (X:Cx)(ρ:be)(H:Hp):Str->gr->Prop:=λc d=>∀(C:aj) (ρ':be) (H':Hp),w_ X.K c C->Ext ρ ρ' H H'->Rel X.K ρ' H' d->EX X (.ref C) none H'
def XE.ext{H H':Hp}{c:Str}(h:XE X ρ H c S)(e:Ext ρ ρ' H H'):XE X ρ' H' c S:=λC d H2 n e2=>h C d H2 n<|e.trans e2
abbrev qV (X:Cx)(ρ:be)(H:Hp)(Q:VK):A->gr->Prop:=λa d=>∀ρ' H' v,Ext ρ ρ' H H'->Rel X.K ρ' H' d->AV X.K ρ' H' a v->Q v H'
abbrev SE (X:Cx)(ρ:be)(H:Hp)(Q:Bool->Hp->Prop):Bool->gr->Prop:=λb d=>∀ρ' H',Ext ρ ρ' H H'->Rel X.K ρ' H' d->Q b H'
abbrev Va (X:Cx)(ρ:be)(H:Hp)(Q:List V->Hp->Prop):ae->gr->Prop:=λas f=>∀ρ' H' d,Ext ρ ρ' H H'->Rel X.K ρ' H' f->AVs X.K ρ' H' as d->Q d H'
def qV.ext{H H':Hp}{Q:VK}{a:A}(h:qV X ρ H Q a S)(e:Ext ρ ρ' H H'):qV X ρ' H' Q a S:=λd H2 v e2=>h d H2 v<|e.trans e2
def SE.ext{H H':Hp}{Q:Bool->Hp->Prop}{a:Bool}(h:SE X ρ H Q a S)(e:Ext ρ ρ' H H'):SE X ρ' H' Q a S:=λd H2 e2=>h d H2<|e.trans e2
def gq{α:Type}{H H':Hp}{r:R α}{P j:α->gr->Prop}(h:r.post P<|XE X ρ H)(e:Ext ρ ρ' H H')(hp:∀a S,P a S->j a S):r.post j (XE X ρ' H'):=iY h hp λ_ _ z=>z.ext e
abbrev tE (X:Cx)(c:Ex):TE:=λσ H Q=>∃ρ S τ,Rel X.K ρ H S/\SR X.K ρ H τ σ/\(c τ S).post (qV X ρ H Q) (XE X ρ H)
abbrev tT (X:Cx)(c:Te):TT:=λσ H Q=>∃ρ S τ,Rel X.K ρ H S/\SR X.K ρ H τ σ/\(c τ S).post (SE X ρ H Q) (XE X ρ H)
abbrev tL (X:Cx)(c:lq):TA:=λσ H Q=>∃ρ S τ,Rel X.K ρ H S/\SR X.K ρ H τ σ/\(c τ S).post (Va X ρ H Q) (XE X ρ H)
abbrev AE (X:Cx)(e:aE)(c:Ex):Prop:=PE X e<|tE X c
abbrev AT (X:Cx)(e:aE)(c:Te):Prop:=PT X e<|tT X c
abbrev AW (X:Cx)(e:aE)(c:Te):Prop:=PW X e<|tT X c
abbrev AL (X:Cx)(es:List aE)(c:lq):Prop:=PA X es<|tL X c
def PE.imp{t t':TE}(h:PE X e t)(i:∀σ H Q,t' σ H Q->t σ H Q):PE X e t':=λpins s σ H Q I q=>h pins s σ H Q I<|i σ H Q q
def PT.imp{t t':TT}(h:PT X e t)(i:∀σ H Q,t' σ H Q->t σ H Q):PT X e t':=λpins s σ H Q I q=>h pins s σ H Q I<|i σ H Q q
def PW.imp{t t':TT}(h:PW X e t)(i:∀σ H Q,t' σ H Q->t σ H Q):PW X e t':=λw pins s σ H Q I q=>h w pins s σ H Q I<|i σ H Q q
def PA.imp{t t':TA}(h:PA X e t)(i:∀σ H Q,t' σ H Q->t σ H Q):PA X e t':=λp pins s σ H Q I q=>h p pins s σ H Q I<|i σ H Q q
def AW.at{c:Te}(h:AW X e c):AT X e c:=h _
abbrev A.i9:A->Bool
 | .unb=>true
 | _=>false
abbrev gi (i:Nat):Ex:=λτ S=>if (τ.getD i .unb).i9 then .no else .ok (τ.getD i .unb) S
abbrev eC (a:A):Ex:=λ_ S=>.ok a S
section
variable {X:Cx}{pos:Pos}{a b:aE}
def gh(i:Nat){x:Str}(J:X.N[i]?=some x<|>ε)(hv:Sv X.env.scope x:=by first|exact Or.inl rfl|exact Or.inr (Or.inl rfl)|exact Or.inr<|Or.inr rfl)(hd:(x == ("__debug__" : Str))=false:=by decide)
  (j:(x == ("__classdict__" : Str))=false:=by decide):AE X (.Name x pos) (gi i):=PE.imp (Oa J hv hd j) λσ H Q h9=>by
 room;unfold gi at h
 cases hi:τ[i]? with
 | none=>
  rw[aV,hi]at h;exact h.elim
 | some x=>
  rw[aV,hi]at h
  rcases r.at i x hi with z|⟨v,e,q⟩
  ·subst z;exact h.elim
  ·refine⟨v,e,?_⟩
   cases x<;>first|(exact h ρ H v .refl R q)|exact h.elim
def gC{i:Int}{j pos}:AE X (.Constant (.int i) j pos) (eC<|.int i):=PE.imp Bw λσ H Q ⟨ρ,S,τ,R,r,h⟩=>h ρ H _ .refl R<|.int i
def rW{j pos}:AE X (.Constant (.bool i) j pos) (eC<|.bl i):=PE.imp Sd λσ H Q ⟨ρ,S,τ,R,r,h⟩=>h ρ H _ .refl R<|.bl i
def OU{j pos}:AE X (.Constant .none j pos) (eC .non):=PE.imp Pa λσ H Q ⟨ρ,S,τ,R,r,h⟩=>h ρ H _ .refl R .non
def iu{x:Str}{j pos}:AE X (.Constant (.str x) j pos) (eC<|.str x):=PE.imp Im λσ H Q ⟨ρ,S,τ,R,r,h⟩=>h ρ H _ .refl R<|.str x
def mJ{x:Str}{i:Int}(j:X.mg x=some (.int i t))(hg:Gl X x<|>ε)(hd:(x == ("__debug__" : Str))=false<|>δ):AE X (.Name x pos) (eC<|.int i):=
 PE.imp (qf (v:=.int i) hg j ⟨t,rfl⟩ hd) λσ H Q ⟨ρ,S,τ,R,r,h⟩=>h ρ H _ .refl R<|.int i
abbrev gB (f:A->A->gr->R A)(ca j:Ex):Ex:=λτ S=>(ca τ S).bind λa S1=>(j τ S1).bind λb d=>f a b d
abbrev r2 (X:Cx)(f:A->A->gr->R A):R2:=λx y H Q=>∃ρ S a b,Rel X.K ρ H S/\AV X.K ρ H a x/\AV X.K ρ H b y/\(f a b S).post (qV X ρ H Q) (XE X ρ H)
abbrev r1 (X:Cx)(f:A->gr->R A):V->Hp->VK->Prop:=λx H Q=>∃ρ S a,Rel X.K ρ H S/\AV X.K ρ H a x/\(f a S).post (qV X ρ H Q) (XE X ρ H)
abbrev rN (X:Cx)(f:ae->gr->R A):List V->Hp->VK->Prop:=λxs H Q=>∃ρ S as,Rel X.K ρ H S/\AVs X.K ρ H as xs/\(f as S).post (qV X ρ H Q) (XE X ρ H)
def jI.imp{f:aa->aa->Sem aa}{r j:R2}(h:jI X f r)(i:∀x y H Q,j x y H Q->r x y H Q):jI X f j:=λpins s σ H x y v u Q I rx ry q=>h pins s σ H x y v u Q I rx ry<|i _ _ _ _ q
def g6.imp{f:aa}{r j:List V->Hp->VK->Prop}(h:g6 X f r)(i:∀x H Q,j x H Q->r x H Q):g6 X f j:=λpins s σ H x v Q I rx q=>h pins s σ H x v Q I rx<|i _ _ _ q
def sD{f:A->A->gr->R A}{ca J:Ex}{H:Hp}{Q:VK}(h:tE X (gB f ca J) σ H Q):Qi (r2 X f) (tE X ca) (tE X J) σ H Q:=by
 gp_on;refine⟨ρ,S,τ,R,r,gq (gu h) .refl λa S1 h1 ρ1 H1 x e1 R1 v1=>⟨ρ1,S1,τ,R1,r.ext e1,gq (gu h1) e1 λb k j d H2 y e2 R2 m=>?_⟩⟩;exact⟨d,k,a,b,R2,v1.ext e2,m,gq j (e1.trans e2) λc p g=>g.ext<|e1.trans e2⟩
def gJ{f:A->A->gr->R A}{ca j:Ex}(J:jI X (binaryOp op)<|r2 X f)(L:AE X a ca)(hb:AE X b j):AE X (.BinOp a op b pos) (gB f ca j):=
 PE.imp (Rj J L hb) λσ H Q h=>sD h
def sY{j:CmpOp}{f:A->A->gr->R A}{ca J:Ex}(L:jI X (compareOp j)<|r2 X f)(U:AE X a ca)(hb:AE X b J)(Z:behindInMarks j b=false:=by first|exact Jl _|with_unfolding_all rfl):AE X (.Compare a [j] [b] pos) (gB f ca J):=
 PE.imp (LG L U hb Z) λσ H Q h=>sD h
abbrev A.ON:A->gr->bo
 | .non,_=>some false
 | .bl b,_=>some b
 | .int i,_=>some (i != 0)
 | .str x,_=>if x.length<=sizeLine then some ((x.length:Int) != 0)else none
 | .tup xs,_=>some (!xs.isEmpty)
 | .frz xs,_=>some (!xs.isEmpty)
 | .ref n,S=>(gn S n).map λxs=>!xs.isEmpty
 | _,_=>none
abbrev sC (c:Ex):Te:=λτ S=>(c τ S).bind λa S1=>opt (a.ON S1) λb=>.ok b S1
abbrev kh (c:Ex):Te:=λτ S=>(c τ S).bind λa S1=>match a with
 | .bl b=>.ok b S1
 | _=>.no
def vG{K:au}{H:Hp}{b:Bool}{v:V}(h:AV K ρ H (.bl b) v):v=.bl b:=by cases h;rfl
theorem g_{j:CmpOp}{f:A->A->gr->R A}{ca J:Ex}(L:jI X (compareOp j)<|r2 X f)(U:AE X a ca)(hb:AE X b J)(Z:behindInMarks j b=false:=by first|exact Jl _|with_unfolding_all rfl):AT X (.Compare a [j] [b] pos) (kh<|gB f ca J):=
 PT.imp (Dv L U hb Z) λσ H Q h9=>by
  room;refine sD ⟨ρ,S,τ,R,r,gq (gu h) .refl λc S1 h1 ρ1 H1 x e1 R1 v1=>?_⟩
  cases c with
  | bl k=>cases vG v1;exact⟨k,rfl,h1 ρ1 H1 e1 R1⟩
  | _=>exact h1.elim
def NT{K:au}{H:Hp}{x:A}{v:V}{b:Bool}(R:Rel K ρ H S)(h:AV K ρ H x v)(e:x.ON S=some b):Pc K v H b:=by
 have d:∀{xs:ae} {f:List V},AVs K ρ H xs f->(!xs.isEmpty)=!f.isEmpty:=λr=>by cases r<;>rfl
 cases h with
 | non=>exact(aQ e).symm
 | bl b=>exact(aQ e).symm
 | int i=>exact(aQ e).symm
 | str x=>
  by_cases g:x.length<=sizeLine
  ·exact⟨g,by have:=(aR g).symm.trans e;exact(aQ this).symm⟩
  ·have:=(aO g).symm.trans e;cases this
 | tup h r=>exact .inr (.inl ⟨_,kN.of h,by rw[<- d r];exact(aQ e).symm⟩)
 | frz h r=>exact .inl ⟨_,h.KC,by rw[<- d r];exact(aQ e).symm⟩
 | rng h=>cases e
 | ty n=>cases e
 | exn n h x=>cases e
 | ktu h r=>cases e
 | @ref a n h=>
  have e:(gn S n).map (λxs=>!xs.isEmpty)=some b:=e;obtain⟨xs,hn,e⟩:=aX.mp e;obtain⟨f,h1,j⟩:=R.lst h<|gF hn;exact .inl ⟨f,jM.of h1,by rw[<- d j];exact e.symm⟩
def kP{ca:Ex}(j:AE X a ca)(J:(∀whole,isTrue a X.env whole=(do let v <- whole;standAt a.pos;holding [v] (truthy v)))<|>ζ):AT X a (sC ca):=
 PT.imp (IV j J) λσ H Q ⟨ρ,S,τ,R,r,h⟩=>⟨ρ,S,τ,R,r,gq (gu h) .refl λc S1 h1 ρ1 H1 x e1 R1 v1=>by
  obtain⟨b,d,h1⟩:=gD h1;exact⟨b,NT R1 v1 d,h1 ρ1 H1 e1 R1⟩⟩
abbrev tX (c:Te):Te:=λτ S=>(c τ S).bind λb S1=>.ok (!b) S1
abbrev qp (c d:Te):Te:=λτ S=>(c τ S).bind λb S1=>match b with|true=>d τ S1|false=>.ok false S1
abbrev M9 (c d:Te):Te:=λτ S=>(c τ S).bind λb S1=>match b with|true=>.ok true S1|false=>d τ S1
def mL{c:Te}(h:AT X a c):AT X (.UnaryOp .Not a pos) (tX c):=PT.imp (Px h) λσ H Q ⟨ρ,S,τ,R,r,h⟩=>⟨ρ,S,τ,R,r,gq (gu h) .refl λb S1 h1=>h1⟩
def and_imp{c d:Te}{H:Hp}{Q:Bool->Hp->Prop}(h:tT X (qp c d) σ H Q):QD (tT X c) (tT X d) σ H Q:=by
 gp_on;refine⟨ρ,S,τ,R,r,gq (gu h) .refl λb S1 h1 ρ1 H1 e1 R1=>?_⟩
 cases b with
 | true=>
  rw[aR rfl];kcj_m
 | false=>
  rw[aO bC];exact h1 ρ1 H1 e1 R1
def or_imp{c d:Te}{H:Hp}{Q:Bool->Hp->Prop}(h:tT X (M9 c d) σ H Q):UD (tT X c) (tT X d) σ H Q:=by
 gp_on;refine⟨ρ,S,τ,R,r,gq (gu h) .refl λb S1 h1 ρ1 H1 e1 R1=>?_⟩
 cases b with
 | false=>
  rw[aO bC];kcj_m
 | true=>
  rw[aR rfl];exact h1 ρ1 H1 e1 R1
variable {rest:List aE}
def r6{c:Te}(h:AT X a c):AW X (.BoolOp .And [a] pos) c:=LX h
def yO{c:Te}(h:AT X a c):AW X (.BoolOp .Or [a] pos) c:=O4 h
def we{c d:Te}(h:AT X a c)(j:AW X (.BoolOp .And (b::rest) pos) d):AW X (.BoolOp .And (a::b::rest) pos) (qp c d):=PW.imp (PR h j) λ_ _ _ q=>and_imp q
def A_{c d:Te}(h:AT X a c)(j:AW X (.BoolOp .Or (b::rest) pos) d):AW X (.BoolOp .Or (a::b::rest) pos) (M9 c d):=PW.imp (Rr h j) λ_ _ _ q=>or_imp q
abbrev AN (c d:Ex):Ex:=λτ S=>(c τ S).bind λa S1=>match a with | .bl true=>d τ S1 | .bl false=>.ok (.bl false) S1|_=>.no
abbrev UU (c d:Ex):Ex:=λτ S=>(c τ S).bind λa S1=>match a with | .bl true=>.ok (.bl true) S1 | .bl false=>d τ S1|_=>.no
abbrev NC (c:Ex):Ex:=λτ S=>(c τ S).bind λa S1=>match a with | .bl b=>.ok (.bl !b) S1|_=>.no
def vv{op}{c:Ex}(h:AE X a c):AE X (.BoolOp op [a] pos) c:=Oq h
def wZ{c d:Ex}(h:AE X a c)(j:AE X (.BoolOp .And (b::rest) pos) d):AE X (.BoolOp .And (a::b::rest) pos) (AN c d):=PE.imp (Oi h j) λσ H Q h9=>by
 room;refine⟨ρ,S,τ,R,r,gq (gu h) .refl λb S1 h1 ρ1 H1 x e1 R1 v1=>?_⟩
 cases b with
 | bl k=>
  cases vG v1
  refine⟨k,rfl,?_⟩
  cases k with
  | true=>
   rw[aR rfl];kcj_m
  | false=>
   rw[aO bC];exact h1 ρ1 H1 _ e1 R1<|.bl false
 | _=>exact h1.elim
def PD{c:Ex}(h:AE X a c):AE X (.UnaryOp .Not a pos) (NC c):=PE.imp (Ph h) λσ H Q h9=>by
 room;refine⟨ρ,S,τ,R,r,gq (gu h) .refl λb S1 h1 ρ1 H1 x e1 R1 v1=>?_⟩
 cases b with
 | bl k=>
  cases vG v1
  exact⟨k,rfl,h1 ρ1 H1 _ e1 R1<|.bl _⟩
 | _=>exact h1.elim
abbrev Qj (t:Te)(c d:Ex):Ex:=λτ S=>(t τ S).bind λb S1=>match b with|true=>c τ S1|false=>d τ S1
def Hw{t:Te}{c d:Ex}(j:AT X e t)(J:AE X a c)(hb:AE X b d):AE X (.IfExp e a b pos) (Qj t c d):=PE.imp (F9 j J hb) λσ H Q h9=>by
 room;refine⟨ρ,S,τ,R,r,gq (gu h) .refl λb S1 h1 ρ1 H1 e1 R1=>?_⟩
 cases b with
 | true=>
  rw[aR rfl];kcj_m
 | false=>
  rw[aO bC];kcj_m
abbrev gv:lq:=λ_ S=>.ok [] S
abbrev gj (c:Ex)(d:lq):lq:=λτ S=>(c τ S).bind λa S1=>(d τ S1).bind λas f=>.ok (a::as) f
def gw:AL X [] gv:=PA.imp pG λσ H Q ⟨ρ,S,τ,R,r,h⟩=>h ρ H _ .refl R .nil
def gk{c:Ex}{d:lq}(J:AE X e c)(L:AL X es d)(hs:starEach (e::es) X.env=(false,eval e X.env)::starEach es X.env<|>ε):AL X (e::es) (gj c d):=
 PA.imp (j3 J L hs) λσ H Q h9=>by
  room;refine⟨ρ,S,τ,R,r,gq (gu h) .refl λa S1 h1 ρ1 H1 x e1 R1 v1=>⟨ρ1,S1,τ,R1,r.ext e1,gq (gu h1) e1 λas k g f H2 xs e2 R2 j=>?_⟩⟩;exact g f H2 _ (e1.trans e2) R2<|.cons (v1.ext e2) j
abbrev oX (d:lq):Ex:=λτ S=>(d τ S).bind λas S1=>gd (as.length<=sizeLine)<|.ok (.tup as) S1
abbrev newL (as:ae)(S:gr):R A:=gd (as.length<=sizeLine)<|.ok (.ref S.length)<|S++[.lst as]
abbrev mG (d:lq):Ex:=λτ S=>(d τ S).bind λas S1=>newL as S1
def oB{H H0:Hp}{Q:VK}(R:Rel X.K ρ H S)(r:AVs X.K ρ H as vs)(e:Ext ρ0 ρ H0 H)(h:qV X ρ0 H0 Q (.tup as) S):∀p,H p=none->Q (.ref p) (upd H p<|.tup vs):=λp hp=>by
 obtain⟨ex,d⟩:=R.im (u:=.tup vs) hp;exact h ρ _ _ (e.trans ex) d<|.tup g8<|r.ext ex
def jJ{H H0:Hp}{S:gr}{Q:VK}(R:Rel X.K ρ H S)(r:AVs X.K ρ H as vs)(e:Ext ρ0 ρ H0 H)(h:qV X ρ0 H0 Q (.ref S.length)<|S++[.lst as]):∀p,H p=none->Q (.ref p) (upd H p<|.lst vs):=λp hp=>by
 obtain⟨ex,d,g⟩:=R.lay hp r;exact h _ _ _ (e.trans ex) d<|.ref g
def Le{H H0:Hp}{vs:List V}{Q:VK}(R:Rel X.K ρ H S)(r:AVs X.K ρ H as vs)(e:Ext ρ0 ρ H0 H)(h:(newL as S).post (qV X ρ0 H0 Q)<|XE X ρ0 H0):vs.length<=sizeLine/\∀p,H p=none->Q (.ref p) (upd H p<|.lst vs):=by
 obtain⟨d,h⟩:=gO h;exact⟨by rw[<- r.length];exact d,jJ R r e h⟩
def mF{d:lq}{x1}(h:AL X es d):AE X (.Tuple es x1 pos) (oX d):=PE.imp (NZ h) λσ H Q h9=>by
 room;refine⟨ρ,S,τ,R,r,gq (gu h) .refl λas S1 h1 ρ1 H1 xs e1 R1 v1=>?_⟩;obtain⟨f,h1⟩:=gO h1;exact⟨by rw[<- v1.length];exact f,oB R1 v1 e1 h1⟩
def ko{d:lq}(h:AL X es d):AE X (.List es pos) (mG d):=PE.imp (PF h) λσ H Q ⟨ρ,S,τ,R,r,h⟩=>
 ⟨ρ,S,τ,R,r,gq (gu h) .refl λas S1 h1 ρ1 H1 xs e1 R1 v1=>Le R1 v1 e1 h1⟩
end
section
variable {X:Cx}{pos:Pos}{a b:aE}
abbrev aSub (a b:A)(S:gr):R A:=match a,b with
 | .int i,.int j=>.ok (.int<|i-j) S
 | _,_=>.no
def vN:jI X (binaryOp .Sub) (r2 X aSub):=jI.imp PX λx y H Q h9=>by
 x_go
 cases va<;>first|exact h.elim|(cases vb<;>first|exact h.elim|exact⟨_,_,rfl,rfl,h _ _ _ .refl R<|.int _⟩)
abbrev AX (i j:Int):Bool:=(decide (-(2 ^ 64)<i) && decide (i<2 ^ 64)) || (decide (-(2 ^ 64)<j) && decide (j<2 ^ 64))
def mulOk_of{i j:Int}(h:AX i j=true):Ln i j:=by
 unfold AX at h;dsimp[f7,cg,dJ]at h;exact h
abbrev p6 (a b:A)(S:gr):R A:=match a,b with
 | .int i,.int j=>gd (AX i j) (.ok (.int<|i * j) S)
 | .ref n,.int k=>opt (gn S n) λxs=>gd (-(2 ^ 63)<=k/\k<2 ^ 63/\xs.length * k.toNat<=sizeLine) (.ok (.ref S.length)<|S++[.lst (List.replicate k.toNat xs).flatten])
 | _,_=>.no
theorem AVs.rep{K:au}{H:Hp}(r:AVs K ρ H xs vs):∀k:Nat,AVs K ρ H (List.replicate k xs).flatten (List.replicate k vs).flatten
 | 0=>.nil
 | k+1=>by rw[cI,cI,c8,c8];exact r.append<|AVs.rep r k
def yx:jI X (binaryOp .Mult) (r2 X p6):=λpins s σ H x y v u Q I rx ry h9=>by
 x_go
 cases va with
 | int i=>
  cases vb with
  | int j=>
   obtain⟨g,h⟩:=gO h;exact Om pins s σ H _ _ v u Q I rx ry ⟨i,j,rfl,rfl,mulOk_of g,h _ _ _ .refl R<|.int _⟩
  | _=>exact h.elim
 | @ref p n hp=>
  cases vb with
  | int k=>
   gn_on;obtain⟨hc,h⟩:=gO h;obtain⟨f,h1,d⟩:=R.lst hp<|gF hn;exact OE pins s σ H _ _ v u Q I rx ry ⟨p,k,f,rfl,rfl,h1,hc.1,hc.2.1,by rw[<- d.length];exact hc.2.2,jJ R (d.rep _) .refl h⟩
  | _=>exact h.elim
 | _=>exact h.elim
abbrev wm (a b:A)(S:gr):R A:=match a,b with
 | .int i,.int j=>gd (0<j/\j<18446744073709551616) (.ok (.int<|i / j) S)
 | _,_=>.no
def zl:jI X (binaryOp .FloorDiv) (r2 X wm):=jI.imp G1 λx y H Q h9=>by
 x_go
 cases va<;>first|exact h.elim|(cases vb<;>first|exact h.elim|exact⟨_,_,rfl,rfl,(gO h).1,(gO h).2 _ _ _ .refl R<|.int _⟩)
abbrev sF (a b:A)(S:gr):R A:=match a,b with
 | .int i,.int j=>gd (0<j) (.ok (.int<|i % j) S)
 | _,_=>.no
def wz:jI X (binaryOp .Mod) (r2 X sF):=jI.imp Oo λx y H Q h9=>by
 x_go
 cases va<;>first|exact h.elim|(cases vb<;>first|exact h.elim|exact⟨_,_,rfl,rfl,(gO h).1,(gO h).2 _ _ _ .refl R<|.int _⟩)
abbrev LW (a b:A)(S:gr):R A:=match a,b with
 | .int i,.int j=>gd (0<=j/\j<=1000000/\i.natAbs<2 ^ 64) (.ok (.int<|i ^ j.toNat) S)
 | _,_=>.no
def Qq:jI X (binaryOp .Pow) (r2 X LW):=jI.imp NU λx y H Q h9=>by
 x_go
 cases va<;>first|exact h.elim|(cases vb<;>first|exact h.elim|exact⟨_,_,rfl,rfl,(gO h).1,(gO h).2 _ _ _ .refl R<|.int _⟩)
abbrev iF (a b:A)(S:gr):R A:=match a,b with
 | .int i,.int j=>.ok (.int<|i+j) S
 | .tup xs,.tup ys=>gd (xs.length+ys.length<=sizeLine) (.ok (.tup<|xs++ys) S)
 | .str x,.str y=>gd (x.length+y.length<=sizeLine) (.ok (.str<|x++y) S)
 | .ref n,.ref m=>opt (gn S n) λxs=>opt (gn S m) λys=>gd (xs.length+ys.length<=sizeLine) (.ok (.ref S.length)<|S++[.lst<|xs++ys])
 | _,_=>.no
def AVs.nil_inv{K:au}{H:Hp}(r:AVs K ρ H xs vs):xs=[] ↔ vs=[]:=by cases r<;>simp
def iW:jI X (binaryOp .Add) (r2 X iF):=λpins s σ H x y v u Q I rx ry h9=>by
 x_go
 cases va with
 | int i=>
  cases vb with
  | int j=>exact OA pins s σ H _ _ v u Q I rx ry ⟨i,j,rfl,rfl,h _ _ _ .refl R<|.int _⟩
  | _=>exact h.elim
 | str x=>
  cases vb with
  | str y=>
   obtain⟨hc,h⟩:=gO h;exact BL pins s σ H _ _ v u Q I rx ry ⟨x,y,rfl,rfl,hc,h _ _ _ .refl R<|.str _⟩
  | _=>exact h.elim
 | @tup p xs f h1 r1=>
  cases vb with
  | @tup q ys ws d r2=>
   obtain⟨hc,h⟩:=gO h;by_cases hv:f=[]
   ·have B:=r1.nil_inv.mpr hv;subst hv B;exact Ib pins s σ H _ _ v u Q I rx ry ⟨p,q,ws,rfl,rfl,kN.of h1,kN.of d,h _ _ _ .refl R<|.tup d r2⟩
   ·refine Mi pins s σ H _ _ v u Q I rx ry ⟨p,q,f,ws,rfl,rfl,kN.of h1,kN.of d,hv,by rw[<- r1.length,<- r2.length];exact hc,λe=>?_,λ_=>oB R (r1.append r2) .refl h⟩;have hy:=r2.nil_inv.mpr e;subst hy;rw[bX]at h;exact h _ _ _ .refl R<|.tup h1 r1
  | _=>exact h.elim
 | @ref p n hp=>
  cases vb with
  | @ref q m F=>
   gn_on;obtain⟨ys,C,h⟩:=gD h;obtain⟨hc,h⟩:=gO h;obtain⟨f,h1,d⟩:=R.lst hp<|gF hn;obtain⟨ws,k,g⟩:=R.lst F<|gF C;exact Og pins s σ H _ _ v u Q I rx ry ⟨p,q,f,ws,rfl,rfl,h1,k,by rw[<- d.length,<- g.length];exact hc,jJ R (d.append g) .refl h⟩
  | _=>exact h.elim
 | _=>exact h.elim
abbrev A.ints:ae->Option (am)
 | []=>some []
 | .int i::xs=>(A.ints xs).map (i::·)
 | _=>none
def Od{x:A}{bs:am}(e:A.ints (x::xs)=some bs):∃b cs,x=.int b/\A.ints xs=some cs/\bs=b::cs:=by
 unfold A.ints at e;split at e
 ·rename_i z;cases z
 ·rename_i i ys z
  cases z
  obtain⟨cs,h1,d⟩:=aX.mp e;exact⟨i,cs,rfl,h1,d.symm⟩
 ·cases e
def LN{K:au}{H:Hp}:∀{xs:ae}{vs:List V}{bs:am},AVs K ρ H xs vs->A.ints xs=some bs->vs=bs.map V.int:=by
 intro xs
 induction xs with
 | nil=>
  intro vs bs h e
  cases h
  cases e
  rfl
 | cons x xs d=>
  intro vs bs h e;obtain⟨b,cs,rfl,e1,rfl⟩:=Od e
  cases h with
  | cons h t=>
   cases h
   rw[d t e1];rfl
abbrev Qh (a b:A)(S:gr):R A:=match a,b with
 | .int i,.int j=>.ok (.bl<|decide<|i<j) S
 | _,_=>.no
def Of(J:X.A.units+64<cLine):jI X (compareOp .Lt) (r2 X Qh):=λpins s σ H x y v u Q I rx ry h9=>by
 x_go
 cases va with
 | int i=>
  cases vb with
  | int j=>exact Se pins s σ H _ _ v u Q I rx ry ⟨i,j,rfl,rfl,h _ _ _ .refl R<|.bl _⟩
  | _=>exact h.elim
 | _=>exact h.elim
abbrev FH (a b:A)(S:gr):R A:=match a,b with
 | .int i,.int j=>.ok (.bl<|decide<|i<=j) S
 | _,_=>.no
def ID:jI X (compareOp .LtE) (r2 X FH):=jI.imp RO λx y H Q h9=>by
 x_go
 cases va<;>first|exact h.elim|(cases vb<;>first|exact h.elim|exact⟨_,_,rfl,rfl,h _ _ _ .refl R<|.bl _⟩)
abbrev Bg (a b:A)(S:gr):R A:=match a,b with
 | .int i,.int j=>.ok (.bl<|decide<|j<i) S
 | _,_=>.no
def zZ(J:X.A.units+64<cLine):jI X (compareOp .Gt) (r2 X Bg):=λpins s σ H x y v u Q I rx ry h9=>by
 x_go
 cases va with
 | int i=>
  cases vb with
  | int j=>exact R9 pins s σ H _ _ v u Q I rx ry ⟨i,j,rfl,rfl,h _ _ _ .refl R<|.bl _⟩
  | _=>exact h.elim
 | _=>exact h.elim
abbrev OX (a b:A)(S:gr):R A:=match a,b with
 | .int i,.int j=>.ok (.bl<|decide<|j<=i) S
 | _,_=>.no
def Rm:jI X (compareOp .GtE) (r2 X OX):=jI.imp RJ λx y H Q h9=>by
 x_go
 cases va<;>first|exact h.elim|(cases vb<;>first|exact h.elim|exact⟨_,_,rfl,rfl,h _ _ _ .refl R<|.bl _⟩)
abbrev BD (J:Bool)(a b:A)(S:gr):R A:=match a,b with
 | .bl i,.bl j=>.ok (.bl<|if J then i != j else i == j) S
 | .non,.non=>.ok (.bl<|!J) S
 | .unb,.non=>.no
 | .exn _,.non=>.no
 | _,.non=>.ok (.bl J) S
 | _,_=>.no
def PU{n:Bool}{a b:A}(h1:b≠.non)(J:∀j,b≠.bl j):BD n a b S=.no:=by
 unfold BD;split<;>first|rfl|exact absurd rfl h1|exact absurd rfl<|J _
def O5{n:Bool}{a b:A}{F:A->gr->Prop}{G:Str->gr->Prop}(h:(BD n a b S).post F G)(h1:b≠.non)(J:∀j,b≠.bl j):False:=by
 rw[PU h1 J]at h;exact h
def TM:jI X (compareOp .Is) (r2 X<|BD false):=λpins s σ H x y v u Q I rx ry h9=>by
 x_go
 cases vb with
 | non=>
  refine NI pins s σ H _ _ v u Q I rx ry ⟨rfl,?_⟩
  cases va<;>first|exact h _ _ _ .refl R (.bl _)|exact h.elim
 | bl j=>
  cases va with
  | bl i=>exact OH pins s σ H _ _ v u Q I rx ry ⟨i,j,rfl,rfl,h _ _ _ .refl R<|.bl _⟩
  | _=>exact h.elim
 | _=>
  exact(O5 h (λz=>nomatch z) nofun).elim
abbrev BI (f:A->gr->R A)(c:Ex):Ex:=λτ S=>(c τ S).bind λa S1=>f a S1
abbrev vV (a:A)(S:gr):R A:=match a with
 | .int i=>.ok (.int<|-i) S
 | _=>.no
def Q0:Sz X (unaryOp .USub) (r1 X vV):=λpins s σ H x v Q I rx h9=>by
 obtain⟨ρ,S,a,R,va,h⟩:=h9
 cases va with
 | int i=>exact Ck pins s σ H _ v Q I rx ⟨i,rfl,h _ _ _ .refl R<|.int _⟩
 | _=>exact h.elim
def OJ{f:A->gr->R A}{c:Ex}{H:Hp}{Q:VK}(h:tE X (BI f c) σ H Q):UC (r1 X f) (tE X c) σ H Q:=by
 gp_on;exact⟨ρ,S,τ,R,r,gq (gu h) .refl λa S1 h1 ρ1 H1 x e1 R1 v1=>⟨ρ1,S1,a,R1,v1,gq h1 e1 λc g d=>d.ext e1⟩⟩
def yZ{c:Ex}(h:AE X a c):AE X (.UnaryOp .USub a pos) (BI vV c):=PE.imp (Jj Q0 h) λ_ _ _ q=>OJ q
abbrev jq (a b:A)(S:gr):R A:=match a,b with
 | .tup xs,.int i=>opt (lH xs i) λx=>.ok x S
 | .frz xs,.int i=>opt (lH xs i) λx=>.ok x S
 | .ref n,.int i=>opt (gn S n) λxs=>opt (lH xs i) λx=>.ok x S
 | .str z,.int i=>gd (z.length<=sizeLine) (opt (lH z.cps.toList i) λc=>.ok (.str ⟨#[c]⟩) S)
 | _,_=>.no
def AVs.lH{K:au}{H:Hp}{i:Int}{x:A}(r:AVs K ρ H xs vs)(h:L2.lH xs i=some x):∃v,L2.lH vs i=some v/\AV K ρ H x v:=by
 unfold L2.lH at h ⊢;rw[<- r.length]
 cases d:ve xs.length i with
 | none=>rw[d]at h;cases h
 | some j=>
  rw[d]at h;exact r.get h
def Q8:Mz X (r2 X jq):=λvalue d pins s σ H x y v u Q I rx ry ⟨ρ,S,a,b,R,va,vb,h⟩ hs=>by
 cases va with
 | @tup p xs f h1 r1=>
  cases vb with
  | int i=>
   obtain⟨x,g,h⟩:=gD h;obtain⟨z,e,q⟩:=r1.lH g;exact PY value d pins s σ H _ _ v u Q I rx ry ⟨p,f,i,z,rfl,rfl,kN.of h1,e,h _ _ _ .refl R q⟩ hs
  | _=>exact h.elim
 | @frz p xs f h1 r1=>
  cases vb with
  | int i=>
   obtain⟨x,g,h⟩:=gD h;obtain⟨z,e,q⟩:=r1.lH g;exact Dn value d pins s σ H _ _ v u Q I rx ry ⟨p,f,i,z,rfl,rfl,h1.KC,e,h _ _ _ .refl R q⟩ hs
  | _=>exact h.elim
 | @ref p n hp=>
  cases vb with
  | int i=>
   gn_on;obtain⟨x,g,h⟩:=gD h;obtain⟨f,h1,r1⟩:=R.lst hp<|gF hn;obtain⟨z,e,q⟩:=r1.lH g;exact Dn value d pins s σ H _ _ v u Q I rx ry ⟨p,f,i,z,rfl,rfl,jM.of h1,e,h _ _ _ .refl R q⟩ hs
  | _=>exact h.elim
 | str z=>
  cases vb with
  | int i=>
   obtain⟨j,h⟩:=gO h;obtain⟨c,hc,h⟩:=gD h;exact NG value d pins s σ H _ _ v u Q I rx ry ⟨z,i,c,rfl,rfl,j,hc,h _ _ _ .refl R<|.str _⟩ hs
  | _=>exact h.elim
 | _=>exact h.elim
def iD{ca j:Ex}(J:AE X a ca)(hb:AE X b j)(hs:u9 b<|>θ):AE X (.Subscript a b pos) (gB jq ca j):=PE.imp (FU Q8 J hb hs) λσ H Q h=>sD h
end
abbrev vS (f:A->A->bo):ae->ae->bo
 | [],[]=>some true
 | x::xs,y::ys=>(f x y).bind λp=>(vS f xs ys).map λq=>p && q
 | _,_=>some false
inductive Sh
 | non
 | bl (b:Bool)
 | int (i:Int)
 | str (x:Str)
 | tup (xs:ae)
 | lst
abbrev NF (S:gr):A->Option Sh
 | .non=>some .non
 | .bl b=>some (.bl b)
 | .int i=>some (.int i)
 | .str x=>some (.str x)
 | .tup xs=>some (.tup xs)
 | .ref i=>(gn S i).map λ_=>.lst
 | _=>none
abbrev Mm (f:A->A->bo):Sh->Sh->bo
 | .non,.non=>some true
 | .bl x,.bl y=>some (x == y)
 | .bl x,.int y=>some ((if x then 1 else 0) == y)
 | .int x,.bl y=>some (x == (if y then 1 else 0))
 | .int x,.int y=>some (x == y)
 | .str x,.str y=>some (x == y)
 | .tup xs,.tup ys=>vS f xs ys
 | .lst,.lst=>none
 | _,_=>some false
abbrev xG (S:gr):Nat->A->A->bo
 | 0,_,_=>none
 | n+1,a,b=>match a,b with
  | .ref i,.ref j=>(gn S i).bind λxs=>(gn S j).bind λys=>vS (xG S n) xs ys
  | _,_=>(NF S a).bind λx=>(NF S b).bind λy=>Mm (xG S n) x y
section
variable {X:Cx}{pins:bt}{σ:L2.St}{H:Hp}{s:aA}{ρ:be}{S:gr}
inductive KdV (s:aA):Sh->aa->Prop
 | non:KdV s .non .none
 | bl (b:Bool):KdV s (.bl b) (.bool b)
 | int (i:Int) (t:Tok):KdV s (.int i) (.int i t)
 | str (x:Str) (t:Tok):KdV s (.str x) (.str x t)
 | tup {p:aj} {us:bd} (xs:ae) (h:s.heap.IsTuple p us.toArray):KdV s (.tup xs) (.ref p)
 | lst {p:aj} {us:bd} (h:s.heap.IsList p us.toArray):KdV s .lst<|.ref p
def Eg{p:aj}(h:s.heap.IsTuple p us)(h':s.heap.IsList p ws):False:=by
 obtain⟨o,e,c,_⟩:=h;obtain⟨o',d,f,_⟩:=h';rw[e]at d
 cases d
 exact absurd (c.symm.trans f) ⋯
def ED(I:Inv X pins σ H s)(R:Rel X.K ρ H S){a:A}{x:V}(j:AV X.K ρ H a x)(r:RelV x u)(e:NF S a=some h):KdV s h u:=by
 cases j with
 | non=>cases e;cases(show u=Value.none from r);exact .non
 | bl b=>cases e;cases(show u=Value.bool b from r);exact .bl b
 | int i=>cases e;obtain⟨t,rfl⟩:∃t,u=Value.int i t:=r;exact .int i t
 | str i=>cases e;obtain⟨t,rfl⟩:∃t,u=Value.str i t:=r;exact .str i t
 | tup h1 r1=>cases e;cases(show u=Value.ref _ from r);obtain⟨us,_,p,_⟩:=I.tuple<|kN.of h1;exact .tup _ p
 | ref h1=>
  obtain⟨xs,e1,rfl⟩:=aX.mp e
  cases(show u=Value.ref _ from r)
  obtain⟨f,d,r1⟩:=R.lst h1<|gF e1;obtain⟨us,_,p,_⟩:=I.list<|jM.of d;exact .lst p.isList
 | _=>cases e
abbrev Al (B:az)(s:aA)(u v:aa)(k:Bool):Prop:=SeqAt.RcAt B s u v k/\SeqAt.EqAt B s u v k/\SeqAt.RcNeAt B s u v (!k)
def Qz{B:az}(J:B.units<cLine){f:A->A->bo}{v:aa}{k:Bool}(d:KdV s h u)(d':KdV s h' v)(L:∀xs ys,h=.tup xs->h'≠.tup ys)(e:Mm f h h'=some k):Al B s u v k:=by
 cases d with
 | non=>cases d' with
  | non=>cases e;exact⟨.none_none,.same _,.none_none⟩
  | bl b=>cases e;exact⟨.none_bool _,.none_bool _,.none_bool _⟩
  | int i t=>cases e;exact⟨.none_int _ _,.none_int _ _,.none_int _ _⟩
  | str x t=>cases e;exact⟨.none_str _ _,.none_str _ _,.none_str _ _⟩
  | tup xs p=>cases e;exact⟨.none_tuple p J,.none_tuple p J,.none_tuple p J⟩
  | lst p=>cases e;exact⟨.none_list p J,.none_list p J,.none_list p J⟩
 | bl c=>cases d' with
  | non=>cases e;exact⟨.bool_none _,.bool_none _,.bool_none _⟩
  | bl b=>cases e;exact⟨.bool_bool _ _,.bool_bool _ _,.bool_bool _ _⟩
  | int i t=>cases e;exact⟨.bool_int _ _ _,.bool_int _ _ _,.bool_int _ _ _⟩
  | str x t=>cases e;exact⟨.bool_str _ _ _,.bool_str _ _ _,.bool_str _ _ _⟩
  | tup xs p=>cases e;exact⟨.bool_tuple _ p J,.bool_tuple _ p J,.bool_tuple _ p J⟩
  | lst p=>cases e;exact⟨.bool_list _ p J,.bool_list _ p J,.bool_list _ p J⟩
 | int c j=>cases d' with
  | non=>cases e;exact⟨.int_none _ _,.int_none _ _,.int_none _ _⟩
  | bl b=>cases e;exact⟨.int_bool _ _ _,.int_bool _ _ _,.int_bool _ _ _⟩
  | int i t=>cases e;exact⟨.int_int _ _ _ _,.int_int _ _ _ _,.int_int _ _ _ _⟩
  | str x t=>cases e;exact⟨.int_str _ _ _ _,.int_str _ _ _ _,.int_str _ _ _ _⟩
  | tup xs p=>cases e;exact⟨.int_tuple _ _ p J,.int_tuple _ _ p J,.int_tuple _ _ p J⟩
  | lst p=>cases e;exact⟨.int_list _ _ p J,.int_list _ _ p J,.int_list _ _ p J⟩
 | str c j=>cases d' with
  | non=>cases e;exact⟨.str_none _ _,.str_none _ _,.str_none _ _⟩
  | bl b=>cases e;exact⟨.str_bool _ _ _,.str_bool _ _ _,.str_bool _ _ _⟩
  | int i t=>cases e;exact⟨.str_int _ _ _ _,.str_int _ _ _ _,.str_int _ _ _ _⟩
  | str x t=>cases e;exact⟨.str_str _ _ _ _,.str_str _ _ _ _,.str_str _ _ _ _⟩
  | tup xs p=>cases e;exact⟨.str_tuple _ _ p J,.str_tuple _ _ p J,.str_tuple _ _ p J⟩
  | lst p=>cases e;exact⟨.str_list _ _ p J,.str_list _ _ p J,.str_list _ _ p J⟩
 | tup zs g=>cases d' with
  | non=>cases e;exact⟨.tuple_none g J,.tuple_none g J,.tuple_none g J⟩
  | bl b=>cases e;exact⟨.tuple_bool _ g J,.tuple_bool _ g J,.tuple_bool _ g J⟩
  | int i t=>cases e;exact⟨.tuple_int _ _ g J,.tuple_int _ _ g J,.tuple_int _ _ g J⟩
  | str x t=>cases e;exact⟨.tuple_str _ _ g J,.tuple_str _ _ g J,.tuple_str _ _ g J⟩
  | tup xs p=>exact absurd rfl (L _ _ rfl)
  | lst p=>cases e;exact⟨.tuple_list g p J,.of_refs (λz=>by subst z;exact Eg g p)<|.tuple_list g p J,.tuple_list g p J⟩
 | lst g=>cases d' with
  | non=>cases e;exact⟨.list_none g J,.list_none g J,.list_none g J⟩
  | bl b=>cases e;exact⟨.list_bool _ g J,.list_bool _ g J,.list_bool _ g J⟩
  | int i t=>cases e;exact⟨.list_int _ _ g J,.list_int _ _ g J,.list_int _ _ g J⟩
  | str x t=>cases e;exact⟨.list_str _ _ g J,.list_str _ _ g J,.list_str _ _ g J⟩
  | tup xs p=>cases e;exact⟨.list_tuple g p J,.of_refs (λz=>by subst z;exact Eg p g)<|.list_tuple g p J,.list_tuple g p J⟩
  | lst p=>cases e
def zC{a:A}{x:V}(h:AV X.K ρ H a x)(e:NF S a=some (.tup xs)):a=.tup xs/\∃p vs,x=.ref p/\H p=some (.tup vs)/\AVs X.K ρ H xs vs:=by
 cases h with
 | tup h r=>cases e;exact⟨rfl,_,_,rfl,h,r⟩
 | ref h=>obtain⟨_,_,z⟩:=aX.mp e;cases z
 | _=>cases e
def yz{i:Nat}{x:V}(h:AV X.K ρ H (.ref i) x):∃p,x=.ref p/\ρ[i]?=some p:=by
 cases h with
 | ref h=>exact⟨_,rfl,h⟩
def Js{a:A}(e:NF S a=some .lst):∃i,a=.ref i:=by
 cases a with
 | ref i=>exact⟨i,rfl⟩
 | _=>cases e
def Jz{n:Nat}{a:A}{k:Bool}(e:xG S (n+1) a b=some k):(∃i j xs ys,a=.ref i/\b=.ref j/\gn S i=some xs/\gn S j=some ys/\vS (xG S n) xs ys=some k)\/(∃h h',NF S a=some h/\NF S b=some h'/\Mm (xG S n) h h'=some k/\(h=.lst->h'≠.lst)):=by
 unfold xG at e;split at e
 ·obtain⟨xs,e1,e⟩:=bD.mp e;obtain⟨ys,e2,e⟩:=bD.mp e;exact .inl ⟨_,_,xs,ys,rfl,rfl,e1,e2,e⟩
 ·rename_i f;obtain⟨h,e1,e⟩:=bD.mp e;obtain⟨h',e2,e⟩:=bD.mp e;refine .inr ⟨h,h',e1,e2,e,λd g=>?_⟩;subst d g;obtain⟨i,rfl⟩:=Js e1;obtain⟨j,rfl⟩:=Js e2;exact f i j rfl rfl
def K7{f:A->A->bo}{k:Bool}(d:KdV s h u)(d':KdV s h' u)(j:∀xs ys,h=.tup xs->h'≠.tup ys)(e:Mm f h h'=some k):k=true:=by
 cases d with
 | non=>cases d';exact(aQ e).symm
 | bl b=>cases d';exact(aQ e).symm.trans (bG b)
 | int b=>cases d';exact(aQ e).symm.trans (bG b)
 | str b=>cases d';exact(aQ e).symm.trans (bG b)
 | tup xs p=>cases d' with
  | tup=>exact absurd rfl (j _ _ rfl)
  | lst q=>exact(Eg p q).elim
 | lst p=>cases d' with
  | tup _ q=>exact(Eg q p).elim
  | lst q=>cases e
def AF{f:A->A->bo}(hf:∀a b x u k,AV X.K ρ H a x->AV X.K ρ H b x->RelV x u->f a b=some k->k=true):∀{xs ys:ae}{vs:List V}{us:bd}{k:Bool},AVs X.K ρ H xs vs->AVs X.K ρ H ys vs->Vals vs us->vS f xs ys=some k->k=true:=by
 intro xs ys vs us k h1 d q e
 induction q generalizing xs ys k with
 | nil=>cases h1;cases d;exact(aQ e).symm
 | cons j _ g=>
  cases h1 with
  | cons h t=>cases d with
   | cons h' m=>
    obtain⟨p,e1,e⟩:=bD.mp e;obtain⟨q,e2,e3⟩:=aX.mp e;rw[<- e3,hf _ _ _ _ p h h' j e1,g t m e2];rfl
def EG(h h':Sh):(∃xs ys,h=.tup xs/\h'=.tup ys)\/(∀xs ys,h=.tup xs->h'≠.tup ys):=by
 cases h with
 | tup xs=>cases h' with
  | tup ys=>exact .inl ⟨xs,ys,rfl,rfl⟩
  | _=>exact .inr λ_ _ _ z=>nomatch z
 | _=>exact .inr λ_ _ z=>nomatch z
theorem zy(I:Inv X pins σ H s)(R:Rel X.K ρ H S):∀(n:Nat) (a b:A) (x:V) (u:aa) (k:Bool),AV X.K ρ H a x->AV X.K ρ H b x->RelV x u->xG S n a b=some k->k=true
 | 0,_,_,_,_,_,_,_,_,e=>nomatch e
 | n+1,a,b,x,u,k,ha,hb,ru,e=>by
  rcases Jz e with⟨i,j,xs,ys,rfl,rfl,e1,e2,e⟩|⟨h,h',e1,e2,e,_⟩
  ·obtain⟨p,rfl,h1⟩:=yz ha;obtain⟨q,z,B⟩:=yz hb
   cases z
   obtain⟨g,d,r1⟩:=R.lst h1<|gF e1;obtain⟨ws,f,r2⟩:=R.lst B<|gF e2;rw[d]at f
   cases f
   obtain⟨us,q,_⟩:=I.list<|jM.of d;exact AF (λa b x u k=>zy I R n a b x u k) r1 r2 q e
  ·rcases EG h h' with⟨xs,ys,rfl,rfl⟩|m
   ·obtain⟨rfl,p,g,rfl,d,r1⟩:=zC ha e1;obtain⟨rfl,q,ws,z,f,r2⟩:=zC hb e2
    cases z
    have:=I.xU (kN.of d)<|kN.of f;subst this;obtain⟨us,q,_⟩:=I.tuple<|kN.of d;exact AF (λa b x u k=>zy I R n a b x u k) r1 r2 q e
   ·exact K7 (ED I R ha ru e1) (ED I R hb ru e2) m e
abbrev xE (f:A->A->bo)(xs ys:ae)(j:Nat):Bool:=match xs[j]?,ys[j]? with
 | some x,some y=>(f x y).getD true
 | _,_=>true
theorem vq{f:A->A->bo}:∀{xs ys:ae}{k:Bool},vS f xs ys=some k->k=((List.range<|min xs.length ys.length).all (xE f xs ys) && xs.length == ys.length)/\∀j x y,xs[j]?=some x->ys[j]?=some y->f x y=some (xE f xs ys j)
 | [],[],k,e=>⟨(aQ e).symm,λj x y h=>by simp at h⟩
 | [],_::_,k,e=>⟨(aQ e).symm,λj x y h=>by simp at h⟩
 | _::_,[],k,e=>⟨(aQ e).symm,λj x y _ h=>by simp at h⟩
 | x::xs,y::ys,k,e=>by
  unfold vS at e
  cases e1:f x y with
  | none=>rw[e1]at e;cases e
  | some p=>
   rw[e1]at e;obtain⟨q,e2,e3⟩:=aX.mp e;obtain⟨h1,B⟩:=vq e2;have m:xE f (x::xs) (y::ys) 0=p:=by simp[xE,e1]
   have ps:∀j,xE f (x::xs) (y::ys) (j+1)=xE f xs ys j:=λj=>by simp[xE]
   refine⟨?_,λj a b g d=>?_⟩
   ·rw[<- e3,h1,bq,bq,Nat.succ_min_succ,List.range_succ_eq_map,all_cons,List.all_map,m];have:(xE f (x::xs) (y::ys) ∘ Nat.succ)=xE f xs ys:=funext ps;rw[this,Bool.and_assoc];simp
   ·cases j with
    | zero=>
     simp at g d;subst g d;rw[m];exact e1
    | succ j=>rw[ps];exact B j a b (by simpa using g)<|by simpa using d
def vn{f:A->A->bo}(hf:∀a b x y u v k,AV X.K ρ H a x->AV X.K ρ H b y->RelV x u->RelV y v->f a b=some k->SeqAt.EqAt B s u v k){us ts:bd}{k:Bool}
  (r1:AVs X.K ρ H xs vs) (r2:AVs X.K ρ H ys ws) (U:Vals vs us) (Z:Vals ws ts) (e:vS f xs ys=some k):∀j (h1:j<us.toArray.size) (h2:j<ts.toArray.size),SeqAt.EqAt B s us.toArray[j] ts.toArray[j] (xE f xs ys j):=by
 intro j h1 h2;have N:=r1.length;have T:=r2.length;have P:=U.length;have O:=Z.length;have g:j<xs.length:=by simp at h1;lia
 have hy:j<ys.length:=by simp at h2;lia
 have e1:xs[j]?=some xs[j]:=aL g;have e2:ys[j]?=some ys[j]:=aL hy;obtain⟨x,ex,J⟩:=r1.get e1;obtain⟨y,F,d⟩:=r2.get e2;obtain⟨u,p,G⟩:=U.get ex;obtain⟨t,C,rt⟩:=Z.get F;have m:us.toArray[j]=u:=by
  have:us[j]?=some us.toArray[j]:=by simp at h1;simp[h1]
  rw[p]at this;exact(aQ this).symm
 have L:ts.toArray[j]=t:=by
  have:ts[j]?=some ts.toArray[j]:=by simp at h2;simp[h2]
  rw[C]at this;exact(aQ this).symm
 rw[m,L];exact hf _ _ x y u t _ J d G rt<|(vq e).2 j _ _ e1 e2
def in1_units(B:az):B.in1.units=B.units+1:=rfl
theorem CD(I:Inv X pins σ H s)(R:Rel X.K ρ H S):∀(n:Nat) (B:az) (a b:A) (x y:V) (u v:aa) (k:Bool),B.units+n<cLine->AV X.K ρ H a x->AV X.K ρ H b y->RelV x u->RelV y v->xG S n a b=some k->Al B s u v k
 | 0,_,_,_,_,_,_,_,_,_,_,_,_,_,e=>nomatch e
 | n+1,B,a,b,x,y,u,v,k,hu,ha,hb,rx,ry,e=>by
  have f:B.units<cLine:=()
  have d:∀a b x y u v k,AV X.K ρ H a x->AV X.K ρ H b y->RelV x u->RelV y v->xG S n a b=some k->SeqAt.EqAt B.in1 s u v k:=λa b x y u v k h1 T O N h5=>(CD I R n B.in1 a b x y u v k (by rw[in1_units];lia) h1 T O N h5).2.1;have same:=λ(z:y=x)=>zy I R (n+1) a b x u k ha (z ▸ hb) rx e;have m:∀{p q:aj},x=.ref p->y=.ref q->u=.ref p->v=.ref q->SeqAt.RcAt B s u v k->SeqAt.EqAt B s u v k:=λ{p q} g C z3 z4 h=>by
   subst z3 z4;by_cases hp:p=q
   ·subst hp;rw[same<|C.trans g.symm];exact .same _
   ·exact .of_refs hp h
  rcases Jz e with⟨i,j,xs,ys,rfl,rfl,e1,e2,e⟩|⟨h,h',e1,e2,e,_⟩
  ·obtain⟨p,rfl,h1⟩:=yz ha;obtain⟨q,rfl,T⟩:=yz hb;obtain⟨vs,O,r1⟩:=R.lst h1<|gF e1;obtain⟨ws,N,r2⟩:=R.lst T<|gF e2;obtain⟨us,G,p1,_⟩:=I.list<|jM.of O;obtain⟨ts,F,p2,_⟩:=I.list<|jM.of N;have P:=m rfl rfl rx ry
   cases(show u=Value.ref p from rx)
   cases(show v=Value.ref q from ry)
   have Y:=r1.length;have l2:=r2.length;have l3:=G.length;have l4:=F.length;have J:=(vq e).1;by_cases U:xs.length=ys.length
   ·rw[<- U,Nat.min_self,bG,Bool.and_true]at J;have L:us.toArray.size=ts.toArray.size:=by simp;lia
    have g:=SeqAt.RcAt.lists p1.isList p2.isList L f<|vn d r1 r2 G F e;have C:=SeqAt.RcNeAt.lists p1.isList p2.isList L f<|vn d r1 r2 G F e;rw[aN,<- l3,<- Y,<- J]at g C;exact⟨g,P g,C⟩
   ·have:(xs.length == ys.length)=false:=by simpa using U
    rw[this,f9]at J;subst J;have L:(us.toArray.size != ts.toArray.size)=true:=by simp;lia
    have g:=SeqAt.RcAt.lists_lengths p1.isList p2.isList L f;exact⟨g,P g,SeqAt.RcNeAt.lists_lengths p1.isList p2.isList L f⟩
  ·rcases EG h h' with⟨xs,ys,rfl,rfl⟩|Z
   ·obtain⟨rfl,p,vs,rfl,O,r1⟩:=zC ha e1;obtain⟨rfl,q,ws,rfl,N,r2⟩:=zC hb e2;have P:=m rfl rfl rx ry
    cases(show u=Value.ref p from rx)
    cases(show v=Value.ref q from ry)
    obtain⟨us,G,p1,_⟩:=I.tuple<|kN.of O;obtain⟨ts,F,p2,_⟩:=I.tuple<|kN.of N;have J:=(vq e).1;have g:=SeqAt.RcAt.tuples p1 p2 f<|vn d r1 r2 G F e;have C:=SeqAt.RcNeAt.tuples p1 p2 f<|vn d r1 r2 G F e;rw[aN,aN,<- G.length,<- F.length,<- r1.length,<- r2.length,<- J]at g C;exact⟨g,P g,C⟩
   ·exact Qz f (ED I R ha rx e1) (ED I R hb ry e2) Z e
end
section
variable {X:Cx}
abbrev m_ (j:Bool)(a b:A)(S:gr):R A:=opt (xG S 12 a b) λk=>.ok (.bl<|if j then !k else k) S
def sj(j:X.A.units+64<cLine):jI X (compareOp .Eq) (r2 X<|m_ false):=λpins s σ H x y v u Q I rx ry h9=>by
 x_go;obtain⟨k,e,h⟩:=gD h;exact(CD I R 12 X.A a b x y v u k (by omega) va vb rx ry e).1 _ _ _ _ ⟨.bl _,H,I,rfl,h _ _ _ .refl R<|.bl _⟩
def PJ(j:X.A.units+64<cLine):jI X (compareOp .NotEq) (r2 X<|m_ true):=λpins s σ H x y v u Q I rx ry h9=>by
 x_go;obtain⟨k,e,h⟩:=gD h;exact(CD I R 12 X.A a b x y v u k (by omega) va vb rx ry e).2.2 _ _ _ _ ⟨.bl _,H,I,rfl,h _ _ _ .refl R<|.bl _⟩
end
section
variable {X:Cx}{pos:Pos}{a b:aE}
meta abbrev Pt:=ae->gr->R (bj)
abbrev j6:Pt:=λ_ S=>.ok none S
abbrev j7 (c:Ex):Pt:=λτ S=>(c τ S).bind λa S1=>match a with
 | .int i=>.ok (some i) S1
 | _=>.no
abbrev tO (X:Cx)(c:Pt):TO:=λσ H Q=>∃ρ S τ,Rel X.K ρ H S/\SR X.K ρ H τ σ/\(c τ S).post (λo d=>∀ρ' H',Ext ρ ρ' H H'->Rel X.K ρ' H' d->Q o H') (XE X ρ H)
abbrev AO (X:Cx)(e:Option aE)(c:Pt):Prop:=PO X e<|tO X c
def m9:AO X none j6:=λpins s σ H Q I ⟨ρ,S,τ,R,r,h⟩=>Ma pins s σ H Q I<|h ρ H .refl R
def mZ{c:Ex}(j:AE X a c):AO X (some a) (j7 c):=λpins s σ H Q I ⟨ρ,S,τ,R,r,h⟩=>Mj j pins s σ H Q I ⟨ρ,S,τ,R,r,gq (gu h) .refl λx S1 h1 ρ1 H1 v e1 R1 v1=>by
 cases v1<;>first|exact h1.elim|exact⟨_,rfl,h1 ρ1 H1 e1 R1⟩⟩
abbrev mQ (xs:ae)(lo hi:bj):ae:=(xs.drop<|HT.jY xs.length 0 lo).take<|HT.jY xs.length xs.length hi-HT.jY xs.length 0 lo
def AVs.cut{K:au}{H:Hp}(r:AVs K ρ H xs vs)(lo hi:bj):AVs K ρ H (mQ xs lo hi) (Bd vs lo hi):=by
 unfold mQ Bd;rw[r.length];exact(r.drop _).take _
abbrev Rb (a:A)(lo hi:bj)(S:gr):R A:=match a with
 | .ref n=>opt (gn S n) λxs=>.ok (.ref S.length) (S++[.lst<|mQ xs lo hi])
 | .frz xs=>.ok (.ref S.length) (S++[.lst<|mQ xs lo hi])
 | .tup xs=>gd (¬(HT.jY xs.length 0 lo=0/\HT.jY xs.length xs.length hi=xs.length)) (.ok (.tup<|mQ xs lo hi) S)
 | _=>.no
abbrev zE (c:Ex)(lo hi:Pt):Ex:=λτ S=>(c τ S).bind λa S1=>(lo τ S1).bind λl f=>(hi τ f).bind λu d=>Rb a l u d
abbrev rS (X:Cx):V->bj->bj->Hp->VK->Prop:=λx lo hi H Q=>∃ρ S a,Rel X.K ρ H S/\AV X.K ρ H a x/\(Rb a lo hi S).post (qV X ρ H Q) (XE X ρ H)
def NV:SD X (rS X):=λpins s σ H x v k j lo hi f Q I rx hs pl g h9=>by
 obtain⟨ρ,S,a,R,va,h⟩:=h9
 cases va with
 | @tup p xs d h1 r1=>
  obtain⟨hc,h⟩:=gO h;exact NL pins s σ H _ v k j lo hi f Q I rx hs pl g ⟨p,d,rfl,(kN.of h1),by rw[<- r1.length];exact hc,oB R (r1.cut lo hi) .refl h⟩
 | @frz p xs d h1 r1=>exact DO pins s σ H _ v k j lo hi f Q I rx hs pl g ⟨p,d,rfl,h1.KC,jJ R (r1.cut lo hi) .refl h⟩
 | @ref p n hp=>
  gn_on;obtain⟨d,h1,r1⟩:=R.lst hp<|gF hn;exact DO pins s σ H _ v k j lo hi f Q I rx hs pl g ⟨p,d,rfl,jM.of h1,jJ R (r1.cut lo hi) .refl h⟩
 | _=>exact h.elim
def uA{lo:Option aE}{c:Ex}{cl ch:Pt}(J:AE X e c)(L:AO X lo cl)(hh:AO X hi ch):AE X (.Subscript e (.Slice lo hi none p2) pos) (zE c cl ch):=PE.imp (JZ NV J L hh) λσ H Q h9=>by
 room;refine⟨ρ,S,τ,R,r,gq (gu h) .refl λa S1 h1 ρ1 H1 x e1 R1 v1=>⟨ρ1,S1,τ,R1,r.ext e1,gq (gu h1) e1 λl m k f H2 e2 R2=>⟨f,m,τ,R2,r.ext<|e1.trans e2,gq (gu k) (e1.trans e2) λu g j d H3 e3 p=>?_⟩⟩⟩;exact⟨d,g,a,p,v1.ext<|e2.trans e3,gq j (e1.trans<|e2.trans e3) λ_ _ z=>z.ext<|e1.trans<|e2.trans e3⟩
abbrev HR (a:A)(S:gr):R A:=match a with
 | .ref n=>opt (gn S n) λxs=>.ok (.ref S.length) (S++[.lst xs.reverse])
 | .tup xs=>.ok (.tup xs.reverse) S
 | _=>.no
def PL{J cp:Pos}{c:Ex}(j:AE X e c):AE X (.Subscript e (.Slice none none (some<|.UnaryOp .USub (.Constant (.int 1) kk cp) J) p2) pos) (BI HR c):=λpins s σ H Q I h9=>by
 room;have d:=gu h
 cases hc:c τ S with
 | no=>rw[hc]at d;exact d.elim
 | ex x S1=>
  rw[hc]at d;exact Dy j pins s σ H Q I ⟨ρ,S,τ,R,r,by rw[hc];exact d⟩
 | ok a S1=>
  rw[hc]at d;have d:(HR a S1).post (qV X ρ H Q) (XE X ρ H):=d
  cases a with
  | tup xs=>
   refine Dy j pins s σ H Q I ⟨ρ,S,τ,R,r,?_⟩;rw[hc];intro ρ1 H1 x e1 R1 v1
   cases v1 with
   | tup h1 r1=>exact⟨_,_,rfl,(kN.of h1),oB R1 r1.reverse e1 d⟩
  | ref n=>
   refine L6 j pins s σ H Q I ⟨ρ,S,τ,R,r,?_⟩;rw[hc];intro ρ1 H1 x e1 R1 v1;obtain⟨xs,hn,h⟩:=gD d
   cases v1 with
   | ref hp=>
    obtain⟨f,h1,r1⟩:=R1.lst hp<|gF hn;exact⟨_,_,rfl,jM.of h1,jJ R1 r1.reverse e1 h⟩
  | _=>exact d.elim
abbrev gP (f:ae->gr->R A)(d:lq):Ex:=λτ S=>(d τ S).bind λas S1=>f as S1
def zI{f:ae->gr->R A}{d:lq}{H:Hp}{Q:VK}(h:tE X (gP f d) σ H Q):TQ (rN X f) (tL X d) σ H Q:=by
 gp_on;exact⟨ρ,S,τ,R,r,gq (gu h) .refl λas S1 h1 ρ1 H1 g e1 R1 v1=>⟨ρ1,S1,as,R1,v1,gq h1 e1 λ_ _ z=>z.ext e1⟩⟩
variable {x:Str}{p:Pos}{e:aE}{es:List aE}{id T:String}{f:ae->gr->R A}{d:lq}
def gS(hc:g6 X (.builtin id)<|rN X f)(L:X.mg x=none)(hv:bootBuiltins x=some (.builtin id))(U:AL X (e::es) d)(hg:Gl X x<|>ε)(hn:x ≠ "__name__"<|>δ)(j:(x == ("__debug__" : Str))=false<|>δ)
  (Z:starEach (e::es) X.env=(false,eval e X.env)::starEach es X.env<|>ε) (J:((backTo pos<|starEach es X.env).any (·.1)=false)<|>ε):AE X (.Call (.Name x p) (e::es) [] pos) (gP f d):=
 PE.imp (Aa hc hg L hv U hn j Z J) λ_ _ _ h=>zI h
def iy(hc:g6 X (.type T)<|rN X f)(L:X.mg x=none)(hv:bootBuiltins x=some (.type T))(U:AL X (e::es) d)(hg:Gl X x<|>ε)(hn:x ≠ "__name__"<|>δ)(j:(x == ("__debug__" : Str))=false<|>δ)
  (Z:starEach (e::es) X.env=(false,eval e X.env)::starEach es X.env<|>ε) (J:((backTo pos<|starEach es X.env).any (·.1)=false)<|>ε):AE X (.Call (.Name x p) (e::es) [] pos) (gP f d):=
 PE.imp (Fe hc hg L hv U hn j Z J) λ_ _ _ h=>zI h
def DY(J:X.mg x=none)(hv:bootBuiltins x=some (.type T))(hg:Gl X x<|>ε)(hn:x ≠ "__name__"<|>δ)(j:(x == ("__debug__" : Str))=false<|>δ):AE X (.Name x pos) (eC<|.ty T):=
 PE.imp (K8 (v:=.ty T) hg J hv rfl hn j) λσ H Q ⟨ρ,S,τ,R,r,h⟩=>h ρ H _ .refl R<|.ty T
abbrev A.seq (S:gr):A->Option (ae)
 | .tup xs=>some xs
 | .frz xs=>some xs
 | .ktu xs=>some xs
 | .ref n=>gn S n
 | _=>none
def FZ{K:au}{H:Hp}{x:A}{v:V}(R:Rel K ρ H S)(h:AV K ρ H x v)(e:x.seq S=some xs):∃p vs,v=.ref p/\(jM K H p vs\/kN K H p vs)/\AVs K ρ H xs vs:=by
 cases h with
 | tup h r=>cases aQ e;exact⟨_,_,rfl,.inr<|kN.of h,r⟩
 | frz h r=>cases aQ e;exact⟨_,_,rfl,.inl h.KC,r⟩
 | ktu h r=>cases aQ e;exact⟨_,_,rfl,.inr<|.inr h,r⟩
 | ref h=>
  obtain⟨vs,h1,r1⟩:=R.lst h<|gF e;exact⟨_,vs,rfl,.inl<|jM.of h1,r1⟩
 | _=>cases e
def zS{K:au}{H:Hp}{x:A}(h:AVs K ρ H [x] vs):∃v,vs=[v]/\AV K ρ H x v:=by
 cases h with
 | cons h t=>cases t;exact⟨_,rfl,h⟩
def Qx{K:au}{H:Hp}{x:A}(h:AVs K ρ H [x,y] vs):∃v w,vs=[v,w]/\AV K ρ H x v/\AV K ρ H y w:=by
 cases h with
 | cons h t=>obtain⟨w,rfl,h'⟩:=zS t;exact⟨_,_,rfl,h,h'⟩
abbrev f1 (g:A->gr->R A):ae->gr->R A:=λas S=>match as with
 | [x]=>g x S
 | _=>.no
abbrev f2 (g:A->A->gr->R A):ae->gr->R A:=λas S=>match as with
 | [x,y]=>g x y S
 | _=>.no
def LM{g:A->gr->R A}{P:A->gr->Prop}{E:Str->gr->Prop}(h:(f1 g as S).post P E):∃x,as=[x]/\(g x S).post P E:=by
 match as,h with
 | [],h=>exact h.elim
 | [x],h=>exact⟨x,rfl,h⟩
 | _::_::_,h=>exact h.elim
def KN{g:A->A->gr->R A}{P:A->gr->Prop}{E:Str->gr->Prop}(h:(f2 g as S).post P E):∃x y,as=[x,y]/\(g x y S).post P E:=by
 match as,h with
 | [],h=>exact h.elim
 | [_],h=>exact h.elim
 | [x,y],h=>exact⟨x,y,rfl,h⟩
 | _::_::_::_,h=>exact h.elim
def KH{g:A->gr->R A}{H:Hp}{Q:VK}(h:rN X (f1 g) vs H Q):∃v,vs=[v]/\∃ρ S x,Rel X.K ρ H S/\AV X.K ρ H x v/\(g x S).post (qV X ρ H Q) (XE X ρ H):=by
 obtain⟨ρ,S,as,R,v,h⟩:=h;obtain⟨x,rfl,h⟩:=LM h;obtain⟨w,rfl,hv⟩:=zS v;exact⟨w,rfl,ρ,S,x,R,hv,h⟩
def SH{g:A->A->gr->R A}{H:Hp}{Q:VK}(h:rN X (f2 g) vs H Q):∃v w,vs=[v,w]/\∃ρ S x y,Rel X.K ρ H S/\AV X.K ρ H x v/\AV X.K ρ H y w/\(g x y S).post (qV X ρ H Q) (XE X ρ H):=by
 obtain⟨ρ,S,as,R,v,h⟩:=h;obtain⟨x,y,rfl,h⟩:=KN h;obtain⟨w,f,rfl,hv,d⟩:=Qx v;exact⟨w,f,rfl,ρ,S,x,y,R,hv,d,h⟩
abbrev jf (x:A)(S:gr):R A:=match x with
 | .str x=>gd (x.length<=sizeLine) (.ok (.int x.length) S)
 | .tup xs=>.ok (.int xs.length) S
 | .frz xs=>.ok (.int xs.length) S
 | .ref n=>opt (gn S n) λxs=>.ok (.int xs.length) S
 | _=>.no
def j9:g6 X (.builtin "len") (rN X<|f1 jf):=g6.imp Kl λf H Q h0=>by
 kt_k;clear h0
 cases hv with
 | str z=>
  obtain⟨d,h⟩:=gO h;exact⟨_,_,rfl,⟨d,rfl⟩,h _ _ _ .refl R<|.int _⟩
 | @tup p xs us h1 r=>exact⟨_,us.length,rfl,.inr ⟨us,(kN.of h1),rfl⟩,by rw[<- r.length];exact h _ _ _ .refl R<|.int _⟩
 | @frz p xs us h1 r=>exact⟨_,us.length,rfl,.inl ⟨us,h1.KC,rfl⟩,by rw[<- r.length];exact h _ _ _ .refl R<|.int _⟩
 | ref hp=>
  gn_on;obtain⟨us,h1,r⟩:=R.lst hp<|gF hn;exact⟨_,us.length,rfl,.inl ⟨us,jM.of h1,rfl⟩,by rw[<- r.length];exact h _ _ _ .refl R<|.int _⟩
 | _=>exact h.elim
abbrev Pq (x:A)(S:gr):R A:=match x with
 | .int i=>.ok (.int<|if i<0 then -i else i) S
 | _=>.no
def QW:g6 X (.builtin "abs") (rN X<|f1 Pq):=g6.imp F4 λd H Q h0=>by
 kt_k;clear h0
 cases hv<;>first|exact h.elim|exact⟨_,rfl,h _ _ _ .refl R<|.int _⟩
abbrev DR (x y:A)(S:gr):R A:=match x,y with
 | .int i,.int j=>.ok (.int<|if j>i then j else i) S
 | _,_=>.no
def Pg(hc:X.calm=true):g6 X (.builtin "max") (rN X<|f2 DR):=g6.imp (Fp hc) λf H Q h0=>by
 obtain⟨w,g,rfl,ρ,S,x,y,R,hv,d,h⟩:=SH h0;clear h0
 cases hv<;>first|exact h.elim|(cases d<;>first|exact h.elim|exact⟨_,_,rfl,h _ _ _ .refl R<|.int _⟩)
abbrev CP (x y:A)(S:gr):R A:=match x,y with
 | .int i,.int j=>.ok (.int<|if j<i then j else i) S
 | _,_=>.no
def NH(hc:X.calm=true):g6 X (.builtin "min") (rN X<|f2 CP):=g6.imp (Fg hc) λf H Q h0=>by
 obtain⟨w,g,rfl,ρ,S,x,y,R,hv,d,h⟩:=SH h0;clear h0
 cases hv<;>first|exact h.elim|(cases d<;>first|exact h.elim|exact⟨_,_,rfl,h _ _ _ .refl R<|.int _⟩)
abbrev wG (x:A)(S:gr):R A:=match x with
 | .int i=>.ok (.int i) S
 | .bl k=>.ok (.int<|if k then 1 else 0) S
 | .str y=>opt (PySem.intText? y) λn=>gd (y.length<=640) (.ok (.int n) S)
 | _=>.no
def Kg:g6 X (.type "int") (rN X<|f1 wG):=λpins s σ H xs us Q I d h0=>by
 kt_k;clear h0
 cases hv with
 | int i=>exact yo pins s σ H _ us Q I d (.inl ⟨i,rfl,h _ _ _ .refl R<|.int _⟩)
 | bl k=>exact yo pins s σ H _ us Q I d (.inr ⟨k,rfl,h _ _ _ .refl R<|.int _⟩)
 | str y=>
  obtain⟨n,hn,h⟩:=gD h;obtain⟨f,h⟩:=gO h;exact Fd pins s σ H _ us Q I d ⟨y,n,rfl,f,hn,h _ _ _ .refl R<|.int _⟩
 | _=>exact h.elim
abbrev sL (x y:A)(S:gr):R A:=match x,y with
 | .int i,.int j=>.ok (.rng i j) S
 | _,_=>.no
def wL:g6 X (.type "range") (rN X<|f2 sL):=g6.imp zu λg H Q h0=>by
 obtain⟨w,k,rfl,ρ,S,x,y,R,hv,d,h⟩:=SH h0;clear h0
 cases hv with
 | int i=>
  cases d with
  | int j=>
   refine⟨i,j,rfl,λp hp=>?_⟩;obtain⟨ex,f⟩:=R.im (u:=.rng i j) hp;exact h ρ _ _ ex f<|.rng g8
  | _=>exact h.elim
 | _=>exact h.elim
abbrev yr (i j:Int):Prop:=(-(2 ^ 62)<=i/\i<2 ^ 62/\-(2 ^ 62)<=j/\j<2 ^ 62)/\(j-i).toNat<=1000
instance (i j:Int):Decidable (yr i j):=by unfold yr;infer_instance
abbrev pM (x:A)(S:gr):R A:=match x with
 | .rng i j=>gd (yr i j) (.ok (.ref S.length)<|S++[.lst<|(iV i j).map .int])
 | .tup xs=>.ok (.ref S.length) (S++[.lst xs])
 | .frz xs=>.ok (.ref S.length) (S++[.lst xs])
 | .ref n=>opt (gn S n) λxs=>.ok (.ref S.length) (S++[.lst xs])
 | _=>.no
def w9(hc:X.calm=true):g6 X (.type "list") (rN X<|f1 pM):=λpins s σ H d us Q I rx h0=>by
 kt_k;clear h0
 cases hv with
 | @rng p i j hp=>
  obtain⟨f,h⟩:=gO h;exact xr hc pins s σ H _ us Q I rx ⟨p,i,j,rfl,hp,f.1,f.2,jJ R (pL _) .refl h⟩
 | @tup p xs d h1 r=>exact oA pins s σ H _ us Q I rx ⟨p,d,rfl,.inr<|kN.of h1,jJ R r .refl h⟩
 | @frz p xs d h1 r=>exact oA pins s σ H _ us Q I rx ⟨p,d,rfl,.inl h1.KC,jJ R r .refl h⟩
 | @ref p n hp=>
  gn_on;obtain⟨d,h1,r⟩:=R.lst hp<|gF hn;exact oA pins s σ H _ us Q I rx ⟨p,d,rfl,.inl<|jM.of h1,jJ R r .refl h⟩
 | _=>exact h.elim
abbrev mK (x:A)(S:gr):R A:=match x with
 | .rng i j=>gd (yr i j) (.ok (.tup<|(iV i j).map .int) S)
 | .tup xs=>.ok (.tup xs) S
 | .frz xs=>.ok (.tup xs) S
 | .ref n=>opt (gn S n) λxs=>.ok (.tup xs) S
 | _=>.no
def rX(hc:X.calm=true):g6 X (.type "tuple") (rN X<|f1 mK):=λpins s σ H d us Q I rx h0=>by
 kt_k;clear h0
 cases hv with
 | @rng p i j hp=>
  obtain⟨f,h⟩:=gO h;exact wO hc pins s σ H _ us Q I rx ⟨p,i,j,rfl,hp,f.1,f.2,oB R (pL _) .refl h⟩
 | @tup p xs d h1 r=>exact nI pins s σ H _ us Q I rx ⟨p,d,rfl,.inr ⟨(kN.of h1),h _ _ _ .refl R<|.tup h1 r⟩⟩
 | @frz p xs d h1 r=>exact nI pins s σ H _ us Q I rx ⟨p,d,rfl,.inl ⟨h1.KC,oB R r .refl h⟩⟩
 | @ref p n hp=>
  gn_on;obtain⟨d,h1,r⟩:=R.lst hp<|gF hn;exact nI pins s σ H _ us Q I rx ⟨p,d,rfl,.inl ⟨jM.of h1,oB R r .refl h⟩⟩
 | _=>exact h.elim
abbrev A.KG:ae->Option (List Bool)
 | []=>some []
 | .bl b::xs=>(A.KG xs).map (b::·)
 | _=>none
theorem JJ{K:au}{H:Hp}:∀{xs:ae}{vs:List V}{bs:List Bool},AVs K ρ H xs vs->A.KG xs=some bs->vs=bs.map V.bl
 | _,_,_,.nil,e=>by cases e;rfl
 | x::xs,_,bs,.cons h t,e=>by
  cases x with
  | bl b=>
   obtain⟨cs,e1,rfl⟩:=aX.mp (show(A.KG xs).map (b::·)=some bs from e)
   cases h
   rw[JJ t e1];rfl
  | _=>cases e
abbrev uS (x:A)(S:gr):R A:=match x with
 | .ref n=>opt (gn S n) λxs=>opt (A.KG xs) λbs=>.ok (.bl<|bs.all λb=>b) S
 | _=>.no
def zH(hc:X.calm=true):g6 X (.builtin "all") (rN X<|f1 uS):=g6.imp (Fl hc) λf H Q h0=>by
 kt_k;clear h0
 cases hv with
 | @ref p n hp=>
  gn_on;obtain⟨bs,d,h⟩:=gD h;obtain⟨f,h1,r⟩:=R.lst hp<|gF hn;rw[JJ r d]at h1;exact⟨p,bs,rfl,jM.of h1,h _ _ _ .refl R<|.bl _⟩
 | _=>exact h.elim
abbrev insI (x:Int):am->am
 | []=>[x]
 | y::ys=>if x<=y then x::y::ys else y::insI x ys
abbrev sortI:am->am
 | []=>[]
 | x::xs=>insI x<|sortI xs
theorem insI_perm(x:Int):∀ys:am,(insI x ys).Perm (x::ys)
 | []=>dP _
 | y::ys=>by
  unfold insI;by_cases h:x<=y
  ·rw[aR h]
  ·rw[aO h];exact((insI_perm x ys).cons y).trans (List.Perm.swap x y ys)
theorem sortI_perm:∀xs:am,(sortI xs).Perm xs
 | []=>dP _
 | x::xs=>(insI_perm x<|sortI xs).trans<|(sortI_perm xs).cons x
theorem Ew(x:Int):∀ys:am,ys.Pairwise (·<=·)->(insI x ys).Pairwise (·<=·)
 | [],_=>List.pairwise_singleton _ _
 | y::ys,h=>by
  unfold insI;obtain⟨h1,g⟩:=fK.mp h;by_cases f:x<=y
  ·rw[aR f];exact fK.mpr ⟨λz d=>(bJ.mp d).elim (λe=>e ▸ f) λd=>Int.le_trans f<|h1 z d,h⟩
  ·rw[aO f];refine fK.mpr ⟨λz d=>?_,Ew x ys g⟩
   rcases bJ.mp ((insI_perm x ys).mem_iff.mp d)with e|d
   ·subst e;lia
   ·exact h1 z d
theorem wj:∀xs:am,(sortI xs).Pairwise (·<=·)
 | []=>List.Pairwise.nil
 | x::xs=>Ew x _<|wj xs
abbrev Cf (x:A)(S:gr):R A:=opt (x.seq S) λxs=>opt (A.ints xs) λd=>gd (d.length<64)<|.ok (.ref S.length)<|S++[.lst<|(sortI d).map .int]
def LS:g6 X (.builtin "sorted") (rN X<|f1 Cf):=g6.imp zf λm H Q h0=>by
 kt_k;clear h0;gn_on;obtain⟨d,j,h⟩:=gD h;obtain⟨k,h⟩:=gO h;obtain⟨p,us,rfl,hs,r⟩:=FZ R hv hn;rw[LN r j]at hs;refine⟨p,d,rfl,hs,k,λl g f hp hw=>?_⟩;have:g=sortI d:=K4 (hp.trans (sortI_perm d).symm) hw<|wj d;rw[this];exact jJ R (pL _) .refl h l f
abbrev A.kd:A->gr->Option Kd
 | .non,_=>some .non
 | .bl _,_=>some .bl
 | .int _,_=>some .int
 | .str _,_=>some .str
 | .tup _,_=>some .tup
 | .ref n,S=>(gn S n).map λ_=>.lst
 | _,_=>none
def Mr{K:au}(k:Kd):PySem.W.kitOne K k.ty (.type "str")=some (decide<|k=.str):=by cases k<;>rfl
abbrev zP (k:Kd)(c:String):bo:=if c = "int" then some (decide<|k=.int\/k=.bl)else if c = "bool" then some (decide<|k=.bl)else if c = "tuple" then some (decide<|k=.tup)else if c = "list" then some (decide<|k=.lst)else if c = "str" then some (decide<|k=.str)else none
def CS{K:au}{k:Kd}{c:String}{b:Bool}(h:zP k c=some b):PySem.W.kitOne K k.ty (.type c)=some b:=by
 unfold zP at h;split at h
 ·rename_i e;subst e;rw[<- h];exact LL k
 ·split at h
  ·rename_i e;subst e;rw[<- h];exact J5 k
  ·split at h
   ·rename_i e;subst e;rw[<- h];exact kit_tuple k
   ·split at h
    ·rename_i e;subst e;rw[<- h];exact J1 k
    ·split at h
     ·rename_i e;subst e;rw[<- h];exact Mr k
     ·cases h
abbrev Fy (x y:A)(S:gr):R A:=match y with
 | .ty c=>opt (x.kd S) λk=>opt (zP k c) λb=>.ok (.bl b) S
 | _=>.no
def QF{K:au}{H:Hp}{x:A}{v:V}{k:Kd}(R:Rel K ρ H S)(h:AV K ρ H x v)(e:x.kd S=some k):(∃p vs,v=.ref p/\kN K H p vs/\k=.tup)\/OS H v k:=by
 cases h with
 | non=>cases e;exact .inr rfl
 | bl b=>cases e;exact .inr ⟨b,rfl⟩
 | int i=>cases e;exact .inr ⟨i,rfl⟩
 | str i=>cases e;exact .inr ⟨i,rfl⟩
 | tup h r=>cases e;exact .inl ⟨_,_,rfl,(kN.of h),rfl⟩
 | ref h=>
  obtain⟨xs,e1,e2⟩:=aX.mp e;obtain⟨vs,h1,_⟩:=R.lst h (gF e1)
  cases e2
  exact .inr ⟨_,vs,rfl,h1⟩
 | _=>cases e
def C8:g6 X (.builtin "isinstance") (rN X<|f2 Fy):=λpins s σ H j us Q I rx h0=>by
 obtain⟨w,K,rfl,ρ,S,x,y,R,hv,f,h⟩:=SH h0;clear h0
 cases f with
 | ty c=>
  obtain⟨k,B,h⟩:=gD h;obtain⟨b,g,d⟩:=gD h;have d:qV X ρ H Q (.bl b) S:=d;clear h
  rcases QF R hv B with⟨p,j,rfl,F,rfl⟩|hd
  ·obtain⟨J,G,rfl,r1,r2⟩:=vals2 rx;obtain⟨C,q,⟨o,h1,m,_⟩,_⟩:=I.tuple F
   cases(show _=Value.ref p from r1)
   cases(show _=Value.type c from r2)
   exact bW PySem.W.kitx_tuple I.rg ⟨o,h1,m⟩ (CS g) (λz=>nomatch z) λtk=>⟨.bl b,H,I.tok _,rfl,d _ _ _ .refl R<|.bl _⟩
  ·exact Az (c:=c) pins s σ H _ us Q I rx ⟨w,_,b,rfl,hd.Uq,CS g,d _ _ _ .refl R<|.bl _⟩
 | _=>exact h.elim
end
abbrev RG (x:am):List (am)->List (am)
 | []=>[x]
 | y::ys=>if HT.lexLt y x=true then y::RG x ys else x::y::ys
abbrev Jg:List (am)->List (am)
 | []=>[]
 | x::xs=>RG x<|Jg xs
abbrev RS.post (r:RS)(N:ae->gr->Prop)(T:A->gr->Prop)(B C:ae->gr->Prop)(E:Str->gr->Prop):Prop:=match r with
 | .nx τ S=>N τ S
 | .rt a S=>T a S
 | .bk τ S=>B τ S
 | .ct τ S=>C τ S
 | .ex c S=>E c S
 | .no=>False
abbrev RS.of {α:Type}(r:R α)(f:α->gr->RS):RS:=match r with
 | .ok a S=>f a S
 | .ex c S=>.ex c S
 | .no=>.no
def of_post{α:Type}{r:R α}{f:α->gr->RS}{N B C:ae->gr->Prop}{T:A->gr->Prop}{E:Str->gr->Prop}(h:(RS.of r f).post N T B C E):r.post (λa S=>(f a S).post N T B C E) E:=by
 cases r<;>exact h
def RS.mono{r:RS}{N B C N' j J:ae->gr->Prop}{T L:A->gr->Prop}{E U:Str->gr->Prop}(h:r.post N T B C E)(hn:∀τ S,N τ S->N' τ S)(Z:∀a S,T a S->L a S)(hb:∀τ S,B τ S->j τ S)(hc:∀τ S,C τ S->J τ S)(he:∀c S,E c S->U c S):r.post N' L j J U:=by
 cases r with
 | nx τ S=>exact hn _ _ h
 | rt a S=>exact Z _ _ h
 | bk τ S=>exact hb _ _ h
 | ct τ S=>exact hc _ _ h
 | ex c S=>exact he _ _ h
 | no=>exact h.elim
abbrev Ke (X:Cx)(ρ:be)(H:Hp)(N:L2.St->Hp->Prop):ae->gr->Prop:=λf g=>∀ρ' H' d,Ext ρ ρ' H H'->Rel X.K ρ' H' g->SR X.K ρ' H' f d->N d H'
def Ke.ext{H H':Hp}{N:L2.St->Hp->Prop}(h:Ke X ρ H N τ S)(e:Ext ρ ρ' H H'):Ke X ρ' H' N τ S:=λd H2 σ2 e2=>h d H2 σ2<|e.trans e2
abbrev kW (X:Cx)(ρ:be)(H:Hp)(D:Ends)(r:RS):Prop:=r.post (Ke X ρ H D.nx) (qV X ρ H D.rt) (Ke X ρ H D.bk) (Ke X ρ H D.ct)<|XE X ρ H
def kW.ext{H H':Hp}{r:RS}(h:kW X ρ H D r)(e:Ext ρ ρ' H H'):kW X ρ' H' D r:=RS.mono h (λ_ _ z=>z.ext e) (λ_ _ z=>z.ext e) (λ_ _ z=>z.ext e) (λ_ _ z=>z.ext e) λ_ _ z=>z.ext e
abbrev tS (X:Cx)(c:Sm):TS:=λD σ H=>∃ρ S τ,Rel X.K ρ H S/\SR X.K ρ H τ σ/\kW X ρ H D (c τ S)
abbrev AS (X:Cx)(st:aF)(c:Sm):Prop:=PS X st<|tS X c
abbrev FO (X:Cx)(j:List aF)(c:Sm):Prop:=xR X j<|tS X c
abbrev tG (X:Cx)(g:Tg):TG:=λv σ H Q=>∃ρ S τ a,Rel X.K ρ H S/\SR X.K ρ H τ σ/\AV X.K ρ H a v/\(g a τ S).post (Ke X ρ H Q) (XE X ρ H)
abbrev AG (X:Cx)(e:aE)(g:Tg):Prop:=PG X e<|tG X g
meta abbrev KA:=ae->ae->gr->R (ae)
abbrev Vr (X:Cx)(g:KA):Nv:=λd σ H Q=>∃ρ S τ as,Rel X.K ρ H S/\SR X.K ρ H τ σ/\AVs X.K ρ H as d/\(g as τ S).post (Ke X ρ H Q) (XE X ρ H)
abbrev Sn (X:Cx)(es:List aE)(g:KA):Prop:=Rw X es<|Vr X g
section
variable {X:Cx}{pos:Pos}{a b e:aE}{st:aF}{rest:List aF}{c d:Sm}
def PS.imp{t t':TS}(h:PS X st t)(i:∀D σ H,t' D σ H->t D σ H):PS X st t':=λpins s σ H D I q=>h pins s σ H D I<|i D σ H q
def xR.imp{t t':TS}(h:xR X rest t)(i:∀D σ H,t' D σ H->t D σ H):xR X rest t':=λpins s σ H D I q=>h pins s σ H D I<|i D σ H q
def PG.imp{t t':TG}(h:PG X e t)(i:∀v σ H Q,t' v σ H Q->t v σ H Q):PG X e t':=λpins s σ H v u Q I r q=>h pins s σ H v u Q I r<|i _ _ _ _ q
abbrev iC (i:Nat):Tg:=λa τ S=>.ok (τ.set i a) S
def iE{i:Nat}{x:Str}(j:X.N.Nodup)(hi:X.N[i]?=some x<|>ε)(J:Loc X.env.scope x:=by first|exact Or.inl rfl|exact Or.inr rfl)(hf:X.fn x=true\/X.env.scope.names.lookup x=some .local<|>γ):AG X (.Name x pos) (iC i):=
 PG.imp (Ef j hi J hf) λv σ H Q ⟨ρ,S,τ,a,R,r,va,h⟩=>h ρ H _ .refl R<|r.set va
abbrev HC:KA:=λas τ S=>match as with
 | []=>.ok τ S
 | _=>.no
abbrev yp (g:Tg)(gs:KA):KA:=λas τ S=>match as with
 | a::as=>(g a τ S).bind λd S1=>gs as d S1
 | []=>.no
def qk:Sn X [] HC:=λpins s σ H f us Q I r ⟨ρ,S,τ,as,R,d,va,h⟩=>LY pins s σ H f us Q I r (by
 cases va with
 | nil=>exact⟨rfl,h ρ H σ .refl R d⟩
 | cons _ _=>exact h.elim)
def jl{g:Tg}{gs:KA}(h1:AG X e g)(J:Sn X es gs)(hs:(assignEach (e::es) X.env).map (·.2)=assign e X.env::(assignEach es X.env).map (·.2)<|>ε):Sn X (e::es) (yp g gs):=
 λpins s σ H k us Q I r ⟨ρ,S,τ,as,R,j,va,h⟩=>HF h1 J hs pins s σ H k us Q I r (by
  cases va with
  | nil=>exact h.elim
  | cons B p=>exact⟨_,_,rfl,ρ,S,τ,_,R,j,B,gq (gu h) .refl λd S1 h1 ρ1 H1 m e1 R1 f=>⟨ρ1,S1,d,_,R1,f,p.ext e1,gq h1 e1 λ_ _ z=>z.ext e1⟩⟩)
abbrev HV (n:Nat)(gs:KA):Tg:=λa τ S=>match a with
 | .tup xs | .ktu xs=>gd (xs.length=n) (gs xs τ S)
 | _=>.no
def sX{k n:Nat}{gs:KA}(hc:X.calm=true)(h:Sn X es gs)(hn:(assignEach es X.env).length=n<|>ε)(j:(assignEach es X.env).findIdx? (·.1)=none<|>ε):AG X (.Tuple es k pos) (HV n gs):=
 PG.imp (Pe hc h hn j) λv σ H Q h9=>by
  obtain⟨ρ,S,τ,a,R,r,va,h⟩:=h9
  cases va with
  | tup h1 r1=>
   obtain⟨d,h⟩:=gO h;exact⟨_,_,rfl,kN.of h1,by rw[<- r1.length];exact d,ρ,S,τ,_,R,r,r1,h⟩
  | ktu h1 r1=>
   obtain⟨d,h⟩:=gO h;exact⟨_,_,rfl,.inr h1,by rw[<- r1.length];exact d,ρ,S,τ,_,R,r,r1,h⟩
  | _=>exact h.elim
abbrev yM (o i v:A)(S:gr):R Unit:=match o,i with
 | .ref n,.int k=>opt (gn S n) λxs=>opt (ve xs.length k) λj=>.ok Unit.unit (S.set n<|.lst<|xs.set j v)
 | _,_=>.no
abbrev Vp (X:Cx):Ka:=λo i v H Q=>∃ρ S g d f,Rel X.K ρ H S/\AV X.K ρ H g o/\AV X.K ρ H d i/\AV X.K ρ H f v/\(yM g d f S).post (λ_ j=>∀ρ' H',Ext ρ ρ' H H'->Rel X.K ρ' H' j->Q H') (XE X ρ H)
def L8:Iz X (Vp X):=λpins s σ H o i v J iv u Q I F C B h9=>by
 obtain⟨ρ,S,L,N,K,R,h1,G,g,h⟩:=h9
 cases h1 with
 | @ref p n hp=>
  cases G with
  | int k=>
   gn_on;obtain⟨j,d,h⟩:=gD h;obtain⟨f,e,r⟩:=R.lst hp<|gF hn;obtain⟨ex,m⟩:=R.put hp (gF hn)<|r.set g j;exact set_list pins s σ H _ _ v J iv u Q I F C B ⟨p,f,k,j,rfl,rfl,e,by rw[<- r.length];exact d,h _ _ ex m⟩
  | _=>exact h.elim
 | _=>exact h.elim
abbrev JO (co j:Ex):Tg:=λa τ S=>(co τ S).bind λo S1=>(j τ S1).bind λi f=>(yM o i a f).bind λ_ d=>.ok τ d
def oO{o:aE}{co J:Ex}(L:AE X o co)(hi:AE X i J)
  (U:(∀v,assign (.Subscript o i pos) X.env v=(do
   let ov <- holding [v] (eval o X.env)
   let iv <- holding [v,ov] (eval i X.env)
   standAt pos
   holding [v,ov,iv] (setItem ov iv v)
   release [v,ov,iv] []))<|>ζ):AG X (.Subscript o i pos) (JO co J):=PG.imp (Gk L hi L8 U) λv σ H Q h9=>by
 obtain⟨ρ,S,τ,a,R,r,va,h⟩:=h9;refine⟨ρ,S,τ,R,r,gq (gu h) .refl λo S1 h1 ρ1 H1 x e1 R1 v1=>⟨ρ1,S1,τ,R1,r.ext e1,gq (gu h1) e1 λi k j f H2 y e2 R2 m=>?_⟩⟩;refine⟨f,k,o,i,a,R2,v1.ext e2,m,va.ext<|e1.trans e2,gq (gu j) (e1.trans e2) λ_ B g d H3 e3 p=>?_⟩;exact g d H3 σ ((e1.trans e2).trans e3) p<|r.ext<|(e1.trans e2).trans e3
abbrev i8:Sm:=λτ S=>.nx τ S
abbrev gM (c d:Sm):Sm:=λτ S=>match c τ S with
 | .nx f g=>d f g
 | r=>r
def gX:FO X [] i8:=xR.imp K_ λD σ H ⟨ρ,S,τ,R,r,h⟩=>h ρ H σ .refl R r
def Lg{H:Hp}(h:tS X (gM c d) D σ H):QJ (tS X c) (tS X d) D σ H:=by
 gp_on;refine⟨ρ,S,τ,R,r,?_⟩;unfold gM at h
 cases hc:c τ S with
 | nx f S1=>
  rw[hc]at h;exact λρ1 H1 g e1 R1 r1=>⟨ρ1,S1,f,R1,r1,kW.ext h e1⟩
 | rt a S1=>rw[hc]at h;exact h
 | bk f S1=>rw[hc]at h;exact h
 | ct f S1=>rw[hc]at h;exact h
 | ex x S1=>rw[hc]at h;exact h
 | no=>rw[hc]at h;exact h
def gp(h1:AS X st c)(j:FO X rest d):FO X (st::rest) (gM c d):=xR.imp (GY h1 j) λD σ H h=>Lg h
def gA(h1:AS X st c):FO X [st] c:=Lx h1
abbrev PZ:Sm:=λτ S=>.bk τ S
abbrev QN:Sm:=λτ S=>.ct τ S
abbrev qF (e:Ex):Sm:=λτ S=>.of (e τ S) λ_ S1=>.nx τ S1
def oF{f:Ex}(j:AE X e f)(hs:swapsWith e none pos.line X.env=pure false<|>ε):AS X (.Expr e pos) (qF f):=PS.imp (Me j hs) λD σ H ⟨ρ,S,τ,R,r,h⟩=>
 ⟨ρ,S,τ,R,r,gq (of_post h) .refl λa S1 h1 ρ1 H1 x e1 R1 v1=>h1 ρ1 H1 σ e1 R1<|r.ext e1⟩
abbrev ie (e:Ex):Sm:=λτ S=>.of (e τ S) λa S1=>.rt a S1
def gR{f:Ex}(j:AE X e f):AS X (.Return (some e) pos) (ie f):=PS.imp (O6 j) λD σ H ⟨ρ,S,τ,R,r,h⟩=>⟨ρ,S,τ,R,r,gq (of_post h) .refl λa S1 h1=>h1⟩
abbrev Q7:Sm:=λτ S=>.rt .non S
abbrev nM (t:Te)(c d:Sm):Sm:=λτ S=>.of (t τ S) λb S1=>match b with|true=>c τ S1|false=>d τ S1
def iK{t:Te}(j:AT X e t)(J:FO X ca c)(hb:FO X cb d):AS X (.If e ca cb pos) (nM t c d):=PS.imp (RZ j J hb) λD σ H h9=>by
 room;refine⟨ρ,S,τ,R,r,gq (of_post h) .refl λb S1 h1 ρ1 H1 e1 R1=>?_⟩
 cases b with
 | true=>rw[aR rfl];exact⟨ρ1,S1,τ,R1,r.ext e1,kW.ext h1 e1⟩
 | false=>rw[aO bC];exact⟨ρ1,S1,τ,R1,r.ext e1,kW.ext h1 e1⟩
abbrev ir (e:Ex)(g:Tg):Sm:=λτ S=>.of (e τ S) λa S1=>.of (g a τ S1) λd f=>.nx d f
def K9{f:Ex}{g:Tg}{H:Hp}(h:tS X (ir f g) D σ H):Lb (tE X f) (tG X g) D σ H:=by
 gp_on;exact⟨ρ,S,τ,R,r,gq (of_post h) .refl λa S1 h1 ρ1 H1 x e1 R1 v1=>⟨ρ1,S1,τ,a,R1,r.ext e1,v1,gq (of_post h1) e1 λj k d=>Ke.ext d e1⟩⟩
def mE{tg:aE}{f:Ex}{g:Tg}(j:AE X e f)(hg:AG X tg g)(hs:swapsWithSole [tg] e pos.line X.env=pure false<|>ε)(hw:swappedStores [tg] e X.env=pure none<|>ε)
  (h1:(assignEach [tg] X.env).map (·.2)=[assign tg X.env]<|>ε):AS X (.Assign [tg] e pos) (ir f g):=PS.imp (Oe j hg hs hw h1) λD σ H h=>K9 h
def gW{i:Nat}{x:Str}{f:Ex}(j:X.N.Nodup)(J:AE X e f)(hi:X.N[i]?=some x<|>ε)(L:Loc X.env.scope x:=by first|exact Or.inl rfl|exact Or.inr rfl)(hs:(swapsWith e (some<|.Name x pos') pos.line X.env=pure false)<|>ε)(hf:X.fn x=true\/X.env.scope.names.lookup x=some .local<|>γ) :
  AS X (.Assign [.Name x pos'] e pos) (ir f<|iC i):=PS.imp (Ny j hi L J hs hf) λD σ H ⟨ρ,S,τ,R,r,h⟩=>
 ⟨ρ,S,τ,R,r,gq (of_post h) .refl λa S1 h1 ρ1 H1 x e1 R1 v1=>h1 ρ1 H1 _ e1 R1<|(r.ext e1).set v1⟩
abbrev Ub (i j:Nat)(c:lq):Sm:=λτ S=>.of (c τ S) λas S1=>match as with
 | [a,b]=>.nx ((τ.set i a).set j b) S1
 | _=>.no
abbrev ip (X:Cx)(f:A->A->gr->R A):Vh:=λx y H Q=>∃ρ S a b,Rel X.K ρ H S/\AV X.K ρ H a x/\AV X.K ρ H b y/\(f a b S).post (qV X ρ H Q) (XE X ρ H)
abbrev TX (a b:A)(S:gr):R A:=match a,b with
 | .int i,.int j=>.ok (.int<|i+j) S
 | _,_=>.no
abbrev Qt (i:Nat)(f:A->A->gr->R A)(e:Ex):Sm:=λτ S=>if (τ.getD i .unb).i9 then .no else .of (e τ S) λb S1=>.of (f (τ.getD i .unb) b S1) λc d=>.nx (τ.set i c) d
abbrev KW (a b:A)(S:gr):R A:=match a,b with
 | .ref n,.int i=>opt (gn S n) λxs=>gd (0<=i) (opt (xs[i.toNat]?) λx=>.ok x S)
 | _,_=>.no
abbrev Q5 (co J L:Ex)(f:A->A->gr->R A):Sm:=λτ S=>.of (co τ S) λo S1=>.of (J τ S1) λi j=>.of (KW o i j) λx d=>.of (L τ d) λy g=>.of (f x y g) λz k=>.of (yM o i z k) λ_ m=>.nx τ m
abbrev j4 (t:Te)(c:Sm):Nat->Sm
 | 0=>λ_ _=>.no
 | n+1=>λτ S=>.of (t τ S) λb S1=>match b with
  | false=>.nx τ S1
  | true=>match c τ S1 with
   | .nx d f=>j4 t c n d f
   | .ct d f=>j4 t c n d f
   | .bk d f=>.nx d f
   | r=>r
def HK(n:Nat){t:Te}(hp:PassesOwn (model X.prog X.w) X.A X.env X.xe)(U:AT X e t)(hb:FO X body c):AS X (.While e body [] pos) (j4 t c n):=PS.imp (HN hp U hb) λD σ H h9=>by
 room;refine⟨λm k H'=>∃ρ' g d,Ext ρ ρ' H H'/\Rel X.K ρ' H' g/\SR X.K ρ' H' d k/\kW X ρ' H' D (j4 t c m d g),⟨n,ρ,S,τ,.refl,R,r,h⟩,?_⟩;rintro m N H1 ⟨ρ1,S1,j,e1,R1,r1,h1⟩
 cases m with
 | zero=>exact h1.elim
 | succ m=>
  refine⟨ρ1,S1,j,R1,r1,gq (of_post h1) .refl λb L f F H2 e2 R2=>?_⟩
  cases b with
  | false=>rw[aO bC];exact f F H2 N e2 R2 (r1.ext e2)
  | true=>
   rw[aR rfl];refine⟨λk H'=>∃ρ' g d,Ext ρ ρ' H H'/\Rel X.K ρ' H' g/\SR X.K ρ' H' d k/\kW X ρ' H' D (j4 t c m d g),λk H' z=>⟨m,cD _,z⟩,F,L,j,R2,r1.ext e2,?_⟩;have f:kW X ρ1 H1 D (match c j L with
    | .nx d g=>j4 t c m d g
    | .ct d g=>j4 t c m d g
    | .bk d g=>.nx d g
    | r=>r):=f
   cases hc:c j L with
   | nx p C=>rw[hc]at f;exact λB H3 J e3 O G=>⟨B,C,p,(e1.trans e2).trans e3,O,G,kW.ext f<|e2.trans e3⟩
   | ct p C=>rw[hc]at f;exact λB H3 J e3 O G=>⟨B,C,p,(e1.trans e2).trans e3,O,G,kW.ext f<|e2.trans e3⟩
   | bk p C=>rw[hc]at f;exact Ke.ext f e2
   | rt a C=>rw[hc]at f;exact qV.ext f e2
   | ex x C=>rw[hc]at f;exact XE.ext f e2
   | no=>rw[hc]at f;exact f
end
structure Src where
 k:Nat
 get:Nat->gr->Option A
 fin:gr->Bool
structure JR (K:au)(s:Src)(J:It)(ρ0:be)(H0:Hp):Prop where
 go:∀(i:Nat) (S:gr) (H:Hp) (ρ:be) (x:A),Ext0 ρ0 ρ H0 H->Rel K ρ H S->s.get i S=some x->J.go i H/\∀v H',J.yld i H v H'->Ext ρ ρ H H'/\Rel K ρ H' S/\AV K ρ H' x v
 stop:∀(S:gr) (H:Hp) (ρ:be),Ext0 ρ0 ρ H0 H->Rel K ρ H S->s.fin S=true->J.stop s.k H
meta abbrev Ic:=ae->gr->R Src
abbrev tI (X:Cx)(c:Ic):TI:=λσ H Q=>∃ρ S τ,Rel X.K ρ H S/\SR X.K ρ H τ σ/\(c τ S).post (λs d=>∀ρ' H' J,Ext ρ ρ' H H'->Rel X.K ρ' H' d->JR X.K s J ρ' H'->Q J H') (XE X ρ H)
abbrev AI (X:Cx)(tg iter:aE)(c:Ic):Prop:=PI X tg iter<|tI X c
abbrev mh (xs:ae):Src:=⟨xs.length,λi _=>xs[i]?,λ_=>true⟩
abbrev kB (n k:Nat):Src:=⟨k,λi S=>(gn S n).bind (·[i]?),λS=>match gn S n with
 | some ys=>decide (ys.length<=k)
 | none=>false⟩
abbrev rq (lo hi:Int):Src:=⟨(hi-lo).toNat,λi _=>if i<(hi-lo).toNat then some (.int<|lo+i)else none,λ_=>true⟩
abbrev j5 (c:Ex):Ic:=λτ S=>(c τ S).bind λa S1=>match a with
 | .tup xs=>.ok (mh xs) S1
 | .frz xs=>.ok (mh xs) S1
 | .ref n=>opt (gn S1 n) λxs=>.ok (kB n xs.length) S1
 | .str x=>gd (x.cps.all (· < 128)=true) (.ok (mh<|x.cps.toList.map λc=>.str ⟨#[c]⟩) S1)
 | _=>.no
section
variable {X:Cx}{pos:Pos}{tg e a b:aE}
def NY{K:au}{H0:Hp}{p:aj}(h:kN K H0 p vs)(r:AVs K ρ0 H0 xs vs):JR K (mh xs) (SM K p) ρ0 H0 where
 go:=λi S H ρ x e R g=>by
  obtain⟨v,d,f⟩:=(AVs.iB e r).get g;have hs:=e.UG h;refine⟨⟨vs,v,hs,d⟩,λw H' ⟨e1,y⟩=>?_⟩;subst e1;have:=y vs hs;rw[d]at this
  cases this
  exact⟨.refl,R,f⟩
 stop:=λS H ρ e R _=>⟨vs,e.UG h,by rw[<- r.length];exact aJ _⟩
def P9{K:au}{H0:Hp}{p:aj}(h:Fz K H0 p vs)(r:AVs K ρ0 H0 xs vs):JR K (mh xs) (Su K p) ρ0 H0 where
 go:=λi S H ρ x e R g=>by
  obtain⟨v,d,f⟩:=(AVs.iB e r).get g;have hs:=(e.fz h).KC;refine⟨⟨vs,v,hs,d⟩,λw H' ⟨e1,y⟩=>?_⟩;subst e1;have:=y vs hs;rw[d]at this
  cases this
  exact⟨.refl,R,f⟩
 stop:=λS H ρ e R _=>⟨vs,(e.fz h).KC,by rw[<- r.length];exact aJ _⟩
def Pb{K:au}{ρ0:be}{H0:Hp}{p:aj}{n k:Nat}(h:ρ0[n]?=some p):JR K (kB n k) (Su K p) ρ0 H0 where
 go:=λi S H ρ x e R g=>by
  obtain⟨ys,hn,j⟩:=bD.mp<|show(gn S n).bind (·[i]?)=some x from g;obtain⟨d,h1,r⟩:=R.lst (e.get h)<|gF hn;obtain⟨v,f,m⟩:=r.get j;refine⟨⟨d,v,jM.of h1,f⟩,λw H' ⟨e1,y⟩=>?_⟩;subst e1;have:=y d<|jM.of h1;rw[f]at this
  cases this
  exact⟨.refl,R,m⟩
 stop:=λS H ρ e R g=>by
  have g:(match gn S n with
   | some ys=>decide (ys.length<=k)
   | none=>false)=true:=g
  cases hn:gn S n with
  | none=>rw[hn]at g;cases g
  | some ys=>
   rw[hn]at g;obtain⟨d,h1,r⟩:=R.lst (e.get h)<|gF hn;exact⟨d,jM.of h1,by rw[<- r.length];exact dM g⟩
def Hy{K:au}{H0:Hp}{lo hi:Int}:JR K (rq lo hi) (QS lo (hi-lo).toNat) ρ0 H0 where
 go:=λi S H ρ x e R g=>by
  have g:(if i<(hi-lo).toNat then some (A.int<|lo+i)else none)=some x:=g;by_cases d:i<(hi-lo).toNat
  ·rw[aR d]at g
   cases g
   refine⟨d,λw H' ⟨e1,y⟩=>?_⟩;subst e1 y;exact⟨.refl,R,.int _⟩
  ·rw[aO d]at g;cases g
 stop:=λS H ρ e R _=>aJ _
def Pn{K:au}{H0:Hp}{x:Str}:JR K (mh<|x.cps.toList.map λc=>A.str ⟨#[c]⟩) (TY x) ρ0 H0 where
 go:=λi S H ρ y e R g=>by
  have g:(x.cps.toList.map λc=>A.str ⟨#[c]⟩)[i]?=some y:=g;rw[cB]at g;obtain⟨c,hc,rfl⟩:=aX.mp g;rw[Array.getElem?_toList]at hc;refine⟨(fL.mp hc).1,λw H' ⟨e1,j,d,f⟩=>?_⟩;rw[hc]at d
  cases d
  subst e1 f;exact⟨.refl,R,.str _⟩
 stop:=λS H ρ e R _=>by
  show(x.cps.toList.map λc=>A.str ⟨#[c]⟩).length=x.cps.size;rw[aH,cA]
def mz{c:Ex}(j:AE X e c):AI X tg e (j5 c):=λpins s σ H Q I h9=>by
 room;have d:=gu h
 cases hc:c τ S with
 | no=>rw[hc]at d;exact d.elim
 | ex x S1=>
  rw[hc]at d;exact F8 j pins s σ H Q I ⟨ρ,S,τ,R,r,by rw[hc];exact d⟩
 | ok a S1=>
  rw[hc]at d
  cases a with
  | tup xs=>
   refine F8 j pins s σ H Q I ⟨ρ,S,τ,R,r,?_⟩;rw[hc];intro ρ1 H1 x e1 R1 v1
   cases v1 with
   | tup h1 r1=>exact⟨_,rfl,⟨_,(kN.of h1)⟩,d ρ1 H1 _ e1 R1<|NY (kN.of h1) r1⟩
  | frz xs=>
   refine CM j pins s σ H Q I ⟨ρ,S,τ,R,r,?_⟩;rw[hc];intro ρ1 H1 x e1 R1 v1
   cases v1 with
   | frz h1 r1=>exact⟨_,rfl,⟨_,h1.KC⟩,d ρ1 H1 _ e1 R1<|P9 h1 r1⟩
  | ref n=>
   obtain⟨xs,hn,d⟩:=gD d;refine CM j pins s σ H Q I ⟨ρ,S,τ,R,r,?_⟩;rw[hc];intro ρ1 H1 x e1 R1 v1
   cases v1 with
   | ref hp=>
    obtain⟨g,h1,r1⟩:=R1.lst hp<|gF hn;exact⟨_,rfl,⟨_,jM.of h1⟩,d ρ1 H1 _ e1 R1<|Pb hp⟩
  | str x=>
   obtain⟨f,d⟩:=gO d;refine Qc j pins s σ H Q I ⟨ρ,S,τ,R,r,?_⟩;rw[hc];intro ρ1 H1 v e1 R1 v1
   cases v1 with
   | str=>exact⟨x,rfl,f,d ρ1 H1 _ e1 R1 Pn⟩
  | _=>exact d.elim
abbrev bnd (i:Int):Prop:=-(2 ^ 62)<=i/\i<2 ^ 62
instance (i:Int):Decidable (bnd i):=by unfold bnd;infer_instance
abbrev uL (c:Ex):Ic:=λτ S=>(c τ S).bind λa S1=>match a with
 | .int j=>gd (bnd j) (.ok (rq 0 j) S1)
 | _=>.no
abbrev xO (c d:Ex):Ic:=λτ S=>(c τ S).bind λa S1=>(d τ S1).bind λb f=>match a,b with
 | .int i,.int j=>gd (bnd i/\bnd j) (.ok (rq i j) f)
 | _,_=>.no
def tW{p:Pos}{c:Ex}(J:X.mg "range" = none)(L:AE X a c)(hg:Gl X "range"<|>ε)(hs:starEach [a] X.env=[(false,eval a X.env)]<|>ε):AI X tg (.Call (.Name "range" p) [a] [] pos) (uL c):=λpins s σ H Q I h9=>by
 room;refine EL hg J (j3 L pG hs) hs pins s σ H Q I ⟨ρ,S,τ,R,r,gq (gu h) .refl λx S1 h1 ρ1 H1 v e1 R1 v1=>?_⟩
 cases v1 with
 | int j=>
  obtain⟨d,h1⟩:=gO h1;exact⟨_,rfl,d.1,d.2,by have:=h1 ρ1 H1 _ e1 R1 Hy;rwa [Int.sub_zero]at this⟩
 | _=>exact h1.elim
def FA{p:Pos}{c d:Ex}(L:X.mg "range" = none)(U:AE X a c)(hb:AE X b d)(hg:Gl X "range"<|>ε)(hs:starEach [a,b] X.env=[(false,eval a X.env),(false,eval b X.env)]<|>ε)(J:starEach [b] X.env=[(false,eval b X.env)]<|>ε):AI X tg (.Call (.Name "range" p) [a,b] [] pos) (xO c d):=λpins s σ H Q I h9=>by
 room;refine E6 hg L (j3 U (j3 hb pG J)<|by rw[hs,J]) hs J pins s σ H Q I ⟨ρ,S,τ,R,r,gq (gu h) .refl λx S1 h1 ρ1 H1 v e1 R1 v1=>⟨ρ1,S1,τ,R1,r.ext e1,gq (gu h1) e1 λy m f g H2 w e2 R2 k=>?_⟩⟩
 cases v1 with
 | int i=>
  cases k with
  | int j=>
   obtain⟨hb,f⟩:=gO f;exact⟨_,_,rfl,⟨hb.1.1,hb.1.2,hb.2.1,hb.2.2⟩,f g H2 _ (e1.trans e2) R2 Hy⟩
  | _=>exact f.elim
 | _=>exact f.elim
abbrev mW (s:Src)(g:Tg)(c:Sm):Nat->Nat->Sm
 | 0,_=>λτ S=>if s.fin S then .nx τ S else .no
 | k+1,i=>λτ S=>match s.get i S with
  | none=>.no
  | some x=>.of (g x τ S) λj S1=>match c j S1 with
   | .nx d f=>mW s g c k (i+1) d f
   | .ct d f=>mW s g c k (i+1) d f
   | .bk d f=>.nx d f
   | r=>r
abbrev qu (src:Ic)(g:Tg)(c:Sm):Sm:=λτ S=>.of (src τ S) λs S1=>mW s g c s.k 0 τ S1
def rE{iter:aE}{src:Ic}{g:Tg}{c:Sm}(hp:PassesOwn (model X.prog X.w) X.A X.env X.xe)(hc:X.calm=true)(hi:AI X tg iter src)(hg:AG X tg g)(hb:FO X body c)
  (hs:(∀x,foldedSetIterable iter X.env x=pure x)<|>ζ):AS X (.For tg iter body [] pos) (qu src g c):=PS.imp (N6 hp hc hi hg hb hs) λD σ H h9=>by
 room;refine⟨ρ,S,τ,R,r,gq (of_post h) .refl λs S1 h1 ρ1 H1 J e1 R1 jr=>?_⟩;refine⟨λi m N H'=>m+i=s.k/\∃ρ' F d,Ext ρ1 ρ' H1 H'/\Rel X.K ρ' H' F/\SR X.K ρ' H' d N/\kW X ρ' H' D (mW s g c m i d F),⟨s.k,rfl,ρ1,S1,τ,.refl,R1,r.ext e1,kW.ext h1 e1⟩,?_⟩;rintro i m σ2 H2 ⟨hm,p,L,P,e2,R2,r2,C⟩
 cases m with
 | zero=>
  left;have C:kW X p H2 D (if s.fin L then .nx P L else .no):=C
  cases hf:s.fin L with
  | false=>rw[hf]at C;exact C.elim
  | true=>
   rw[hf]at C;refine⟨by rw[show i=s.k by lia];exact jr.stop L H2 p e2.toExt0 R2 hf,C p H2 σ2 .refl R2 r2⟩
 | succ m=>
  right;have C:kW X p H2 D (match s.get i L with
   | none=>.no
   | some x=>.of (g x P L) λY S1=>match c Y S1 with
    | .nx d F=>mW s g c m (i+1) d F
    | .ct d F=>mW s g c m (i+1) d F
    | .bk d F=>.nx d F
    | r=>r):=C
  cases hx:s.get i L with
  | none=>rw[hx]at C;exact C.elim
  | some x=>
   rw[hx]at C;obtain⟨hgo,hy⟩:=jr.go i L H2 p x e2.toExt0 R2 hx;refine⟨hgo,λN H'=>m+(i+1)=s.k/\∃ρ' F d,Ext ρ1 ρ' H1 H'/\Rel X.K ρ' H' F/\SR X.K ρ' H' d N/\kW X ρ' H' D (mW s g c m (i+1) d F),λN H' z=>⟨m,cD _,z⟩,λv H3 y=>?_⟩;obtain⟨e3,R3,v3⟩:=hy v H3 y;refine⟨p,L,P,x,R3,r2.ext e3,v3,gq (of_post C) e3 λV S4 B ρ4 H4 σ4 e4 R4 r4=>⟨ρ4,S4,V,R4,r4,?_⟩⟩;have f:=e3.trans e4
   cases j:c V S4 with
   | nx G T=>rw[j]at B;exact λO H5 σ5 U R5 Z=>⟨(),O,T,G,(e2.trans f).trans U,R5,Z,kW.ext B<|f.trans U⟩
   | ct G T=>rw[j]at B;exact λO H5 σ5 U R5 Z=>⟨(),O,T,G,(e2.trans f).trans U,R5,Z,kW.ext B<|f.trans U⟩
   | bk G T=>rw[j]at B;exact Ke.ext B f
   | rt x5 T=>rw[j]at B;exact qV.ext B f
   | ex x5 T=>rw[j]at B;exact XE.ext B f
   | no=>rw[j]at B;exact B
end
abbrev R.qG {α β:Type}(r:R α)(f:α->gr->R β):R β:=match r with
 | .ok a S=>f a S
 | _=>.no
def rQ{α β:Type}{r:R α}{f:α->gr->R β}{b:β}(h:r.qG f=.ok b S2):∃a S,r=.ok a S/\f a S=.ok b S2:=by
 cases r with
 | ok a S=>exact⟨a,S,rfl,h⟩
 | ex _ _=>cases h
 | no=>cases h
def rJ{α β:Type}{r:R α}{f:α->gr->R β}{P:β->gr->Prop}{E:Str->gr->Prop}(h:(r.qG f).post P E):∃a S,r=.ok a S/\(f a S).post P E:=by
 cases r with
 | ok a S=>exact⟨a,S,rfl,h⟩
 | ex _ _=>exact h.elim
 | no=>exact h.elim
def Ou{α β:Type}{o:Option β}{f:β->R α}{a:α}(h:opt o f=.ok a S):∃b,o=some b/\f b=.ok a S:=by
 cases o with
 | none=>cases h
 | some b=>exact⟨b,rfl,h⟩
abbrev ng (s:Src)(g:Tg)(t:Te)(e:Ex):Nat->Nat->ae->gr->R (ae)
 | 0,_=>λ_ S=>if s.fin S then .ok [] S else .no
 | k+1,i=>λτ S=>opt (s.get i S) λx=>(g x τ S).qG λd S1=>(t d S1).qG λb f=>match b with
  | true=>(e d f).qG λy j=>(ng s g t e k (i+1) d j).qG λys m=>.ok (y::ys) m
  | false=>ng s g t e k (i+1) d f
abbrev jv (cap:List<|bp)(τ:ae):ae:=cap.map λo=>match o with
 | some j=>τ.getD j .unb
 | none=>.unb
abbrev jX (cap:List<|bp)(src:Ic)(g:Tg)(t:Te)(e:Ex):Ex:=λτ S=>(src τ S).bind λs S1=>(ng s g t e s.k 0 (jv cap τ) S1).qG λys d=>newL ys d
abbrev kG:Te:=λ_ S=>.ok true S
def zY{s:Src}{g:Tg}{t:Te}{e:Ex}{k:Nat}{T:Prop}(h:ng s g t e (k+1) i τ S=.ok zs S')
  (q:∀x τ1 S1 b S2,s.get i S=some x->g x τ S=.ok τ1 S1->t τ1 S1=.ok b S2->(b=true->∃y S3 ws,e τ1 S2=.ok y S3/\ng s g t e k (i+1) τ1 S3=.ok ws S'/\zs=y::ws)->(b=false->ng s g t e k (i+1) τ1 S2=.ok zs S')->T):T:=by
 obtain⟨x,f,h⟩:=Ou h;obtain⟨τ1,S1,h1,h⟩:=rQ h;obtain⟨b,S2,j,h⟩:=rQ h;refine q x τ1 S1 b S2 f h1 j (λd=>?_) λd=>?_
 ·subst d;obtain⟨y,S3,p,h⟩:=rQ h;obtain⟨ws,B,m,h⟩:=rQ h
  cases h
  exact⟨y,S3,ws,p,m,rfl⟩
 ·subst d;exact h
structure Out (ρ1:be)(H1:Hp)(D:aj)(accV:List V)(ρ:be)(H:Hp):Prop where
 e0:Ext0 ρ1 ρ H1 H
 fr:∀a u,a≠D->H1 a=some u->a∉ρ1->H a=some u
 nw:∀a∈ρ,a∈ρ1\/H1 a=none
 nD:D∉ρ
 hD:H D=some (.lst accV)
def Out.stay{H1 H3 U:Hp}(o:Out ρ1 H1 D accV ρ3 H3)(L:H1 D=none)(J:Ext ρ3 ρ7 H3 U):Out ρ1 H1 D accV ρ7 U:=by
 refine⟨⟨o.e0.pre.trans J.pre,λa u i h=>J.im a u i<|o.e0.im a u i h⟩,λa u na d g=>J.fr a u (o.fr a u na d g) λz=>(o.nw a z).elim g λz=>by(rw[z]at d;cases d),λa k=>?_,λz=>(J.nw D z).elim o.nD λz=>by(rw[o.hD]at z;cases z),J.fr D _ o.hD o.nD⟩;by_cases f:a∈ρ1
 ·exact .inl f
 ·right
  cases q:H1 a with
  | none=>rfl
  | some u=>
   have j:a≠D:=gI q L
   rcases J.nw a k with z|z
   ·exact((o.nw a z).elim f λz=>by(rw[z]at q;cases q)).elim
   ·rw[o.fr a u j q f]at z;cases z
def Out.put{H1 H:Hp}(o:Out ρ1 H1 D accV ρ H)(ex:Ext0 ρ ρ H<|upd H D<|.lst vs):Out ρ1 H1 D vs ρ (upd H D<|.lst vs):=
 ⟨⟨o.e0.pre,λa u i h=>ex.im a u i<|o.e0.im a u i h⟩,λa u na d f=>by rw[gy na];exact o.fr a u na d f,o.nw,o.nD,g8⟩
def Out.end{H1 H:Hp}{D:aj}(o:Out ρ1 H1 D accV ρ H)(j:H1 D=none):Ext ρ1 (ρ++[D]) H1 H:=by
 refine⟨⟨o.e0.pre.trans<|dz _ _,o.e0.im⟩,λa u d na=>o.fr a u (gI d j) d na,λa f=>?_⟩
 rcases bO.mp f with z|z
 ·exact o.nw a z
 ·have:a=D:=by simpa using z
  rw[this];exact .inr j
abbrev Cq (K:au)(ρ1:be)(H1:Hp)(D:aj)(ys:ae)(k:Nat)(E:be->Hp->Prop)(P:Nat->Nat->ae->gr->ae->Prop)(i m:Nat)(σ:L2.St)(H:Hp):Prop:=
 m+i=k/\∃ρ S τ acc zs accV,Out ρ1 H1 D accV ρ H/\E ρ H/\Rel K ρ H S/\SR K ρ H τ σ/\AVs K ρ H acc accV/\P m i τ S zs/\acc++zs=ys
section
variable {K:au}{ρ1 ρ:be}{H1 H:Hp}{D:aj}{ys acc zs:ae}{accV:List V}{k i m:Nat}{E:be->Hp->Prop}{P:Nat->Nat->ae->gr->ae->Prop}{σ:L2.St}{S:gr}{τ:ae}
def Cq.el{T:Prop}(h:Cq K ρ1 H1 D ys k E P i m σ H)(q:∀ρ S τ acc zs accV,m+i=k->Out ρ1 H1 D accV ρ H->E ρ H->Rel K ρ H S->SR K ρ H τ σ->AVs K ρ H acc accV->P m i τ S zs->acc++zs=ys->T):T:=by
 obtain⟨B,ρ,S,τ,acc,zs,accV,h1,d,p,j,g,h6,f⟩:=h;exact q ρ S τ acc zs accV B h1 d p j g h6 f
def Cq.of(j:m+i=k)(o:Out ρ1 H1 D accV ρ H)(e:E ρ H)(R:Rel K ρ H S)(r:SR K ρ H τ σ)(v:AVs K ρ H acc accV)(p:P m i τ S zs)(q:acc++zs=ys):Cq K ρ1 H1 D ys k E P i m σ H:=⟨j,ρ,S,τ,acc,zs,accV,o,e,R,r,v,p,q⟩
end
abbrev TR (K:au)(c:Ex):TE:=λσ H Q=>∃ρ S τ a d,Rel K ρ H S/\SR K ρ H τ σ/\c τ S=.ok a d/\∀ρ' H' v,Ext ρ ρ' H H'->Rel K ρ' H' d->AV K ρ' H' a v->Q v H'
abbrev Qk (K:au)(c:Te):TT:=λσ H Q=>∃ρ S τ a d,Rel K ρ H S/\SR K ρ H τ σ/\c τ S=.ok a d/\∀ρ' H',Ext ρ ρ' H H'->Rel K ρ' H' d->Q a H'
abbrev Qd (K:au)(g:Tg):TG:=λv σ H Q=>∃ρ S τ a f j,Rel K ρ H S/\SR K ρ H τ σ/\AV K ρ H a v/\g a τ S=.ok f j/\∀ρ' H' d,Ext ρ ρ' H H'->Rel K ρ' H' j->SR K ρ' H' f d->Q d H'
section
variable {X:Cx}{pos:Pos}{tg iter elt e:aE}{ifs:List aE}{scope:Scope}{N:ba}{cap:List (bp)}{src:Ic}{g:Tg}{t:Te}{c:Ex}
def AE.e0{K:au}(hK:X.K=K)(h:AE X e c):PE X e (TR K c):=PE.imp h λσ H Q ⟨ρ,S,τ,a,g,R,r,hc,q⟩=>⟨ρ,S,τ,by rw[hK];exact R,by rw[hK];exact r,by rw[hc];exact λρ' H' v e d f=>q ρ' H' v e (by rw[<- hK];exact d)<|by rw[<- hK];exact f⟩
def AG.g0{K:au}(hK:X.K=K)(h:AG X e g):PG X e (Qd K g):=by
 subst hK;refine PG.imp h λv σ H Q h9=>?_;obtain⟨ρ,S,τ,a,d,f,R,r,va,hc,q⟩:=h9;exact⟨ρ,S,τ,a,R,r,va,by rw[hc];exact q⟩
abbrev SA (X:Cx)(ifs:List aE)(t:Te):Prop:=MQ X ifs<|Qk X.K t
def k9:SA X [] kG:=λpins s σ H Q I ⟨ρ,S,τ,a,d,R,r,hc,q⟩=>K6 pins s σ H Q I<|by cases hc;exact q ρ H .refl R
def M8{K:au}{H:Hp}(r:SR K ρ H τ σ)(cap:List<|bp):SR K ρ H (jv cap τ) (cap.map<|Pr σ):=by
 refine⟨by simp[jv],λi a h=>?_⟩;unfold jv at h;rw[cB]at h;obtain⟨o,g,e⟩:=aX.mp h
 cases o with
 | none=>exact .inl e.symm
 | some j=>
  have e:τ.getD j .unb=a:=e
  cases d:τ[j]? with
  | none=>rw[aV,d]at e;exact .inl e.symm
  | some b=>
   rw[aV,d]at e;have e:b=a:=e;subst e
   rcases r.at j b d with z|⟨v,h1,f⟩
   ·exact .inl z
   ·exact .inr ⟨v,by rw[cB,g];show some ((σ[j]?).getD none)=_;rw[h1];rfl,f⟩
def Rel.EB{K:au}{H:Hp}{p:aj}(R:Rel K ρ H S)(hp:H p=none):p∉ρ:=λj=>by
 obtain⟨n,hn,e⟩:=fj.mp j;have g:n<S.length:=by rw[<- R.len];exact hn
 have:=R.at n p S[n] (by rw[aL hn,e]) (aL g)
 cases d:S[n]with
 | lst xs=>rw[d]at this;obtain⟨f,h,_⟩:=this;rw[hp]at h;cases h
 | dct _|dki _|jE _|dcp _=>rw[d]at this;obtain⟨f,h,_⟩:=this;rw[hp]at h;cases h
 | dcf _|dkf _=>rw[d]at this;obtain⟨_,f,h,_⟩:=this;rw[hp]at h;cases h
 | ins _ _=>rw[d]at this;obtain⟨_,_,h⟩:=this;rw[hp]at h;cases h
 | obj _ _=>rw[d]at this;obtain⟨_,⟨_,_,_,h⟩,_⟩:=this;rw[hp]at h;cases h
def IC(σ:L2.St)(H:Hp)(Q:VK)(h:tE X (jX cap src g t c) σ H Q):M0 cap (tI X src) (Qd X.K g) (Qk X.K t) (TR X.K c) σ H Q:=by
 gp_on;refine⟨ρ,S,τ,R,r,gq (gu h) .refl λs S1 h1 ρ1 H1 J e1 R1 jr D hD=>?_⟩;obtain⟨ys,P,hcg,h1⟩:=rJ h1;obtain⟨N,h1⟩:=gO h1;have h1:qV X ρ H Q (.ref P.length) (P++[.lst ys]):=h1;obtain⟨eD,RD⟩:=R1.im (u:=.lst []) hD;refine⟨Cq X.K ρ1 H1 D ys s.k (λ_ _=>True) λm i τ S zs=>ng s g t c m i τ S=.ok zs P,⟨s.k,.of rfl ⟨eD.toExt0,λa u na hu _=>by rw[gy na];exact hu,λa ha=>.inl ha,R1.EB hD,g8⟩ trivial RD (M8 ((r.ext e1).ext eD) cap) .nil hcg rfl⟩,?_⟩;intro i m σ3 H3 hw;refine hw.el λB L τ3 acc zs accV hm C _ R3 r3 p d f=>?_;clear hw
 cases m with
 | zero=>
  left;have d:(if s.fin L then Am.R.ok [] L else .no)=.ok zs P:=d
  cases hf:s.fin L with
  | false=>rw[hf]at d;cases d
  | true=>
   rw[hf]at d
   cases d
   rw[bX]at f;subst f;refine⟨by rw[show i=s.k by lia];exact jr.stop _ H3 B C.e0 R3 hf,?_⟩;obtain⟨RT,gt⟩:=R3.take C.hD C.nD p;exact h1 (B++[D]) H3 _ (e1.trans<|C.end hD) RT<|.ref gt
 | succ m=>
  right;refine zY d λx G S4 b S5 hx Z ht5 hT hF=>?_;have jg:=jr.go i L H3 B x C.e0 R3 hx;refine⟨jg.1,λv H4 y=>?_⟩;obtain⟨e4,R4,v4⟩:=jg.2 v H4 y;refine⟨B,L,τ3,x,G,S4,R4,r3.ext e4,v4,Z,λρ5 H5 σ5 e5 R5 V=>⟨ρ5,S4,G,b,S5,R5,V,ht5,λY H6 T R6=>?_⟩⟩;have j:=(e4.trans e5).trans T
  cases b with
  | false=>
   dsimp only;rw[aO bC];exact⟨m,cD _,.of () (C.stay hD j) trivial R6 (V.ext T) (p.ext j) (hF rfl) f⟩
  | true=>
   dsimp only;rw[aR rfl];obtain⟨y,S6,ws,he6,cg6,O⟩:=hT rfl;refine⟨Y,S5,G,y,S6,R6,V.ext T,he6,λρ7 H7 w e7 R7 v7=>?_⟩;have U:=C.stay hD<|j.trans e7;obtain⟨F,R8⟩:=R7.out (ws:=accV++[w]) U.hD U.nD;have l1:=p.length;refine⟨accV,U.hD,?_,m,cD _,.of () (U.put F) trivial R8 ((V.ext<|T.trans e7).iB F) (AVs.iB F<|(p.ext<|j.trans e7).append<|.one v7) cg6 ?_⟩
   ·have:(acc++zs).length<=sizeLine:=by rw[f];exact N
    rw[O,aU,bq]at this
    lia
   ·rw[bL,<- f,O];rfl
def oQ(hc:X.calm=true)(j:CpScope X scope N cap)(hi:AI X tg iter src)(hg:∀C s₀ H₀ ex,AG (iG X scope N C s₀ H₀ ex) tg g)(J:∀C s₀ H₀ ex,SA (iG X scope N C s₀ H₀ ex) ifs t)(L:∀C s₀ H₀ ex,AE (iG X scope N C s₀ H₀ ex) elt c)
  (hs:(∀x,foldedSetIterable iter X.env x=pure x)<|>ζ):AE X (.ListComp elt [⟨tg,iter,ifs,0⟩] scope pos) (jX cap src g t c):=
 PE.imp (Qs hc j hi (g:=Qd X.K g) (tc:=Qk X.K t) (te:=TR X.K c) (λC s₀ H₀ ex=>(hg C s₀ H₀ ex).g0 rfl) (λC s₀ H₀ ex=>J C s₀ H₀ ex) (λC s₀ H₀ ex=>(L C s₀ H₀ ex).e0 rfl) hs) IC
end
abbrev A.lst? (S:gr):A->Option (ae)
 | .ref n=>gn S n
 | _=>none
abbrev Ql (f:A->ae->gr->R A)(co:Ex)(d:lq):Ex:=λτ S=>(co τ S).bind λo S1=>opt (o.lst? S1) λ_=>(d τ S1).bind λas g=>f o as g
abbrev Ly (f:A->ae->gr->R A)(co:Ex):Ex:=λτ S=>(co τ S).bind λo S1=>opt (o.lst? S1) λ_=>f o [] S1
abbrev rM (X:Cx)(f:A->ae->gr->R A):V->List V->Hp->VK->Prop:=λx d H Q=>∃ρ S o as,Rel X.K ρ H S/\AV X.K ρ H o x/\AVs X.K ρ H as d/\(f o as S).post (qV X ρ H Q) (XE X ρ H)
section
variable {X:Cx}{apos cpos:Pos}{o e:aE}{es:List aE}{name:Str}{id:String}{f:A->ae->gr->R A}{co:Ex}{d:lq}
def lst?_ty{K:au}{H:Hp}{x:A}{v:V}(R:Rel K ρ H S)(h:AV K ρ H x v)(e:x.lst? S=some xs):Qn K "list" v H:=by
 cases h with
 | ref h=>
  obtain⟨d,h1,_⟩:=R.lst h<|gF e;exact .inl ⟨rfl,d,jM.of h1⟩
 | _=>cases e
def GN(slot:Slot "list" name id)(hty:typeOf (.builtin id)=pure (.type "method_descriptor"))(hm:Bf X id<|rM X f)(ho:AE X o co)(ha:AL X (e::es) d)
  (L:attributeBase o name X.env (eval o X.env)=eval o X.env<|>ε)
  (Z:(((backTo cpos<|starEach (e::es) X.env).all (λx=>!x.1) && (backToKw cpos<|keywordEach [] X.env).all (λx=>x.1.isSome)
   && decide ((e::es).length+([]:List Keyword).length+(if ([]:List Keyword).isEmpty then 0 else 1)<30))=true)<|>ε)
  (U:(apos.endLine == cpos.line)=true<|>ε) (hs:starEach (e::es) X.env=(false,eval e X.env)::starEach es X.env<|>ε) (J:((backTo cpos<|starEach es X.env).any (·.1)=false)<|>ε) :
  AE X (.Call (.Attribute o name apos) (e::es) [] cpos) (Ql f co d):=PE.imp (I_ PySem.F.plainAttrs_list slot hty hm ho ha L Z U hs J) λσ H Q h9=>by
 room;ksr_p;obtain⟨xs,j,h1⟩:=gD h1;refine⟨lst?_ty R1 v1 j,ρ1,S1,τ,R1,r.ext e1,gq (gu h1) e1 λas m k g H2 B e2 R2 p=>?_⟩;exact⟨g,m,x,as,R2,v1.ext e2,p,gq k (e1.trans e2) λ_ _ z=>z.ext<|e1.trans e2⟩
def PN(slot:Slot "list" name id)(L:typeOf (.builtin id)=pure (.type "method_descriptor"))(U:Bf X id<|rM X f)(Z:AE X o co)
  (j:attributeBase o name X.env (eval o X.env)=eval o X.env<|>ε) (J:(apos.endLine == cpos.line)=true<|>ε):AE X (.Call (.Attribute o name apos) [] [] cpos) (Ly f co):=PE.imp (O8 PySem.F.plainAttrs_list slot L U Z j J) λσ H Q h9=>by
 room;ksr_p;obtain⟨xs,d,h1⟩:=gD h1;exact⟨lst?_ty R1 v1 d,ρ1,S1,x,[],R1,v1,.nil,gq h1 e1 λ_ _ z=>z.ext e1⟩
abbrev oK (o:A)(as:ae)(S:gr):R A:=match o,as with
 | .ref n,[x]=>opt (gn S n) λxs=>gd (xs.length<sizeLine) (.ok .non<|S.set n<|.lst<|xs++[x])
 | _,_=>.no
def wu:Bf X "list.append" (rM X oK):=λpins s σ H x j v us Q I rx f h9=>by
 kpf_c
 cases vo with
 | @ref p n hp=>
  match as,va,h with
  | [],_,h=>exact h.elim
  | _::_::_,_,h=>exact h.elim
  | [y],va,h=>
   obtain⟨w,rfl,hw⟩:=zS va;gn_on;obtain⟨g,h⟩:=gO h;obtain⟨ws,h1,r⟩:=R.lst hp<|gF hn;obtain⟨ex,d⟩:=R.put hp (gF hn)<|r.append<|.one hw;exact t8 pins s σ H _ _ v us Q I rx f ⟨p,ws,w,rfl,rfl,h1,by rw[<- r.length];exact g,h _ _ _ ex d .non⟩
 | _=>exact h.elim
abbrev HL (o:A)(as:ae)(S:gr):R A:=match o,as with
 | .ref n,[]=>opt (gn S n) λxs=>opt (xs[xs.length-1]?) λx=>.ok x (S.set n<|.lst xs.dropLast)
 | _,_=>.no
def AVs.dropLast{K:au}{H:Hp}{xs:ae}{vs:List V}(r:AVs K ρ H xs vs):AVs K ρ H xs.dropLast vs.dropLast:=by
 rw[List.dropLast_eq_take,List.dropLast_eq_take,r.length];exact r.take _
def RC:Bf X "list.pop" (rM X HL):=λpins s σ H x j v us Q I rx f h9=>by
 kpf_c
 cases vo with
 | @ref p n hp=>
  match as,va,h with
  | _::_,_,h=>exact h.elim
  | [],va,h=>
   cases va
   gn_on;obtain⟨y,hy,h⟩:=gD h;obtain⟨ws,h1,r⟩:=R.lst hp<|gF hn;obtain⟨w,hw,g⟩:=r.get hy;obtain⟨ex,d⟩:=R.put hp (gF hn) r.dropLast;exact PM pins s σ H _ _ v us Q I rx f ⟨p,ws,w,rfl,rfl,h1,by rw[<- r.length];exact hw,h _ _ _ ex d<|g.ext ex⟩
 | _=>exact h.elim
end
abbrev jc (N:ba)(m:Sm)(as:ae)(S:gr):R A:=match m (as++List.replicate (N.length-as.length) .unb) S with
 | .rt a d=>.ok a d
 | .nx _ d=>.ok .non d
 | .ex c d=>.ex c d
 | _=>.no
abbrev su (K:au)(n:Nat)(F:ae->gr->R A):Sp:=λd H Q _=>d.length=n/\∃ρ S as a f,Rel K ρ H S/\AVs K ρ H as d/\F as S=.ok a f/\∀ρ' H' v,Ext ρ ρ' H H'->Rel K ρ' H' f->AV K ρ' H' a v->Q v H'
def DK{K:au}{H:Hp}{as:ae}(r:AVs K ρ H as vs)(N:ba):SR K ρ H (as++List.replicate (N.length-as.length) .unb) (L2.start N vs):=by
 have d:=r.length;refine⟨by unfold L2.start;simp[d],λi a h=>?_⟩;by_cases hi:i<as.length
 ·rw[aS hi]at h;obtain⟨v,hv,f⟩:=r.get h;exact .inr ⟨v,by unfold L2.start;rw[aS<|by simp;lia,cB,hv];rfl,f⟩
 ·rw[cV (),ez]at h;split at h
  ·exact .inl (aQ h).symm
  ·cases h
section
variable {P:ah}{w:af}{K:au}{mg:Str->bi}{base:ak}
def xW{x:Str}{st:aF}{f:aj}{N ps:ba}{k:Nat}{m:Sm}(F:Fun K x qual st f fd)(U:FnScope N ps<|gE st)
  (body:∀(cdv:aa) (A:az) (outer:List Env) (s:aA) (H:Hp) (E:XK),Room k (A.deeper<|envOfC qual (gE st) s.heap.objs.size f cdv)->FO (uX qA P w K mg base N qual (gE st) f cdv A outer s H E).Qw (jA st) m) :
  FnOk P w K mg base qA (k+1) f fd ps (su K ps.length<|jc N m):=by
 refine F.ok U (λp H Q E h=>h.1) λcdv B outer s H p Q E J ⟨O,ρ,S,as,a,L,R,va,d,q⟩=>⟨_,body cdv B outer s H E J,ρ,S,_,R,DK va N,?_⟩;unfold jc at d
 cases g:m (as++List.replicate (N.length-as.length) .unb) S with
 | rt b j=>rw[g]at d;cases d;exact q
 | nx τ j=>rw[g]at d;cases d;exact λρ' H' G e C _=>q ρ' H' _ e C .non
 | bk τ j=>rw[g]at d;cases d
 | ct τ j=>rw[g]at d;cases d
 | ex c j=>rw[g]at d;cases d
 | no=>rw[g]at d;cases d
end
meta abbrev rL (P:ah)(w:af)(K:au)(mg:Str->bi)(base:ak)(k:Nat)(x:Str)(ps:ba)(F:ae->gr->R A):Prop:=Kn P w K mg base k x ps<|su K ps.length F
abbrev eFn (F:ae->gr->R A)(d:lq):Ex:=λτ S=>(d τ S).bind λas S1=>match F as S1 with
 | .ok a f=>.ok a f
 | _=>.no
section
variable {X:Cx}{pos p:Pos}{e:aE}{es:List aE}{x:Str}{ps:ba}{k:Nat}{F:ae->gr->R A}{d:lq}
def Ho(G:rL X.prog X.w X.K X.mg X.base k x ps F)(U:Room k X.A)(Z:AL X (e::es) d)(hl:∀τ S as S',d τ S=.ok as S'->as.length=ps.length)(hg:Gl X x<|>ε)(L:(x == ("__debug__" : Str))=false<|>δ)
  (hs:starEach (e::es) X.env=(false,eval e X.env)::starEach es X.env<|>ε) (J:((backTo pos<|starEach es X.env).any (·.1)=false)<|>ε):AE X (.Call (.Name x p) (e::es) [] pos) (eFn F d):=
 PE.imp (RH G U Z hg L hs J) λσ H Q h9=>by
  room;refine⟨ρ,S,τ,R,r,?_⟩;have f:=gu h
  cases hd:d τ S with
  | no=>rw[hd]at f;exact f
  | ex c S1=>rw[hd]at f;exact f
  | ok as S1=>
   rw[hd]at f;intro ρ1 H1 B e1 R1 v1;rw[bX];refine⟨by rw[<- v1.length];exact hl τ S as S1 hd,ρ1,S1,as,?_⟩;have f:Am.R.post (match F as S1 with
    | .ok a g=>.ok a g
    | _=>.no) (qV X ρ H Q) (XE X ρ H):=f
   cases m:F as S1 with
   | ok a g=>rw[m]at f;exact⟨a,g,R1,v1,rfl,λj H2 v e2=>f j H2 v<|e1.trans e2⟩
   | ex c g=>rw[m]at f;exact f.elim
   | no=>rw[m]at f;exact f.elim
def jh:∀τ S as S',gv τ S=.ok as S'->as.length=0:=λτ S as S' h=>by cases h;rfl
def h_{c:Ex}{d:lq}{n:Nat}(h:∀τ S as S',d τ S=.ok as S'->as.length=n):∀τ S as S',gj c d τ S=.ok as S'->as.length=n+1:=λτ S as S' e=>by
 unfold gj at e
 cases hc:c τ S with
 | ok a S1=>
  rw[hc]at e
  cases hd:d τ S1 with
  | ok bs f=>
   have e:R.bind (d τ S1) (λas f=>.ok (a::as) f)=.ok as S':=e;rw[hd]at e;cases e;rw[bq,h τ S1 bs _ hd]
  | ex _ _=>
   have e:R.bind (d τ S1) (λas f=>.ok (a::as) f)=.ok as S':=e;rw[hd]at e;cases e
  | no=>
   have e:R.bind (d τ S1) (λas f=>.ok (a::as) f)=.ok as S':=e;rw[hd]at e;cases e
 | ex _ _=>rw[hc]at e;cases e
 | no=>rw[hc]at e;cases e
end
section
variable {X:Cx}{pos:Pos}{a b c:aE}
abbrev UO (j:A->A->gr->R A)(J:Ex)(τ:ae)(b k:A)(S:gr):R A:=match k with
 | .bl true=>(J τ S).bind λc d=>j b c d
 | .bl false=>.ok (.bl false) S
 | _=>.no
abbrev Il (f j:A->A->gr->R A)(ca J L:Ex):Ex:=λτ S=>(ca τ S).bind λa S1=>(J τ S1).bind λb g=>(f a b g).bind λk d=>UO j L τ b k d
def Jw{f Z:A->A->gr->R A}{ca cb cc:Ex}{H:Hp}{Q:VK}(h:tE X (Il f Z ca cb cc) σ H Q):Cj (r2 X f) (r2 X Z) (tE X ca) (tE X cb) (tE X cc) σ H Q:=by
 gp_on;refine⟨ρ,S,τ,R,r,gq (gu h) .refl λa S1 h1 ρ1 H1 x e1 R1 v1=>⟨ρ1,S1,τ,R1,r.ext e1,gq (gu h1) e1 λb T P B H2 y e2 R2 G=>?_⟩⟩;have j:=e1.trans e2;refine⟨B,T,a,b,R2,v1.ext e2,G,gq (gu P) j λk K m g H3 z e3 F O=>?_⟩;have d:=j.trans e3
 cases k with
 | bl k=>
  cases vG O
  refine⟨k,rfl,?_⟩
  cases k with
  | true=>
   rw[aR rfl];exact⟨g,K,τ,F,r.ext d,gq (gu m) d λc N U p V w C L J=>⟨p,N,b,c,L,G.ext<|e3.trans C,J,gq U (d.trans C) λ_ _ q=>q.ext<|d.trans C⟩⟩
  | false=>
   rw[aO bC];exact m g H3 _ d F<|.bl false
 | _=>exact m.elim
def M1{f J:A->A->gr->R A}{ca L U:Ex}(Z:jI X (compareOp op)<|r2 X f)(j:jI X (compareOp op')<|r2 X J)(ha:AE X a ca)(hb:AE X b L)(hc:AE X c U)(hm:lastMarks [op,op'] [b,c]=false<|>η) :
  AE X (.Compare a [op,op'] [b,c] pos) (Il f J ca L U):=PE.imp (JW Z j ha hb hc hm) λ_ _ _ h=>Jw h
def QU{f J:A->A->gr->R A}{ca L U:Ex}(Z:jI X (compareOp op)<|r2 X f)(j:jI X (compareOp op')<|r2 X J)(ha:AE X a ca)(hb:AE X b L)(hc:AE X c U)(hm:lastMarks [op,op'] [b,c]=false<|>η) :
  AT X (.Compare a [op,op'] [b,c] pos) (kh<|Il f J ca L U):=PT.imp (IF Z j ha hb hc hm) λσ H Q h9=>by
 room;refine Jw ⟨ρ,S,τ,R,r,gq (gu h) .refl λc S1 h1 ρ1 H1 x e1 R1 v1=>?_⟩
 cases c with
 | bl k=>cases vG v1;exact⟨k,rfl,h1 ρ1 H1 e1 R1⟩
 | _=>exact h1.elim
abbrev Ro (S:gr)(x:A):ae->bo
 | []=>some false
 | z::zs=>(xG S 12 z x).bind λp=>(Ro S x zs).map λq=>p || q
abbrev Oz (j:Bool)(x y:A)(S:gr):R A:=opt (y.seq S) λys=>opt (Ro S x ys) λb=>.ok (.bl<|if j then !b else b) S
def Ep{H:Hp}{x:A}{v:aa}(I:Inv X pins σ H s)(R:Rel X.K ρ H S)(Z:X.A.units+64<cLine)(U:AV X.K ρ H x vx)(rx:RelV vx v) :
  ∀{ys:ae} {us:List V} {its:bd} {b:Bool},AVs X.K ρ H ys us->Vals us its->Ro S x ys=some b->∃e:aa->Bool,(∀w∈its,SeqAt.EqAt X.A.in1 s w v<|e w)/\its.any e=b:=by
 intro ys
 induction ys with
 | nil=>
  intro us its b h1 C h
  cases h1
  cases C
  exact⟨λ_=>false,(λw hw=>by cases hw),aQ h⟩
 | cons z zs j=>
  intro us its b h1 C h
  cases h1 with
  | cons G k=>
   rename_i u us
   cases C with
   | cons r J=>
    rename_i f its
    classical
    obtain⟨p,hp,h⟩:=bD.mp h;obtain⟨q,L,h⟩:=aX.mp h;obtain⟨e,g,B⟩:=j k J L;have h0:=(CD I R 12 X.A.in1 z x u vx f v p (by rw[in1_units];omega) G U r rx hp).2.1;subst h
    cases p with
    | true=>
     refine⟨λw=>if w=f then true else e w,λw hw=>?_,?_⟩
     ·by_cases d:w=f
      ·dsimp[d,dH];exact h0
      ·dsimp[d,dO]
       rcases bJ.mp hw with z|z
       ·exact absurd z d
       ·exact g w z
     ·simp
    | false=>
     by_cases m:f∈its
     ·refine⟨e,λw hw=>?_,?_⟩
      ·rcases bJ.mp hw with z|z
       ·rw[z];exact g f m
       ·exact g w z
      ·rw[dB,B,Bool.false_or]
       cases q with
       | true=>simp
       | false=>
        have:=List.any_eq_false.mp B f m;simpa using this
     ·refine⟨λw=>if w=f then false else e w,λw hw=>?_,?_⟩
      ·by_cases d:w=f
       ·dsimp[d,dH];exact h0
       ·dsimp[d,dO]
        rcases bJ.mp hw with z|z
        ·exact absurd z d
        ·exact g w z
      ·rw[dB,<- B];dsimp[dH,Bool.false_or];have:∀l:bd,(∀w∈l,w≠f)->l.any (λw=>if w=f then false else e w)=l.any e:=λl F=>by
        induction l with
        | nil=>rfl
        | cons c l j=>rw[dB,dB,j λw hw=>F w<|aW _ hw,aO<|F c<|aZ ..]
       exact this its λw hw z=>m<|z ▸ hw
def RI(J:X.A.units+64<cLine):jI X (compareOp .In) (r2 X<|Oz false):=λpins s σ H x y v u Q I rx ry h9=>by
 x_go;obtain⟨ys,hy,h⟩:=gD h;obtain⟨k,m,h⟩:=gD h;obtain⟨p,us,rfl,hs,r⟩:=FZ R vb hy
 cases ry
 rcases hs with hs|hs
 ·obtain⟨d,g,pl,B⟩:=I.list hs;obtain⟨e,f,j⟩:=Ep I R J va rx r g m;refine SeqAt.in_listAt e pl.isList (λw hw=>f w<|by simpa using hw) ⟨.bl _,H,I,rfl,?_⟩;rw[show d.toArray.any e=d.any e by simp,j];exact h _ _ _ .refl R (.bl _)
 ·obtain⟨d,g,pl,B⟩:=I.tuple hs;obtain⟨e,f,j⟩:=Ep I R J va rx r g m;refine SeqAt.in_tupleAt e pl (λw hw=>f w<|by simpa using hw) ⟨.bl _,H,I,rfl,?_⟩;rw[show d.toArray.any e=d.any e by simp,j];exact h _ _ _ .refl R<|.bl _
end
section
variable {X:Cx}{pos apos cpos:Pos}{a b o e:aE}{es:List aE}
abbrev ya (x:A)(S:gr):R A:=match x with
 | .int i=>gd (i.natAbs.log2<1920) (.ok (.str<|toString i) S)
 | _=>.no
def GC:g6 X (.type "str") (rN X<|f1 ya):=g6.imp yK λd H Q h0=>by
 kt_k;clear h0
 cases hv with
 | int i=>
  obtain⟨hc,h⟩:=gO h;exact⟨i,rfl,hc,h _ _ _ .refl R<|.str _⟩
 | _=>exact h.elim
abbrev A.strs:ae->Option (ba)
 | []=>some []
 | .str i::xs=>(A.strs xs).map (i::·)
 | _=>none
def LK{K:au}{H:Hp}:∀{xs:ae}{vs:List V}{bs:ba},AVs K ρ H xs vs->A.strs xs=some bs->vs=bs.map V.str:=by
 intro xs
 induction xs with
 | nil=>intro vs bs r e;cases e;cases r;rfl
 | cons x xs d=>
  intro vs bs r e
  cases x with
  | str z=>
   obtain⟨cs,e1,rfl⟩:=aX.mp (show(A.strs xs).map (z::·)=some bs from e)
   cases r with
   | cons h t=>cases h;rw[d t e1];rfl
  | _=>cases e
abbrev nV (o:A)(as:ae)(S:gr):R A:=match o,as with
 | .str z,[.ref n]=>opt (gn S n) λxs=>opt (A.strs xs) λys=>gd ((ys.map (·.length)).sum+ys.length * z.length<=16777216) (.ok (.str<|Txt.join z ys) S)
 | _,_=>.no
def zc:Bf X "str.join" (rM X nV):=λpins s σ H x f v us Q I rx g h9=>by
 kpf_c
 cases vo with
 | str z=>
  match as,va,h with
  | [],_,h=>exact h.elim
  | y::_::_,_,h=>exact(by cases y<;>exact h.elim)
  | [y],va,h=>
   obtain⟨w,rfl,hw⟩:=zS va
   cases hw with
   | @ref p n hp=>
    gn_on;obtain⟨ys,d,h⟩:=gD h;obtain⟨j,h⟩:=gO h;obtain⟨f,h1,r⟩:=R.lst hp<|gF hn;rw[LK r d]at h1;exact Mu pins s σ H _ _ v us Q I rx g ⟨z,p,ys,rfl,rfl,jM.of h1,j,h _ _ _ .refl R<|.str _⟩
   | _=>exact h.elim
 | _=>exact h.elim
abbrev qN (o:A)(as:ae)(S:gr):R A:=match o,as with
 | .str y,[.str z]=>gd ((z.length == 0)=false/\y.length<=sizeLine/\(Txt.split y z).length<=sizeLine) (.ok (.ref S.length)<|S++[.lst<|(Txt.split y z).map .str])
 | _,_=>.no
theorem zQ{K:au}{H:Hp}:∀(ys:ba),AVs K ρ H (ys.map .str) (ys.map .str)
 | []=>.nil
 | y::ys=>.cons (.str y)<|zQ ys
def m_split:Bf X "str.split" (rM X qN):=λpins s σ H x j v us Q I rx g h9=>by
 kpf_c
 cases vo with
 | str y=>
  match as,va,h with
  | [],_,h=>exact h.elim
  | w::_::_,_,h=>exact(by cases w<;>exact h.elim)
  | [w],va,h=>
   obtain⟨k,rfl,hw⟩:=zS va
   cases hw with
   | str z=>
    obtain⟨⟨h1,d,f⟩,h⟩:=gO h;exact GH pins s σ H _ _ v us Q I rx g ⟨y,z,rfl,rfl,h1,d,f,jJ R (zQ _) .refl h⟩
   | _=>exact h.elim
 | _=>exact h.elim
abbrev yJ (o:A)(as:ae)(S:gr):R A:=match o,as with
 | .str y,[.str z]=>.ok (.bl<|0+z.length<=y.length && Builtin.Str.subAt y z 0) S
 | _,_=>.no
def GI:Bf X "str.startswith" (rM X yJ):=λpins s σ H x f v us Q I rx d h9=>by
 kpf_c
 cases vo with
 | str y=>
  match as,va,h with
  | [],_,h=>exact h.elim
  | w::_::_,_,h=>exact(by cases w<;>exact h.elim)
  | [w],va,h=>
   obtain⟨g,rfl,hw⟩:=zS va
   cases hw with
   | str z=>exact xg pins s σ H _ _ v us Q I rx d ⟨y,z,rfl,rfl,h _ _ _ .refl R<|.bl _⟩
   | _=>exact h.elim
 | _=>exact h.elim
abbrev BQ (x y:A)(S:gr):R A:=match x,y with
 | .str i,.str j=>.ok (.bl<|!(Builtin.Str.occurrences j i 0 j.length 1).isEmpty) S
 | _,_=>.no
def Nr:jI X (compareOp .In) (r2 X BQ):=jI.imp FF λx y H Q h9=>by
 x_go
 cases va<;>first|exact h.elim|(cases vb<;>first|exact h.elim|exact⟨_,_,rfl,rfl,h _ _ _ .refl R<|.bl _⟩)
def Aj{x:Str}{pos:Pos}(j:X.mg x=some (.str y t))(hg:Gl X x<|>ε)(hd:(x == ("__debug__" : Str))=false<|>δ):AE X (.Name x pos) (eC<|.str y):=
 PE.imp (qf (v:=.str y) hg j ⟨t,rfl⟩ hd) λσ H Q ⟨ρ,S,τ,R,r,h⟩=>h ρ H _ .refl R<|.str y
abbrev A.isStr:A->Bool
 | .str _=>true
 | _=>false
abbrev CH (f:A->ae->gr->R A)(co:Ex)(d:lq):Ex:=λτ S=>(co τ S).bind λo S1=>gd (o.isStr=true)<|(d τ S1).bind λas g=>f o as g
def vR{id:String}{f:A->ae->gr->R A}{co:Ex}{d:lq}(slot:Slot "str" name id)(hty:typeOf (.builtin id)=pure (.type "method_descriptor"))(hm:Bf X id<|rM X f)(ho:AE X o co)(ha:AL X (e::es) d)
  (L:attributeBase o name X.env (eval o X.env)=eval o X.env<|>ε)
  (Z:(((backTo cpos<|starEach (e::es) X.env).all (λx=>!x.1) && (backToKw cpos<|keywordEach [] X.env).all (λx=>x.1.isSome)
   && decide ((e::es).length+([]:List Keyword).length+(if ([]:List Keyword).isEmpty then 0 else 1)<30))=true)<|>ε)
  (U:(apos.endLine == cpos.line)=true<|>ε) (hs:starEach (e::es) X.env=(false,eval e X.env)::starEach es X.env<|>ε) (J:((backTo cpos<|starEach es X.env).any (·.1)=false)<|>ε) :
  AE X (.Call (.Attribute o name apos) (e::es) [] cpos) (CH f co d):=PE.imp (I_ PySem.F.plainAttrs_str slot hty hm ho ha L Z U hs J) λσ H Q h9=>by
 room;ksr_p;obtain⟨j,h1⟩:=gO h1;have ty:Qn X.K "str" v H1:=by
  cases v1 with
  | str z=>rfl
  | _=>cases j
 refine⟨ty,ρ1,S1,τ,R1,r.ext e1,gq (gu h1) e1 λas m k g H2 B e2 R2 p=>?_⟩;exact⟨g,m,x,as,R2,v1.ext e2,p,gq k (e1.trans e2) λ_ _ z=>z.ext<|e1.trans e2⟩
end
section
variable {X:Cx}{pos:Pos}{a b:aE}
abbrev wU (n m k:Nat):Src:=⟨k,λi S=>(gn S n).bind λxs=>(gn S m).bind λys=>(xs[i]?).bind λx=>(ys[i]?).map λy=>.tup [x,y],λS=>match gn S n,gn S m with
 | some xs,some ys=>decide (xs.length<=k) || decide (ys.length<=k)
 | _,_=>false⟩
abbrev TH (a b:A)(S:gr):R Src:=match a,b with
 | .ref n,.ref m=>opt (gn S n) λxs=>opt (gn S m) λys=>.ok (wU n m<|min xs.length ys.length) S
 | _,_=>.no
abbrev CL (c d:Ex):Ic:=λτ S=>(c τ S).bind λa S1=>(d τ S1).bind λb f=>TH a b f
def OG{K:au}{ρ0:be}{H0:Hp}{p q:aj}{n m k:Nat}(hp:ρ0[n]?=some p)(Z:ρ0[m]?=some q):JR K (wU n m k) (SN K p q) ρ0 H0 where
 go:=λi S H ρ x e R g=>by
  obtain⟨xs,hn,g⟩:=bD.mp g;obtain⟨ys,d,g⟩:=bD.mp g;obtain⟨U,O,g⟩:=bD.mp g;obtain⟨V,hy,rfl⟩:=aX.mp g;obtain⟨f,h1,r1⟩:=R.lst (e.get hp)<|gF hn;obtain⟨ws,j,r2⟩:=R.lst (e.get Z)<|gF d;obtain⟨v,F,P⟩:=r1.get O;obtain⟨w,C,J⟩:=r2.get hy;refine⟨⟨f,ws,v,w,jM.of h1,jM.of j,F,C⟩,λu H' z=>?_⟩;obtain⟨T,L,rfl,G⟩:=z;have B:=G f ws v w (jM.of h1) (jM.of j) F C;subst B;obtain⟨ex,N⟩:=R.im (u:=.tup [v,w]) L;exact⟨ex,N,.tup g8<|.cons (P.ext ex)<|.cons (J.ext ex) .nil⟩
 stop:=λS H ρ e R hf=>by
  have hf:(match gn S n,gn S m with
   | some xs,some ys=>decide (xs.length<=k) || decide (ys.length<=k)
   | _,_=>false)=true:=hf
  cases hn:gn S n with
  | none=>rw[hn]at hf;cases hf
  | some xs=>
   cases d:gn S m with
   | none=>rw[hn,d]at hf;cases hf
   | some ys=>
    rw[hn,d]at hf;obtain⟨f,h1,r1⟩:=R.lst (e.get hp)<|gF hn;obtain⟨ws,j,r2⟩:=R.lst (e.get Z)<|gF d;refine⟨f,ws,jM.of h1,jM.of j,?_⟩;rw[cY,cY,<- r1.length,<- r2.length];have hf:(decide (xs.length<=k) || decide (ys.length<=k))=true:=hf;rw[f7,dJ,dJ]at hf;exact hf
def N8{p:Pos}{c d:Ex}(Z:X.mg "zip" = none)(ha:AE X a c)(hb:AE X b d)(hg:Gl X "zip"<|>ε)(hs:starEach [a,b] X.env=(false,eval a X.env)::starEach [b] X.env<|>ε)(L:starEach [b] X.env=[(false,eval b X.env)]<|>ε)(U:((backTo pos<|starEach [b] X.env).any (·.1)=false)<|>ε) :
  AI X (.Tuple elts x1 tpos) (.Call (.Name "zip" p) [a,b] [] pos) (CL c d):=λpins s σ H Q I h9=>by
 room;refine NK hg Z (j3 ha (j3 hb pG L) hs) hs U pins s σ H Q I ⟨ρ,S,τ,R,r,gq (gu h) .refl λx S1 h1 ρ1 H1 v e1 R1 v1=>⟨ρ1,S1,τ,R1,r.ext e1,gq (gu h1) e1 λy J f k H2 w e2 R2 F=>?_⟩⟩;have g:=v1.ext e2
 cases g with
 | @ref p n hp=>
  cases F with
  | @ref q m B=>
   obtain⟨xs,hn,f⟩:=gD f;obtain⟨ys,j,f⟩:=gD f;obtain⟨C,G,r1⟩:=R2.lst hp<|gF hn;obtain⟨ws,g2,r2⟩:=R2.lst B<|gF j;exact⟨_,_,C,ws,rfl,jM.of G,jM.of g2,f k H2 _ (e1.trans e2) R2<|OG hp B⟩
  | _=>exact f.elim
 | _=>exact f.elim
def G6{c d:Ex}{n m:Nat}{xs ys:ae}(h1:c τ S=.ok (.ref n) S1)(j:d τ S1=.ok (.ref m) S2)(hn:gn S2 n=some xs)(J:gn S2 m=some ys):CL c d τ S=.ok (wU n m<|min xs.length ys.length) S2:=by
 unfold CL;rw[h1];show(d τ S1).bind _=_;rw[j];show opt (gn S2 n) _=_;rw[hn]
 skip
 rw[J];rfl
end
abbrev zF (K:au)(n:Nat)(F:ae->gr->R A):Sp:=λf H Q E=>f.length=n/\∃ρ S as,Rel K ρ H S/\AVs K ρ H as f/\(F as S).post (λa d=>∀ρ' H' v,Ext ρ ρ' H H'->Rel K ρ' H' d->AV K ρ' H' a v->Q v H') (λc d=>∀C ρ' H',w_ K c C->Ext ρ ρ' H H'->Rel K ρ' H' d->E (.ref C) none H')
section
variable {P:ah}{w:af}{K:au}{mg:Str->bi}{base:ak}
def Fun.VA{x:Str}{st:aF}{f:aj}{N ps:ba}{k:Nat}{sp:Sp}(F:Fun K x qual st f fd)(S:FnScope N ps<|gE st)(len:∀vs H Q E,sp vs H Q E->vs.length=ps.length)
  (hb:∀(cdv:aa) (A:az) (outer:List Env) (s:aA) (H:Hp) (vs:List V) (Q:VK) (E:XK),Room k (A.deeper<|envOfC qual (gE st) s.heap.objs.size f cdv)->sp vs H Q E->∃t,xR (uX (uK P w) P w K mg base N qual (gE st) f cdv A outer s H E) (jA st) t/\t { nx:=λ_ H'=>Q .non H',rt:=Q } (L2.start N vs) H):FnOk P w K mg base (uK P w) (k+1) f fd ps sp:=by
 obtain⟨oc,od,kV,doc,pm,an,cdv,ct,osl,rfl,m,g⟩:=F.ex;exact MP m g S len λA outer s H vs Q E j d=>hb cdv A outer s H vs Q E j d
def fnX{x:Str}{st:aF}{f:aj}{N ps:ba}{k:Nat}{m:Sm}(F:Fun K x qual st f fd)(U:FnScope N ps<|gE st)
  (body:∀(cdv:aa) (A:az) (outer:List Env) (s:aA) (H:Hp) (E:XK),Room k (A.deeper<|envOfC qual (gE st) s.heap.objs.size f cdv)->FO (uX (uK P w) P w K mg base N qual (gE st) f cdv A outer s H E) (jA st) m) :
  FnOk P w K mg base (uK P w) (k+1) f fd ps (zF K ps.length<|jc N m):=by
 refine Fun.VA F U (λJ H Q E h=>h.1) λcdv B outer s H J Q E L ⟨O,ρ,S,as,R,va,q⟩=>⟨_,body cdv B outer s H E L,ρ,S,_,R,DK va N,?_⟩;unfold jc at q
 cases d:m (as++List.replicate (N.length-as.length) .unb) S with
 | rt b g=>rw[d]at q;exact q
 | nx τ g=>rw[d]at q;exact λρ' H' p e j _=>q ρ' H' _ e j .non
 | bk τ g=>rw[d]at q;exact q.elim
 | ct τ g=>rw[d]at q;exact q.elim
 | no=>rw[d]at q;exact q.elim
 | ex c g=>
  rw[d]at q;intro C ρ' H' n e j;exact λpins p s' T I G=>Fq I rfl G<|q C ρ' H' n e j
end
abbrev FL (P:ah)(w:af)(K:au)(mg:Str->bi)(base:ak)(k:Nat)(x:Str)(ps:ba)(F:ae->gr->R A):Prop:=
 ∃(f:aj) (fd:FuncData),FnOk P w K mg base (uK P w) k f fd ps (zF K ps.length F)/\mg x=some (.ref f)/\PySem.W.keepIn K (.ref f)=true/\Binds K fd ps []
abbrev nZ (F:ae->gr->R A)(d:lq):Ex:=λτ S=>(d τ S).bind λas S1=>F as S1
section
variable {X:Cx}{pos p:Pos}{e:aE}{es:List aE}{x:Str}{ps:ba}{k:Nat}{F:ae->gr->R A}{d:lq}
def FP(G:FL X.prog X.w X.K X.mg X.base k x ps F)(hr:Room k X.A)(ha:AL X (e::es) d)(hl:∀τ S as S',d τ S=.ok as S'->as.length=ps.length)(hg:Gl X x<|>ε)(Z:(x == ("__debug__" : Str))=false<|>δ)
  (hs:starEach (e::es) X.env=(false,eval e X.env)::starEach es X.env<|>ε) (U:((backTo pos<|starEach es X.env).any (·.1)=false)<|>ε):AE X (.Call (.Name x p) (e::es) [] pos) (nZ F d):=by
 obtain⟨f,fd,L,N,J,m⟩:=G;refine PE.imp (CA L hr hg N J m .nil (v8 (X:=X) rfl rfl) ha Z hs U) λσ H Q h9=>?_;room;refine⟨ρ,S,τ,R,r,?_⟩;have j:=gu h
 cases hd:d τ S with
 | no=>rw[hd]at j;exact j
 | ex c S1=>rw[hd]at j;exact j
 | ok as S1=>
  rw[hd]at j;intro ρ1 H1 O e1 R1 v1;rw[bX];refine⟨by rw[<- v1.length];exact hl τ S as S1 hd,ρ1,S1,as,R1,v1,iY j (λa B q g H2 v e2=>q g H2 v<|e1.trans e2) λc B q C g H2 n e2=>q C g H2 n<|e1.trans e2⟩
end
abbrev Mx:bd:=[.type "ValueError",.type "Exception",.type "BaseException",.type "object"]
def Gn{K:au}{mg:Str->bi}{base:ak}{x:Str}{C:aj}(M:Mod K mg base)(e:w_ K x C)(q:PySem.W.excIn K C bmB newId=true):OwnCls x C bmB newId mg base:=by
 refine⟨bT M.kin M.glob e,?_⟩;unfold PySem.W.excIn at q;split at q
 ·rename_i dd cd g L;split at q
  ·rename_i P bm k0 k1 k2 k3 O k5 m hs;rw[cg,cg,cg,cg,cg]at q;obtain⟨⟨⟨⟨⟨B,f⟩,d⟩,J⟩,F⟩,j⟩:=q;have B:=dN.mp B;have f:=dN.mp f;have d:cd.hasDel=false:=by simpa using d
   have j:=dN.mp j;subst B f;obtain⟨nm,bs,k,N,G,hd,sn,sub,ab,col,p⟩:=cd;have m:k=_:=m;have d:p=false:=d;subst m d;obtain⟨g⟩:=g;have hs:g=_:=hs;subst hs;exact⟨bm,N,nm,G,bs,hd,sn,sub,ab,col,dd,k0,k1,k2,k3,k5,_,M.kin _ _ L,.of_isNs<|PySem.W.isNs_of_in M.kin F,PySem.W.nsMap_none_of_in M.kin F j,PySem.W.tail_of_in M.kin J⟩
  ·cases q
 ·cases q
abbrev KL:List (Str ⊕ Ex)->ae->gr->R Unit
 | [],_,S=>.ok Unit.unit S
 | .inl _::ps,τ,S=>KL ps τ S
 | .inr e::ps,τ,S=>(e τ S).bind λv S1=>match v with
  | .int i=>gd (i.natAbs.log2<64) (KL ps τ S1)
  | _=>.no
abbrev LR:List (Str ⊕ Ex)->Bool
 | []=>true
 | .inl x::ps=>decide (x.length<=1000) && LR ps
 | .inr _::ps=>LR ps
abbrev mR (c:Str)(ps:List<|Str ⊕ Ex):Sm:=λτ S=>.of (KL ps τ S) λ_ S1=>.ex c S1
abbrev Qg (X:Cx):List (Str ⊕ Ex)->List (Str ⊕ TE)
 | []=>[]
 | .inl x::ps=>.inl x::Qg X ps
 | .inr e::ps=>.inr (tE X e)::Qg X ps
section
variable {X:Cx}{pos np cpos fp:Pos}{x:Str}{C:aj}{e1 e2:aE}{es:List aE}{ps:List (Str ⊕ Ex)}
theorem tP{H0:Hp}{k:Hp->Prop}(c:Str)(j:∀ρ H S,Ext ρ0 ρ H0 H->Rel X.K ρ H S->XE X ρ0 H0 c S->k H):∀(ps:List<|Str ⊕ Ex) (ρ:be) (H:Hp) (S:gr),LR ps=true->Ext ρ0 ρ H0 H->Rel X.K ρ H S->SR X.K ρ H τ σ ->
  (KL ps τ S).post (λ_ S'=>XE X ρ0 H0 c S') (XE X ρ0 H0)->vO (Qg X ps) σ H k
 | [],ρ,H,S,_,e,R,r,h=>j ρ H S e R h
 | .inl x::ps,ρ,H,S,ok,e,R,r,h=>by
  obtain⟨d,ok⟩:=Bool.and_eq_true_iff.mp ok;exact⟨dM d,tP c j ps ρ H S ok e R r h⟩
 | .inr a::ps,ρ,H,S,ok,e,R,r,h=>by
  refine⟨ρ,S,τ,R,r,?_⟩;have h:=gu h;refine iY h (λv S1 h1 ρ1 H1 u e1 R1 v1=>?_) λf S' z=>z.ext e
  cases v with
  | int i=>
   obtain⟨hi,h1⟩:=gO h1
   cases v1
   exact⟨i,rfl,hi,tP c j ps ρ1 H1 S1 ok (e.trans e1) R1 (r.ext e1) h1⟩
  | _=>exact h1.elim
def EJ(hn:w_ X.K x C)(L:PySem.W.excIn X.K C Mx "ValueError.__new__" = true)(hh:X.A.handled=none)(hp:FParts X (e1::e2::es)<|Qg X ps)(j:LR ps=true<|>ε)(hg:Gl X x<|>ε)(U:2000 * (e1::e2::es).length<=sizeLine<|>δ)
  (hs:starEach [.JoinedStr (e1::e2::es) fp] X.env=(false,eval (.JoinedStr (e1::e2::es) fp) X.env)::starEach [] X.env<|>ε) (J:((backTo cpos<|starEach [] X.env).any (·.1)=false)<|>ε) (hd:(x == ("__debug__" : Str))=false<|>δ) :
  AS X (.Raise (some<|.Call (.Name x np) [.JoinedStr (e1::e2::es) fp] [] cpos) none pos) (mR x ps):=by
 intro pins s σ H D I ⟨ρ,S,τ,R,r,h⟩;refine vJ (Gn I.mod hn L) dQ hh (j3 (RV hp U) pG hs) hg hs J hd pins s σ H D I ?_;refine tP (X:=X) (ρ0:=ρ) (H0:=H) x (λρ1 H1 S1 e1 R1 z y hy=>?_) ps ρ H S j .refl R r<|of_post h;exact⟨(show 1<=sizeLine by decide),z C ρ1 H1 hn e1 R1⟩
def j_{j tp}(hn:w_ X.K x C)(L:PySem.W.excIn X.K C Mx "ValueError.__new__" = true)(hh:X.A.handled=none)(hg:Gl X x<|>ε)
  (hs:starEach [.Constant (.str t) j tp] X.env=(false,eval (.Constant (.str t) j tp) X.env)::starEach [] X.env<|>ε) (J:((backTo cpos<|starEach [] X.env).any (·.1)=false)<|>ε) (hd:(x == ("__debug__" : Str))=false<|>δ) :
  AS X (.Raise (some<|.Call (.Name x np) [.Constant (.str t) j tp] [] cpos) none pos) (mR x []):=by
 intro pins s σ H D I ⟨ρ,S,τ,R,r,h⟩;refine vJ (Gn I.mod hn L) dQ hh (j3 Im pG hs) hg hs J hd pins s σ H D I ?_;exact⟨(show 1<=sizeLine by decide),h C ρ H hn .refl R⟩
end
abbrev KU (i:Nat):RS->RS
 | .nx τ S=>.nx (τ.set i .unb) S
 | .bk τ S=>.bk (τ.set i .unb) S
 | .ct τ S=>.ct (τ.set i .unb) S
 | .rt a S=>.rt a S
 | _=>.no
abbrev AJ (i n:Nat)(cs:ba)(c d:Sm):Sm:=λτ S=>match c τ S with
 | .ex x S1=>if x∈cs then KU i (d ((List.replicate n .unb).set i<|.exn x) S1)else .no
 | r=>r
def SR.unset{K:au}{H:Hp}{τ:ae}{σ:L2.St}(s:SR K ρ H τ σ):SR K ρ H (τ.set i .unb) (σ.set i none):=by
 refine⟨by simp[s.len],λj b e=>?_⟩;by_cases d:j=i
 ·subst d;have f:j<τ.length:=by
   have:=(aI.mp e).1;simpa using this
  rw[bu f]at e
  cases e
  exact .inl rfl
 ·rw[aT<|bM d]at e;rw[aT<|bM d];exact s.at j b e
section
variable {X:Cx}{pos np hp:Pos}{y n:Str}{Dc:aj}{i:Nat}{body suite:List aF}{b0:aF}{c d:Sm}{cs:ba}
def O7(hb:∀pn' xe',FO (X.nQ pn' xe') body c)(hh:∀pn' e oe C,XO C oe->FO (X.hand pn' e oe) (b0::suite) d)(hN:X.N.Nodup)(hD:w_ X.K y Dc)(mD:L2.mroIn X.K Dc=some Mx)(hcs:∀x∈cs,∃C,w_ X.K x C/\L2.mroIn X.K C=some (.ref Dc::Mx))
  {ln:Nat} (hln:X.N.length=ln<|>ε) (hi:X.N[i]?=some n<|>ε) (hlo:X.env.scope.names.lookup n=some .local<|>ε) (hst:X.stack=X.env::X.outer<|>ε) (hf:X.env.frame=some X.env.locals<|>ε) (hex:X.ex=[]<|>ε) (hg:Gl X y<|>ε) (hdb:(y == ("__debug__" : Str))=false<|>δ) :
  AS X (.Try body [.ExceptHandler (some<|.Name y np) (some n) (b0::suite) hp] [] [] pos) (AJ i ln cs c d):=by
 subst hln;intro pins s σ H D I ⟨ρ,S,τ,R,r,h⟩;refine wpAny_Try_except ?_;have tl:τ.length=X.N.length:=by rw[r.len];exact I.len
 have P:∀xe',(∀x S1,c τ S=.ex x S1->XE (X.nQ (X.pn++pins) xe') ρ H x S1)->kW (X.nQ (X.pn++pins) xe') ρ H D (c τ S):=λxe' L=>by
  have h:kW X ρ H D (AJ i X.N.length cs c d τ S):=h;unfold AJ at h
  cases hc:c τ S with
  | nx k p=>rw[hc]at h;exact h
  | rt a p=>rw[hc]at h;exact h
  | bk k p=>rw[hc]at h;exact h
  | ct k p=>rw[hc]at h;exact h
  | no=>rw[hc]at h;exact h
  | ex x S1=>exact L x S1 hc
 refine bY (hb (X.pn++pins) _ [] s σ H D (I.nQ _) ⟨ρ,S,τ,R,r,P _ λx S1 hc C ρ1 H1 hn e1 R1=>?_⟩) (λf s1 hs=>?_) λe s1 z=>z
 ·intro pins' g s' e U m;have h:kW X ρ H D (AJ i X.N.length cs c d τ S):=h;unfold AJ at h;rw[hc]at h;have h:kW X ρ H D (if x∈cs then KU i (d ((List.replicate X.N.length .unb).set i<|.exn x) S1)else .no):=h;by_cases L:x∈cs
  ·rw[aR L]at h;obtain⟨T,G,Y⟩:=hcs x L;have:T=C:=by
    have z:=G.symm.trans hn
    injection z with z
    injection z with z
    injection z
   subst this;have hm:X.mg y=some (.ref Dc):=bT I.mod.kin I.mod.glob hD;refine JL hst hf hex hN hi hlo hg hm mD ⋯ U m Y (by simp) (λoe s6 V O I6=>?_) I.ok hdb;obtain⟨ex,Rn⟩:=R1.im (u:=.frz oe xu) O;refine hh (X.pn++pins) e oe T V [] s6 _ _ (Uh i D) I6 ⟨ρ1,S1,(List.replicate X.N.length .unb).set i<|.exn x,Rn,SR.set ⟨?_,λj b z=>?_⟩<|.exn G g8 V,?_⟩
   ·rw[List.length_replicate];exact U.len.symm
   ·rw[ez]at z;split at z
    ·exact .inl (aQ z).symm
    ·cases z
   ·have e2:=e1.trans ex
    cases hd:d ((List.replicate X.N.length .unb).set i<|.exn x) S1 with
    | nx k p=>rw[hd]at h;exact λρ' H' g B m F=>h ρ' H' _ (e2.trans B) m F.unset
    | bk k p=>rw[hd]at h;exact λρ' H' g B m F=>h ρ' H' _ (e2.trans B) m F.unset
    | ct k p=>rw[hd]at h;exact λρ' H' g B m F=>h ρ' H' _ (e2.trans B) m F.unset
    | rt a p=>rw[hd]at h;exact λρ' H' v B m F=>h ρ' H' v (e2.trans B) m F
    | ex _ _=>rw[hd]at h;exact h.elim
    | no=>rw[hd]at h;exact h.elim
  ·rw[aO L]at h;exact h.elim
 ·cases f with
  | next=>obtain⟨g,H',J,q⟩:=hs;exact d8 ⟨g,H',J.yh,q⟩
  | brk=>obtain⟨g,H',J,q⟩:=hs;exact⟨g,H',J.yh,q⟩
  | cont=>obtain⟨g,H',J,q⟩:=hs;exact⟨g,H',J.yh,q⟩
  | ret u=>obtain⟨v,g,H',J,Z,q⟩:=hs;exact⟨v,g,H',J.yh,Z,q⟩
end
abbrev Ak (f:Str->bo)(c:Ex):Ex:=λτ S=>(c τ S).bind λv S1=>match v with
 | .exn x=>opt (f x) λb=>.ok (.bl b) S1
 | _=>.no
section
variable {X:Cx}{pos p py:Pos}{a:aE}{y:Str}{vy:V}{cy:aa}{f:Str->bo}{c:Ex}
def H_(ry:∀u,RelV vy u->u=cy)(hf:∀x b C,f x=some b->w_ X.K x C->XCls X.K C/\(PySem.W.clsIn X.K C).isSome=true/\PySem.W.kitOne X.K (.ref C) cy=some b) :
  g6 X (.builtin "isinstance") (λxs H Q=>∃ρ S x v b,Rel X.K ρ H S/\xs=[v,vy]/\AV X.K ρ H (.exn x) v/\f x=some b/\Q (.bl b) H):=by
 intro pins s σ H xs us Q I r ⟨ρ,S,x,v,b,R,d,va,g,q⟩;subst d;obtain⟨u,p,rfl,r1,r2⟩:=vals2 r;have:=ry _ r2;subst this
 cases va with
 | exn n h k=>
  obtain⟨m,g2,j⟩:=hf _ _ _ g n
  cases(show u=Value.ref _ from r1)
  exact Bp m g2 I h k j λtk=>⟨.bl b,H,I.tok tk,rfl,q⟩
def P_(hy:PE X (.Name y py)<|tC vy)(ry:∀u,RelV vy u->u=cy)(hf:∀x b C,f x=some b->w_ X.K x C->XCls X.K C/\(PySem.W.clsIn X.K C).isSome=true/\PySem.W.kitOne X.K (.ref C) cy=some b)(U:AE X a c)(Z:X.mg "isinstance" = none)(hg:Gl X "isinstance"<|>ε)
  (L:starEach [a,.Name y py] X.env=(false,eval a X.env)::starEach [.Name y py] X.env<|>ε) (j:starEach [.Name y py] X.env=(false,eval (.Name y py) X.env)::starEach [] X.env<|>ε) (J:((backTo pos<|starEach [.Name y py] X.env).any (·.1)=false)<|>ε) :
  AE X (.Call (.Name "isinstance" p) [a,.Name y py] [] pos) (Ak f c):=
 PE.imp (Aa (H_ ry hf) hg Z jF (j3 U (j3 hy pG j) L) ⋯ ⋯ L J) λσ H Q h9=>by
  room;refine⟨ρ,S,τ,R,r,gq (gu h) .refl λv S1 h1 ρ1 H1 x e1 R1 v1=>?_⟩
  cases v with
  | exn n=>
   obtain⟨b,d,h1⟩:=gD h1;exact⟨ρ1,S1,n,x,b,R1,rfl,v1,d,h1 ρ1 H1 _ e1 R1<|.bl b⟩
  | _=>exact h1.elim
end
structure ExcK (K:au)(U:aj)(c:Str)(C:aj):Prop where
 n:w_ K c C
 q:PySem.W.excIn K C Mx "ValueError.__new__" = true
 r:L2.mroIn K C=some (.ref U::Mx)
 x:XCls K C
 cl:(PySem.W.clsIn K C).isSome=true
 v:PySem.W.kitOne K (.ref C) (.type "ValueError")=some true
abbrev Mp (tb:List<|Str×Bool):Str->bo:=λx=>tb.lookup x
def RX{K:au}{tb:List<|Str×Bool}(h:∀p∈tb,∃C,w_ K p.1 C/\XCls K C/\(PySem.W.clsIn K C).isSome=true/\PySem.W.kitOne K (.ref C) cy=some p.2):∀x b C,Mp tb x=some b->w_ K x C->XCls K C/\(PySem.W.clsIn K C).isSome=true/\PySem.W.kitOne K (.ref C) cy=some b:=λx b C e n=>by
 obtain⟨d,f,g⟩:=h (x,b)<|bV e;have:d=C:=by
  have z:=f.symm.trans n
  injection z with z
  injection z with z
  injection z
 subst this;exact g
section
variable {X:Cx}{pos p py:Pos}{a:aE}{y:Str}{Cy:aj}{tb:List (Str×Bool)}{c:Ex}
def Pd(Z:X.mg y=some (.ref Cy))(h:∀p∈tb,∃C,w_ X.K p.1 C/\XCls X.K C/\(PySem.W.clsIn X.K C).isSome=true/\PySem.W.kitOne X.K (.ref C) (.ref Cy)=some p.2)(ha:AE X a c)(hi:X.mg "isinstance" = none)(hg:Gl X "isinstance"<|>ε)(j:Gl X y<|>ε)(J:(y == ("__debug__" : Str))=false<|>δ)
  (he:starEach [a,.Name y py] X.env=(false,eval a X.env)::starEach [.Name y py] X.env<|>ε) (L:starEach [.Name y py] X.env=(false,eval (.Name y py) X.env)::starEach [] X.env<|>ε) (U:((backTo pos<|starEach [.Name y py] X.env).any (·.1)=false)<|>ε) :
  AE X (.Call (.Name "isinstance" p) [a,.Name y py] [] pos) (Ak (Mp tb) c):=P_ (vy:=.ref Cy) (cy:=.ref Cy) (qf j Z rfl J) (λu r=>r) (RX h) ha hi hg he L U
end
abbrev QL (F:ae->gr->R A)(d:lq):Ex:=λτ S=>match d τ S with
 | .ok as S1=>F as S1
 | _=>.no
section
variable {d:lq}
abbrev RA (t:Te)(c d:Sm):Sm:=λτ S=>match t τ S with
 | .ok true S1=>c τ S1
 | .ok false S1=>d τ S1
 | _=>.no
end
abbrev Ng (i:Nat)(cs:ba)(c d:Sm):Sm:=λτ S=>match c τ S with
 | .ex x S1=>if x∈cs then KU i (d (τ.set i<|.exn x) S1)else .no
 | r=>r
abbrev Ov:Sm:=λ_ _=>.no
def Be{st:aF}:AS X st Ov:=PS.imp Ky λD σ H ⟨ρ,S,τ,R,r,h⟩=>h.elim
def EI{K:au}{H:Hp}{a:aj}{ns:am}{F:ae->gr->R A}(j:LC H)(J:jM K H a<|ns.map V.int)(h:∃S',F [.frz<|ns.map .int] []=.ok (.bl true) S'):su K 1 F [.ref a] H (λv _=>v=.bl true) λ_ _ _=>False:=by
 obtain⟨S',h⟩:=h;have fz:Fz K H a (ns.map V.int):=by
  rcases J with(h|⟨o,h⟩)|h
  ·rcases j a with z|⟨ob,xs,z⟩
   ·rw[h]at z;cases z
   ·rw[h]at z;cases z
  ·exact .inl ⟨o,h⟩
  ·exact .inr h
 exact⟨rfl,[],[],_,_,S',⟨rfl,List.nodup_nil,λn a o h=>by simp at h⟩,.cons (.frz fz<|pL ns) .nil,h,λρ' H' v _ _ hv=>vG hv⟩
def EY{P:bd->Prop}(h:∀a0,P [a0]):∀us:bd,us.length=1->P us
 | [_],_=>h _
def BX{P:bd->Prop}(h:∀a0 a1,P [a0,a1]):∀us:bd,us.length=2->P us
 | [_,_],_=>h _ _
def Pk{n:Nat}{us:bd}(h:us.length=n+1):∃a t,us=a::t/\t.length=n:=by
 cases us with
 | nil=>simp at h
 | cons a t=>exact⟨a,t,rfl,by simpa using h⟩
def SG{P:bd->Prop}(h:∀a0 a1 a2,P [a0,a1,a2]):∀us:bd,us.length=3->P us:=λus e=>by
 obtain⟨a0,g,rfl,e0⟩:=Pk e;obtain⟨a1,f,rfl,e1⟩:=Pk e0;obtain⟨a2,d,rfl,e2⟩:=Pk e1
 cases List.length_eq_zero_iff.mp e2
 exact h _ _ _
end Am
namespace Am
open PySem L2
section
variable {α β:Type}{a b:A}{S S1:gr}{τ:ae}{x:α}
@[simp]def R.iP {f:α->gr->R β}:(R.ok x S).bind f=f x S:=rfl
@[simp]def R.DL {f:α->gr->R β}{c:Str}:(R.ex c S:R α).bind f=.ex c S:=rfl
@[simp]def R.jS {f:α->gr->R β}:(R.ok x S).qG f=f x S:=rfl
@[simp]def RS.of_ok {f:α->gr->RS}:RS.of (R.ok x S) f=f x S:=rfl
@[simp]def RS.Nl {f:α->gr->RS}{c:Str}:RS.of (R.ex c S:R α) f=.ex c S:=rfl
@[simp]def gH {f:β->R α}{y:β}:opt (some y) f=f y:=rfl
@[simp]def Dl {r:R α}:gd True r=r:=aR trivial
theorem jo{c:Prop}[Decidable c]{r:R α}(h:c):gd c r=r:=aR h
@[simp]def kZ {i:Nat}:gi i τ S=bif (τ.getD i .unb).i9 then .no else .ok (τ.getD i .unb) S:=by unfold gi;cases(τ.getD i .unb).i9<;>rfl
@[simp]def Er {xs:ae}:A.i9 (.tup xs)=false:=rfl
@[simp]def DJ {xs:ae}:A.i9 (.frz xs)=false:=rfl
@[simp]def CZ {i:Int}:A.i9 (.int i)=false:=rfl
@[simp]def G_ {i:Bool}:A.i9 (.bl i)=false:=rfl
@[simp]def CU {i:Str}:A.i9 (.str i)=false:=rfl
@[simp]def Dh {i:Nat}:A.i9 (.ref i)=false:=rfl
@[simp]def CY:A.i9 .non=false:=rfl
@[simp]def EF {i j:Int}:A.i9 (.rng i j)=false:=rfl
@[simp]def Em {c:Str}:A.i9 (.exn c)=false:=rfl
@[simp]def Nh:eC a τ S=.ok a S:=rfl
abbrev Rx (f:A->A->gr->R A)(j:Ex)(τ:ae)(a:A)(S:gr):R A:=(j τ S).bind<|f a
@[simp]def Eh {f:A->A->gr->R A}{j:Ex}:Rx f j τ a S=(j τ S).bind (f a):=rfl
@[simp]def C_ {f:A->A->gr->R A}{ca j:Ex}:gB f ca j τ S=(ca τ S).bind (Rx f j τ):=rfl
@[simp]def Gw {f:A->gr->R A}{ca:Ex}:BI f ca τ S=(ca τ S).bind f:=rfl
@[simp]def CG {c:Ex}:sC c τ S=(c τ S).bind λa S1=>opt (a.ON S1) λb=>.ok b S1:=rfl
abbrev aB (a:A)(S:gr):R Bool:=match a with
 | .bl b=>.ok b S
 | _=>.no
@[simp]def Nb {b:Bool}:aB (.bl b) S=.ok b S:=rfl
@[simp]def Ja {c:Ex}:kh c τ S=(c τ S).bind aB:=rfl
@[simp]def Dr {c:Te}:tX c τ S=(c τ S).bind λb S1=>.ok (!b) S1:=rfl
abbrev NR (d:Te)(τ:ae)(b:Bool)(S:gr):R Bool:=match b with|true=>d τ S|false=>.ok false S
abbrev Ua (d:Te)(τ:ae)(b:Bool)(S:gr):R Bool:=match b with|true=>.ok true S|false=>d τ S
@[simp]def JI {d:Te}:NR d τ true S=d τ S:=rfl
@[simp]def Gz {d:Te}:NR d τ false S=.ok false S:=rfl
@[simp]def MZ {d:Te}:Ua d τ true S=.ok true S:=rfl
@[simp]def M6 {d:Te}:Ua d τ false S=d τ S:=rfl
@[simp]def D0 {c d:Te}:qp c d τ S=(c τ S).bind (NR d τ):=rfl
@[simp]def Jp {c d:Te}:M9 c d τ S=(c τ S).bind (Ua d τ):=rfl
@[simp]def C4:kG τ S=.ok true S:=rfl
abbrev Jf (d:Ex)(τ:ae)(a:A)(S:gr):R A:=match a with | .bl true=>d τ S | .bl false=>.ok (.bl false) S|_=>.no
abbrev OY (d:Ex)(τ:ae)(a:A)(S:gr):R A:=match a with | .bl true=>.ok (.bl true) S | .bl false=>d τ S|_=>.no
@[simp]def C1 {d:Ex}:Jf d τ (.bl true) S=d τ S:=rfl
@[simp]def Eo {d:Ex}:Jf d τ (.bl false) S=.ok (.bl false) S:=rfl
@[simp]def Ko {d:Ex}:OY d τ (.bl true) S=.ok (.bl true) S:=rfl
@[simp]def I0 {d:Ex}:OY d τ (.bl false) S=d τ S:=rfl
@[simp]def DH {c d:Ex}:AN c d τ S=(c τ S).bind (Jf d τ):=by
 unfold AN
 cases c τ S with
 | ok a S1=>cases a<;>first|rfl|(rename_i b;cases b<;>rfl)
 | _=>rfl
@[simp]def Iq {c d:Ex}:UU c d τ S=(c τ S).bind (OY d τ):=by
 unfold UU
 cases c τ S with
 | ok a S1=>cases a<;>first|rfl|(rename_i b;cases b<;>rfl)
 | _=>rfl
abbrev MN (a:A)(S:gr):R A:=match a with | .bl b=>.ok (.bl !b) S|_=>.no
@[simp]def AH {b:Bool}:MN (.bl b) S=.ok (.bl !b) S:=rfl
@[simp]def Dq {c:Ex}:NC c τ S=(c τ S).bind MN:=rfl
abbrev OQ (c d:Ex)(τ:ae)(b:Bool)(S:gr):R A:=match b with|true=>c τ S|false=>d τ S
@[simp]def Kw {c d:Ex}:OQ c d τ true S=c τ S:=rfl
@[simp]def Gq {c d:Ex}:OQ c d τ false S=d τ S:=rfl
@[simp]def Ju {t:Te}{c d:Ex}:Qj t c d τ S=(t τ S).bind (OQ c d τ):=rfl
@[simp]def CQ:gv τ S=.ok [] S:=rfl
abbrev Bv (a:A)(as:ae)(S:gr):R (ae):=.ok (a::as) S
abbrev MH (d:lq)(τ:ae)(a:A)(S:gr):R (ae):=(d τ S).bind<|Bv a
@[simp]def yg {as:ae}:Bv a as S=.ok (a::as) S:=rfl
@[simp]def Bc {d:lq}:MH d τ a S=(d τ S).bind (Bv a):=rfl
@[simp]def AQ {c:Ex}{d:lq}:gj c d τ S=(c τ S).bind (MH d τ):=rfl
@[simp]def CF {d:lq}:oX d τ S=(d τ S).bind λas S1=>gd (as.length<=sizeLine) (.ok (.tup as) S1):=rfl
@[simp]def Dm {d:lq}:mG d τ S=(d τ S).bind newL:=rfl
theorem jC{as:ae}(h:as.length<=16777216):newL as S=.ok (.ref S.length) (S++[.lst as]):=jo<|by rw[bH];exact h
@[simp]def A3 {f:ae->gr->R A}{d:lq}:gP f d τ S=(d τ S).bind f:=rfl
abbrev Tq (r:R A):R A:=match r with
 | .ok a S=>.ok a S
 | _=>.no
@[simp]def GG:Tq (.ok a S)=.ok a S:=rfl
abbrev UM (f:ae->gr->R A)(as:ae)(S:gr):R A:=Tq<|f as S
@[simp]def JB {f:ae->gr->R A}{as:ae}:UM f as S=Tq (f as S):=rfl
@[simp]def HH {f:ae->gr->R A}{d:lq}:eFn f d τ S=(d τ S).bind (UM f):=rfl
@[simp]def Nu {g:A->gr->R A}:f1 g [a] S=g a S:=rfl
@[simp]def MR {g:A->A->gr->R A}:f2 g [a,b] S=g a b S:=rfl
abbrev NB (h:Pt)(τ:ae)(a:A)(l:bj)(S:gr):R A:=(h τ S).bind<|Rb a l
abbrev US (l h:Pt)(τ:ae)(a:A)(S:gr):R A:=(l τ S).bind<|NB h τ a
@[simp]def Cz {h:Pt}{l:bj}:NB h τ a l S=(h τ S).bind (Rb a l):=rfl
@[simp]def Ij {l h:Pt}:US l h τ a S=(l τ S).bind (NB h τ a):=rfl
@[simp]def Gi {c:Ex}{l h:Pt}:zE c l h τ S=(c τ S).bind (US l h τ):=rfl
@[simp]def AZ:j6 τ S=.ok none S:=rfl
abbrev UJ (a:A)(S:gr):R (bj):=match a with
 | .int i=>.ok (some i) S
 | _=>.no
@[simp]def CT {i:Int}:UJ (.int i) S=.ok (some i) S:=rfl
@[simp]def zG {c:Ex}:j7 c τ S=(c τ S).bind UJ:=rfl
abbrev OZ (f:A->ae->gr->R A)(d:lq)(τ:ae)(o:A)(S:gr)(_:ae):R A:=(d τ S).bind<|f o
abbrev Us (f:A->ae->gr->R A)(d:lq)(τ:ae)(o:A)(S:gr):R A:=opt (o.lst? S)<|OZ f d τ o S
@[simp]def C9 {f:A->ae->gr->R A}{d:lq}{xs:ae}:OZ f d τ a S xs=(d τ S).bind (f a):=rfl
@[simp]def J7 {f:A->ae->gr->R A}{d:lq}:Us f d τ a S=opt (a.lst? S) (OZ f d τ a S):=rfl
@[simp]def Ie {f:A->ae->gr->R A}{c:Ex}{d:lq}:Ql f c d τ S=(c τ S).bind (Us f d τ):=rfl
@[simp]def Ej {f:A->ae->gr->R A}{c:Ex}:Ly f c τ S=(c τ S).bind λo S1=>opt (o.lst? S1) λ_=>f o [] S1:=rfl
@[simp]def lst?_ref {n:Nat}:A.lst? S (.ref n)=gn S n:=rfl
abbrev RS.seq (r:RS)(d:Sm):RS:=match r with
 | .nx τ S=>d τ S
 | r=>r
@[simp]def RS.F_ {d:Sm}:RS.seq (.nx τ S) d=d τ S:=rfl
@[simp]def RS.GD {d:Sm}:RS.seq (.rt a S) d=.rt a S:=rfl
@[simp]def RS.Jt {d:Sm}{c:Str}:RS.seq (.ex c S) d=.ex c S:=rfl
@[simp]def RS.Kc {d:Sm}:RS.seq (.bk τ S) d=.bk τ S:=rfl
@[simp]def RS.IP {d:Sm}:RS.seq (.ct τ S) d=.ct τ S:=rfl
@[simp]def Ey {c d:Sm}:gM c d τ S=RS.seq (c τ S) d:=by unfold gM RS.seq;cases c τ S<;>rfl
@[simp]def C3:i8 τ S=.nx τ S:=rfl
@[simp]def xV:PZ τ S=.bk τ S:=rfl
@[simp]def zJ:QN τ S=.ct τ S:=rfl
@[simp]def Ab {e:Ex}:qF e τ S=RS.of (e τ S) λ_ S1=>.nx τ S1:=rfl
@[simp]def DU {e:Ex}:ie e τ S=RS.of (e τ S) .rt:=rfl
@[simp]def Av:Q7 τ S=.rt .non S:=rfl
abbrev Sl (c d:Sm)(τ:ae)(b:Bool)(S:gr):RS:=match b with|true=>c τ S|false=>d τ S
@[simp]def MS {c d:Sm}:Sl c d τ true S=c τ S:=rfl
@[simp]def MA {c d:Sm}:Sl c d τ false S=d τ S:=rfl
@[simp]def Jo {t:Te}{c d:Sm}:nM t c d τ S=RS.of (t τ S) (Sl c d τ):=rfl
abbrev QI (g:Tg)(τ:ae)(a:A)(S:gr):RS:=RS.of (g a τ S) .nx
@[simp]def DB {g:Tg}:QI g τ a S=RS.of (g a τ S) .nx:=rfl
@[simp]def Dg {e:Ex}{g:Tg}:ir e g τ S=RS.of (e τ S) (QI g τ):=rfl
@[simp]def SK {i:Nat}:iC i a τ S=.ok (τ.set i a) S:=rfl
abbrev Qa (a o:A)(τ:ae)(i:A)(S:gr):R (ae):=(yM o i a S).bind λ_ d=>.ok τ d
abbrev U1 (j:Ex)(τ:ae)(a o:A)(S:gr):R (ae):=(j τ S).bind<|Qa a o τ
@[simp]def D9 {o i:A}:Qa a o τ i S=(yM o i a S).bind λ_ S3=>.ok τ S3:=rfl
@[simp]def JS {j:Ex}{o:A}:U1 j τ a o S=(j τ S).bind (Qa a o τ):=rfl
@[simp]def GV {co j:Ex}:JO co j a τ S=(co τ S).bind (U1 j τ a):=rfl
@[simp]def Ht {n:Nat}{gs:KA}{xs:ae}:HV n gs (.tup xs) τ S=gd (xs.length=n) (gs xs τ S):=rfl
@[simp]def F2:HC [] τ S=.ok τ S:=rfl
@[simp]def Gy {g:Tg}{gs:KA}{as:ae}:yp g gs (a::as) τ S=(g a τ S).bind (gs as):=rfl
abbrev UB (i j:Nat)(τ:ae)(as:ae)(S:gr):RS:=match as with
 | [a,b]=>.nx ((τ.set i a).set j b) S
 | _=>.no
@[simp]def Gx {i j:Nat}:UB i j τ [a,b] S=.nx ((τ.set i a).set j b) S:=rfl
@[simp]def CO {i j:Nat}{c:lq}:Ub i j c τ S=RS.of (c τ S) (UB i j τ):=rfl
abbrev HU (i:Nat)(τ:ae)(c:A)(S:gr):RS:=.nx (τ.set i c) S
abbrev Sb (i:Nat)(f:A->A->gr->R A)(τ:ae)(b:A)(S:gr):RS:=.of (f (τ.getD i .unb) b S)<|HU i τ
@[simp]def AB {i:Nat}:HU i τ a S=.nx (τ.set i a) S:=rfl
@[simp]def Dz {i:Nat}{f:A->A->gr->R A}:Sb i f τ a S=.of (f (τ.getD i .unb) a S) (HU i τ):=rfl
@[simp]def Ei {i:Nat}{f:A->A->gr->R A}{e:Ex}:Qt i f e τ S=bif (τ.getD i .unb).i9 then .no else .of (e τ S) (Sb i f τ):=by
 unfold Qt;cases(τ.getD i .unb).i9<;>rfl
abbrev Tc (o i:A)(τ:ae)(z:A)(S:gr):RS:=.of (yM o i z S) λ_ d=>.nx τ d
abbrev SV (f:A->A->gr->R A)(o i x:A)(τ:ae)(y:A)(S:gr):RS:=.of (f x y S)<|Tc o i τ
abbrev Uk (j:Ex)(f:A->A->gr->R A)(o i:A)(τ:ae)(x:A)(S:gr):RS:=.of (j τ S)<|SV f o i x τ
abbrev Ue (j:Ex)(f:A->A->gr->R A)(o:A)(τ:ae)(i:A)(S:gr):RS:=.of (KW o i S)<|Uk j f o i τ
abbrev U6 (j J:Ex)(f:A->A->gr->R A)(τ:ae)(o:A)(S:gr):RS:=.of (j τ S)<|Ue J f o τ
@[simp]def G4 {o i:A}:Tc o i τ a S=.of (yM o i a S) λ_ S6=>.nx τ S6:=rfl
@[simp]def JE {f:A->A->gr->R A}{o i x:A}:SV f o i x τ a S=.of (f x a S) (Tc o i τ):=rfl
@[simp]def Iu {j:Ex}{f:A->A->gr->R A}{o i:A}:Uk j f o i τ a S=.of (j τ S) (SV f o i a τ):=rfl
@[simp]def JV {j:Ex}{f:A->A->gr->R A}{o:A}:Ue j f o τ a S=.of (KW o a S) (Uk j f o a τ):=rfl
@[simp]def HZ {j J:Ex}{f:A->A->gr->R A}:U6 j J f τ a S=.of (j τ S) (Ue J f a τ):=rfl
@[simp]def AA {co j J:Ex}{f:A->A->gr->R A}:Q5 co j J f τ S=RS.of (co τ S) (U6 j J f τ):=rfl
abbrev RS.end (r:RS):R A:=match r with
 | .rt a d=>.ok a d
 | .nx _ d=>.ok .non d
 | .ex c d=>.ex c d
 | _=>.no
@[simp]def RS.HE:RS.end (.rt a S)=.ok a S:=rfl
@[simp]def RS.Ig:RS.end (.nx τ S)=.ok .non S:=rfl
@[simp]def RS.J9 {c:Str}:RS.end (.ex c S)=.ex c S:=rfl
theorem vp {N:ba}{m:Sm}{as:ae}:jc N m as S=RS.end (m (as++List.replicate (N.length-as.length) .unb) S):=by
 unfold jc RS.end;cases m (as++List.replicate (N.length-as.length) .unb) S<;>rfl
@[simp]def HA {i j:Int}:iF (.int i) (.int j) S=.ok (.int<|i+j) S:=rfl
@[simp]def Ji {i j:Int}:aSub (.int i) (.int j) S=.ok (.int<|i-j) S:=rfl
@[simp]def Ge {i j:Int}:TX (.int i) (.int j) S=.ok (.int<|i+j) S:=rfl
theorem Du{i j:Int}(h:-18446744073709551616<i)(h':i<18446744073709551616):p6 (.int i) (.int j) S=.ok (.int<|i * j) S:=jo<|by unfold AX;simp;left;exact⟨by omega,by omega⟩
def mul_r{i j:Int}(h:-18446744073709551616<j)(h':j<18446744073709551616):p6 (.int i) (.int j) S=.ok (.int<|i * j) S:=jo<|by unfold AX;simp;right;exact⟨(),()⟩
def yC{i j:Int}(h:0<j)(h':j<1073741824):wm (.int i) (.int j) S=.ok (.int<|i / j) S:=jo ⟨h,()⟩
def v_{i j:Int}(h:0<j):sF (.int i) (.int j) S=.ok (.int<|i % j) S:=jo h
@[simp]def MU {i j:Int}:Qh (.int i) (.int j) S=.ok (.bl<|decide<|i<j) S:=rfl
@[simp]def Na {i j:Int}:FH (.int i) (.int j) S=.ok (.bl<|decide<|i<=j) S:=rfl
@[simp]def MX {i j:Int}:Bg (.int i) (.int j) S=.ok (.bl<|decide<|j<i) S:=rfl
@[simp]def Nm {i j:Int}:OX (.int i) (.int j) S=.ok (.bl<|decide<|j<=i) S:=rfl
@[simp]def Np {i j:Bool}:BD false (.bl i) (.bl j) S=.ok (.bl<|i == j) S:=rfl
@[simp]def Jc {i j:Bool}:BD true (.bl i) (.bl j) S=.ok (.bl<|i != j) S:=rfl
@[simp]def JQ {i:Int}:vV (.int i) S=.ok (.int<|-i) S:=rfl
@[simp]def II {xs:ae}:jf (.tup xs) S=.ok (.int xs.length) S:=rfl
@[simp]def JG {xs:ae}:jf (.frz xs) S=.ok (.int xs.length) S:=rfl
@[simp]def G3 {n:Nat}:jf (.ref n) S=opt (gn S n) λxs=>.ok (.int xs.length) S:=rfl
@[simp]def Gs {i:Int}:Pq (.int i) S=.ok (.int<|if i<0 then -i else i) S:=rfl
@[simp]def DA {i j:Int}:DR (.int i) (.int j) S=.ok (.int<|if j>i then j else i) S:=rfl
@[simp]def CJ {i j:Int}:CP (.int i) (.int j) S=.ok (.int<|if j<i then j else i) S:=rfl
@[simp]def Ct {i:Int}:wG (.int i) S=.ok (.int i) S:=rfl
@[simp]def Ed {i:Bool}:wG (.bl i) S=.ok (.int<|if i then 1 else 0) S:=rfl
@[simp]def xQ {i j:Int}:sL (.int i) (.int j) S=.ok (.rng i j) S:=rfl
@[simp]def M7 {xs:ae}{i:Int}:jq (.tup xs) (.int i) S=opt (lH xs i) λx=>.ok x S:=rfl
@[simp]def MG {xs:ae}{i:Int}:jq (.frz xs) (.int i) S=opt (lH xs i) λx=>.ok x S:=rfl
@[simp]def Nd {n:Nat}{i:Int}:jq (.ref n) (.int i) S=opt (gn S n) λxs=>opt (lH xs i) λx=>.ok x S:=rfl
@[simp]def IJ {n:Nat}{k:Int}:yM (.ref n) (.int k) a S=opt (gn S n) λxs=>opt (ve xs.length k) λj=>.ok Unit.unit (S.set n<|.lst<|xs.set j a):=rfl
@[simp]def Kh {n:Nat}{i:Int}:KW (.ref n) (.int i) S=opt (gn S n) λxs=>gd (0<=i) (opt (xs[i.toNat]?) λx=>.ok x S):=rfl
theorem uq{i j:Int}(h:yr i j):pM (.rng i j) S=.ok (.ref S.length) (S++[.lst<|(iV i j).map .int]):=jo h
@[simp]def EA {xs:ae}:pM (.tup xs) S=.ok (.ref S.length) (S++[.lst xs]):=rfl
@[simp]def Eb {xs:ae}:pM (.frz xs) S=.ok (.ref S.length) (S++[.lst xs]):=rfl
@[simp]def D7 {n:Nat}:pM (.ref n) S=opt (gn S n) λxs=>.ok (.ref S.length) (S++[.lst xs]):=rfl
@[simp]def AD {xs:ae}:mK (.tup xs) S=.ok (.tup xs) S:=rfl
@[simp]def A6 {n:Nat}:mK (.ref n) S=opt (gn S n) λxs=>.ok (.tup xs) S:=rfl
@[simp]def JN {xs:ae}:HR (.tup xs) S=.ok (.tup xs.reverse) S:=rfl
@[simp]def HJ {n:Nat}:HR (.ref n) S=opt (gn S n) λxs=>.ok (.ref S.length) (S++[.lst xs.reverse]):=rfl
@[simp]def MD {n:Nat}{l u:bj}:Rb (.ref n) l u S=opt (gn S n) λxs=>.ok (.ref S.length) (S++[.lst<|mQ xs l u]):=rfl
@[simp]def wX {n:Nat}:oK (.ref n) [a] S=opt (gn S n) λxs=>gd (xs.length<sizeLine) (.ok .non<|S.set n<|.lst<|xs++[a]):=rfl
@[simp]def Jy {b:Bool}:A.ON (.bl b) S=some b:=rfl
@[simp]def C7 {i:Int}:A.ON (.int i) S=some (i != 0):=rfl
theorem Pp{o:O}:(S++[o])[S.length]?=some o:=by simp
@[simp]def gK {xs:ae}:gn (S++[.lst xs]) S.length=some xs:=mP Pp
theorem jL{o:O}{n:Nat}(h:gn S n=some xs):gn (S++[o]) n=some xs:=by
 have h':=gF h;exact mP<|by rw[aS (aI.mp h').1];exact h'
def iA{n:Nat}(h:gn S n=some xs):n<S.length:=(aI.mp<|gF h).1
def jy{n:Nat}(h:n<S.length):gn (S.set n<|.lst ys) n=some ys:=mP<|bu h
def lK{n m:Nat}(h:n≠m):gn (S.set n<|.lst ys) m=gn S m:=by unfold gn;rw[aT h]
def BF{xs:ae}{i:Int}{k:Nat}{x:A}(h:i=k)(j:xs[k]?=some x):lH xs i=some x:=by rw[h];exact LJ j
def oH{n:Nat}{i:Int}{k:Nat}(h:i=k)(j:k<n):ve n i=some k:=by
 subst h;unfold ve;rw[aR (),aR ()];simp
end
structure Kp (b:Nat->Prop)(S S':gr):Prop where
 len:S.length<=S'.length
 obj:∀(n:Nat) (o:O),¬b n->S[n]?=some o->S'[n]?=some o
meta abbrev iX:=Kp λ_=>False
def Kp.lst{b:Nat->Prop}(h:Kp b S S')(n:Nat)(xs:ae)(hb:¬b n)(e:gn S n=some xs):gn S' n=some xs:=mP<|h.obj n _ hb<|gF e
def Kp.refl{b:Nat->Prop}:Kp b S S:=⟨aJ _,λ_ _ _ h=>h⟩
def Kp.trans{b:Nat->Prop}(h:Kp b S S1)(h':Kp b S1 S2):Kp b S S2:=⟨bI h.len h'.len,λn xs d e=>h'.obj n xs d<|h.obj n xs d e⟩
def kj{S:gr}{n:Nat}{o:O}(e:S[n]?=some o):n<S.length:=(aI.mp e).1
def Kp.lay{b:Nat->Prop}{o:O}(h:Kp b S S1):Kp b S (S1++[o]):=⟨bI h.len<|by simp,λn xs d e=>by
 have:=h.obj n xs d e;rw[aS<|kj this];exact this⟩
def Kp.uZ{b:Nat->Prop}{S S1:gr}{m:Nat}{o:O}(h:Kp b S S1)(j:b m\/S.length<=m):Kp b S (S1.set m o):=⟨by rw[bx];exact h.len,λn xs d e=>by
 have:m≠n:=λz=>by
  subst z
  rcases j with z|z
  ·exact d z
  ·exact absurd (kj e) ()
 rw[aT this];exact h.obj n xs d e⟩
def Kp.set{b:Nat->Prop}{S S1:gr}{m:Nat}(h:Kp b S S1)(j:b m\/S.length<=m):Kp b S (S1.set m<|.lst ys):=h.uZ j
def Kp.mono{b c:Nat->Prop}{S:gr}(h:Kp b S S1)(hb:∀n,n<S.length->b n->c n):Kp c S S1:=⟨h.len,λn xs hc e=>h.obj n xs (λz=>hc<|hb n (kj e) z) e⟩
def Kp.of0{b:Nat->Prop}(h:iX S S1):Kp b S S1:=h.mono λ_ _ z=>z.elim
def Kp.old{b c:Nat->Prop}{S:gr}(h:Kp b S S1)(h':Kp c S1 S2)(hc:∀n,n<S.length->¬b n->¬c n):Kp b S S2:=⟨bI h.len h'.len,λn xs d e=>h'.obj n xs (hc n (kj e) d)<|h.obj n xs d e⟩
theorem vP{t:Te}{c:Sm}(Inv:ae->gr->Prop)(J:ae->gr->Nat)(j:RS->Prop)
  (h:∀τ S,Inv τ S->(∃S1,t τ S=.ok false S1/\j (.nx τ S1))\/(∃S1,t τ S=.ok true S1/\((∃τ' S',c τ S1=.nx τ' S'/\Inv τ' S'/\J τ' S'<J τ S)\/(∃a S',c τ S1=.rt a S'/\j (.rt a S'))))) :
  ∀n τ S,Inv τ S->J τ S<n->j (j4 t c n τ S)
 | 0,_,_,_,hn=>absurd hn (Nat.not_lt_zero _)
 | n+1,τ,S,hi,hn=>by
  unfold j4
  rcases h τ S hi with⟨S1,e,q⟩|⟨S1,e,⟨τ',S',e2,d,f⟩|⟨a,S',e2,q⟩⟩
  ·rw[e];exact q
  ·rw[e];show j (match c τ S1 with
    | .nx τ' S'=>j4 t c n τ' S'
    | .ct τ' S'=>j4 t c n τ' S'
    | .bk τ' S'=>.nx τ' S'
    | r=>r)
   rw[e2];exact vP Inv J j h n τ' S' d ()
  ·rw[e];show j (match c τ S1 with
    | .nx τ' S'=>j4 t c n τ' S'
    | .ct τ' S'=>j4 t c n τ' S'
    | .bk τ' S'=>.nx τ' S'
    | r=>r)
   rw[e2];exact q
theorem za{s:Src}{g:Tg}{c:Sm}(Inv:Nat->ae->gr->Prop)(j:RS->Prop)
  (step:∀i τ S,i<s.k->Inv i τ S->∃x τ1 S1,s.get i S=some x/\g x τ S=.ok τ1 S1/\((∃τ' S',c τ1 S1=.nx τ' S'/\Inv (i+1) τ' S')\/(∃a S',c τ1 S1=.rt a S'/\j (.rt a S'))))
  (fin:∀τ S,Inv s.k τ S->s.fin S=true/\j (.nx τ S)):∀k i τ S,k+i=s.k->Inv i τ S->j (mW s g c k i τ S)
 | 0,i,τ,S,hk,hi=>by
  have:i=s.k:=()
  subst this;obtain⟨hf,q⟩:=fin τ S hi;unfold mW;rw[aR hf];exact q
 | k+1,i,τ,S,hk,hi=>by
  obtain⟨x,τ1,S1,f,hg,h⟩:=step i τ S () hi;unfold mW;rw[f];show j (RS.of (g x τ S) λτ1 S1=>match c τ1 S1 with
   | .nx τ' S'=>mW s g c k (i+1) τ' S'
   | .ct τ' S'=>mW s g c k (i+1) τ' S'
   | .bk τ' S'=>.nx τ' S'
   | r=>r)
  rw[hg];show j (match c τ1 S1 with
   | .nx τ' S'=>mW s g c k (i+1) τ' S'
   | .ct τ' S'=>mW s g c k (i+1) τ' S'
   | .bk τ' S'=>.nx τ' S'
   | r=>r)
  rcases h with⟨τ',S',e,d⟩|⟨a,S',e,q⟩
  ·rw[e];exact za Inv j step fin k (i+1) τ' S' () d
  ·rw[e];exact q
def u5{lo hi:Int}{c:Sm}{src:Ic}{τ:ae}(hs:src τ S=.ok (rq lo hi) S1)(Inv:Nat->ae->gr->Prop)(J:RS->Prop)(h0:Inv 0 τ S1)
  (step:∀(i:Nat) τ S,(i:Int)<hi-lo->Inv i τ S->(∃τ' S',c (τ.set j<|.int<|lo+i) S=.nx τ' S'/\Inv (i+1) τ' S')\/(∃a S',c (τ.set j<|.int<|lo+i) S=.rt a S'/\J (.rt a S')))
  (L:∀τ S,Inv (hi-lo).toNat τ S->J (.nx τ S)):J (qu src (iC j) c τ S):=by
 unfold qu;rw[hs];refine za (s:=rq lo hi) Inv J (λi τ S d h=>?_) (λτ S h=>⟨rfl,L τ S h⟩) _ 0 τ S1 rfl h0;have d:i<(hi-lo).toNat:=d;exact⟨.int<|lo+i,_,S,aR d,rfl,step i τ S (by omega) h⟩
def Dw{n:Nat}{xs:ae}{g:Tg}{c:Sm}{src:Ic}(hs:src τ S=.ok (kB n xs.length) S1)(Inv:Nat->ae->gr->Prop)(j:RS->Prop)(h0:Inv 0 τ S1)(L:∀i τ S,Inv i τ S->gn S n=some xs)
  (step:∀(i:Nat) x τ S,xs[i]?=some x->Inv i τ S->∃τ1 S1,g x τ S=.ok τ1 S1/\((∃τ' S',c τ1 S1=.nx τ' S'/\Inv (i+1) τ' S')\/(∃a S',c τ1 S1=.rt a S'/\j (.rt a S'))))
  (J:∀τ S,Inv xs.length τ S->j (.nx τ S)):j (qu src g c τ S):=by
 unfold qu;rw[hs];refine za (s:=kB n xs.length) Inv j (λi τ S d h=>?_) (λτ S h=>⟨?_,J τ S h⟩) _ 0 τ S1 rfl h0
 ·have d:i<xs.length:=d;obtain⟨τ1,S1,e,q⟩:=step i xs[i] τ S (aL d) h;exact⟨xs[i],τ1,S1,by show(gn S n).bind _=_;rw[L i τ S h];exact aL d,e,q⟩
 ·show(match gn S n with
   | some ys=>decide (ys.length<=xs.length)
   | none=>false)=true
  rw[L _ τ S h];exact bB<|aJ _
@[simp]def vX {c:Ex}{τ:ae}{S S1:gr}{j:Int}(h:c τ S=.ok (.int j) S1)(hb:bnd j):uL c τ S=.ok (rq 0 j) S1:=by
 unfold uL;rw[h];exact jo hb
def HS{c d:Ex}{i j:Int}(h:c τ S=.ok (.int i) S1)(h':d τ S1=.ok (.int j) S2)(hb:bnd i)(J:bnd j):xO c d τ S=.ok (rq i j) S2:=by
 unfold xO;rw[h];show(d τ S1).bind _=_;rw[h'];exact jo ⟨hb,J⟩
def B_{c:Ex}(h:c τ S=.ok (.tup xs) S1):j5 c τ S=.ok (mh xs) S1:=by unfold j5;rw[h];rfl
def uw{c:Ex}{n:Nat}{xs:ae}(h:c τ S=.ok (.ref n) S1)(j:gn S1 n=some xs):j5 c τ S=.ok (kB n xs.length) S1:=by
 unfold j5;rw[h];show opt (gn S1 n) _=_;rw[j];rfl
theorem vc{s:Src}{g:Tg}{t:Te}{e:Ex}{P:gr->Prop}{T:ae->Prop}(it:Nat->A)(p:Nat->Bool)(f:Nat->A)
  (J:∀i S,i<s.k->P S->s.get i S=some (it i)) (L:∀S,P S->s.fin S=true)
  (step:∀i τ S,i<s.k->T τ->P S->∃τ1 S1 S2,g (it i) τ S=.ok τ1 S1/\t τ1 S1=.ok (p i) S2/\T τ1/\(p i=false->P S2)/\(p i=true->∃S3,e τ1 S2=.ok (f i) S3/\P S3)) :
  ∀k i τ S,k+i=s.k->T τ->P S->∃S',ng s g t e k i τ S=.ok (((List.range' i k).filter p).map f) S'/\P S'
 | 0,i,τ,S,hk,hT,hP=>⟨S,by unfold ng;rw[aR<|L S hP];rfl,hP⟩
 | k+1,i,τ,S,hk,hT,hP=>by
  obtain⟨τ1,S1,S2,hg,G,d,C,B⟩:=step i τ S (by omega) hT hP;unfold ng;rw[J i S (by omega) hP,gH,hg,R.jS,G,R.jS,dg,dW]
  cases hp:p i with
  | false=>
   obtain⟨S',h1,j⟩:=vc it p f J L step k (i+1) τ1 S2 (by omega) d<|C hp;exact⟨S',by simpa using h1,j⟩
  | true=>
   obtain⟨S3,F,m⟩:=B hp;obtain⟨S',h1,j⟩:=vc it p f J L step k (i+1) τ1 S3 (by omega) d m;refine⟨S',?_,j⟩
   skip
   rw[F,R.jS,h1];rfl
def yu{s:Src}{src:Ic}{t:Te}{e:Ex}{S1:gr}(hs:src τ S=.ok s S1)(it:Nat->A)(p:Nat->Bool)(f:Nat->A)(J:∀i,i<s.k->s.get i S1=some (it i))(L:s.fin S1=true)
  (U:∀i,i<s.k->t (it i::jv cap τ) S1=.ok (p i) S1) (Z:∀i,i<s.k->p i=true->e (it i::jv cap τ) S1=.ok (f i) S1) (hl:s.k<=16777216) :
  jX (none::cap) src (iC 0) t e τ S=.ok (.ref S1.length) (S1++[.lst<|((List.range s.k).filter p).map f]):=by
 unfold jX;rw[hs,R.iP];obtain⟨m,h1,j⟩:=vc (s:=s) (g:=iC 0) (t:=t) (e:=e) (P:=λS=>S=S1) (T:=λd=>∃y,d=y::jv cap τ) it p f (λi S hi h=>by subst h;exact J i hi) (λS h=>by subst h;exact L)
  (λi d S hi ⟨y,hy⟩ h=>by
   subst h hy;exact⟨it i::jv cap τ,S,S,rfl,U i hi,⟨_,rfl⟩,λ_=>rfl,λhp=>⟨S,Z i hi hp,rfl⟩⟩) s.k 0 (jv (none::cap) τ) S1 rfl ⟨_,rfl⟩ rfl
 subst j;rw[h1,R.jS,c9];refine jC ?_;rw[aH];refine bI (eV _ _) ?_;rw[List.length_range'];exact hl
def jB{α β:Type}(xs:List α)(p:α->Bool)(f:α->β):∀(d:α) ,(((List.range xs.length).filter λi=>p<|xs.getD i d).map λi=>f<|xs.getD i d)=(xs.filter p).map f:=by
 intro d
 induction xs with
 | nil=>rfl
 | cons x xs g=>
  rw[bq,List.range_succ_eq_map,dW,dW];have e:((List.filter (λi=>p<|(x::xs).getD i d)<|List.map Nat.succ<|List.range xs.length).map λi=>f<|(x::xs).getD i d)=(xs.filter p).map f:=by
   rw[List.filter_map,cM];rw[<- g];rfl
  show List.map _ (if p x=true then _ else _)=List.map f (if p x=true then _ else _);by_cases hp:p x=true
  ·rw[aR hp,aR hp,bf,bf,e];rfl
  ·rw[aO hp,aO hp,e]
def Je{xs:ae}{src:Ic}{t:Te}{e:Ex}{S1:gr}(hs:src τ S=.ok (mh xs) S1)(p:A->Bool)(f:A->A)
  (j:∀x∈xs,t (x::jv cap τ) S1=.ok (p x) S1) (J:∀x∈xs,p x=true->e (x::jv cap τ) S1=.ok (f x) S1) (L:xs.length<=16777216) :
  jX (none::cap) src (iC 0) t e τ S=.ok (.ref S1.length) (S1++[.lst<|(xs.filter p).map f]):=by
 have d:∀i,i<xs.length->xs.getD i .unb∈xs:=λi hi=>by
  rw[aV,aL hi];exact dX hi
 rw[yu hs (λi=>xs.getD i .unb) (λi=>p<|xs.getD i .unb) (λi=>f<|xs.getD i .unb) (λi hi=>by
  have hi:i<xs.length:=hi;show xs[i]?=_;rw[aV,aL hi];rfl) rfl (λi hi=>j _<|d i hi) (λi hi=>J _<|d i hi) L]
 have:=jB xs p f .unb;show R.ok _ (S1++[O.lst<|((List.range xs.length).filter _).map _])=_;rw[this]
def pC{xs:ae}{src:Ic}{e:Ex}{S1:gr}(hs:src τ S=.ok (mh xs) S1)(f:A->A)
  (j:∀x∈xs,e (x::jv cap τ) S1=.ok (f x) S1) (J:xs.length<=16777216) :
  jX (none::cap) src (iC 0) kG e τ S=.ok (.ref S1.length) (S1++[.lst<|xs.map f]):=by
 rw[Je hs (λ_=>true) f (λ_ _=>rfl) (λx d _=>j x d) J,fD.mpr λ_ _=>rfl]
@[simp]def GO {cap:List<|bp}{τ:ae}:jv (none::cap) τ=.unb::jv cap τ:=rfl
@[simp]def IG {cap:List<|bp}{τ:ae}{j:Nat}:jv (some j::cap) τ=τ.getD j .unb::jv cap τ:=rfl
@[simp]def zW {τ:ae}:jv [] τ=[]:=rfl
theorem Hr{x:A}:lH (x::xs) 0=some x:=BF (k:=0) rfl rfl
def Hz{x:A}:lH (x::y::xs) 1=some y:=BF (k:=1) rfl rfl
def r_{ns:am}{i:Int}{k:Nat}{x:Int}(h:i=k)(j:ns[k]?=some x):lH (ns.map A.int) i=some (.int x):=BF h<|by rw[cB,j];rfl
def yT{j:Int}(h:-4611686018427387904<=j)(h':j<4611686018427387904):bnd j:=⟨(),()⟩
def vY{i j:Int}(h1:-1000000<=i)(J:i<=1000000)(L:-1000000<=j)(U:j<=1000000)(Z:j-i<=1000):yr i j:=⟨⟨(),(),(),()⟩,()⟩
theorem ints_map:∀(ns:am),A.ints (ns.map .int)=some ns
 | []=>rfl
 | n::ns=>by show(A.ints<|ns.map .int).map (n::·)=_;rw[ints_map ns];rfl
def E7(xs:ae)(j:Nat)(h:j<xs.length):mQ xs none (some (j:Int))=xs.take j:=by
 unfold mQ;rw[HT.DM,HT.zN,f_,Nat.min_eq_left (),Nat.sub_zero]
def qo(xs:ae)(j:Nat)(h:j<xs.length):mQ xs (some<|(j:Int)+1) none=xs.drop (j+1):=by
 unfold mQ;rw[show((j:Int)+1)=((j+1:Nat):Int)by lia,HT.DM,HT.zN,Nat.min_eq_left ()];exact cQ<|by rw[dS];exact aJ _
theorem xT{n:Nat}:∀(xs ys:am),vS (xG S<|n+1) (xs.map .int) (ys.map .int)=some (decide<|xs=ys)
 | [],[]=>rfl
 | [],_::_=>rfl
 | _::_,[]=>rfl
 | x::xs,y::ys=>by
  skip
  skip
  show Option.map _ (vS (xG S<|n+1) (xs.map .int)<|ys.map .int)=_;rw[xT xs ys]
  skip
  by_cases h1:x=y<;>by_cases d:xs=ys<;>simp[h1,d]
@[simp]def MO {S:gr}{x y:Bool}:m_ false (.bl x) (.bl y) S=.ok (.bl<|x == y) S:=rfl
@[simp]def M_ {S:gr}{x y:Bool}:m_ true (.bl x) (.bl y) S=.ok (.bl<|!(x == y)) S:=rfl
@[simp]def MC {S:gr}{x y:Int}:m_ false (.int x) (.int y) S=.ok (.bl<|x == y) S:=rfl
@[simp]def Nk {S:gr}{x y:Int}:m_ true (.int x) (.int y) S=.ok (.bl<|!(x == y)) S:=rfl
@[simp]def DQ {S:gr}:BD false .non .non S=.ok (.bl true) S:=rfl
@[simp]def Eu {S:gr}{xs:ae}:BD false (.tup xs) .non S=.ok (.bl false) S:=rfl
@[simp]def C2 {S:gr}{n:Nat}:BD false (.ref n) .non S=.ok (.bl false) S:=rfl
@[simp]def Aw {S:gr}:BD true .non .non S=.ok (.bl false) S:=rfl
@[simp]def zT {S:gr}{xs:ae}:BD true (.tup xs) .non S=.ok (.bl true) S:=rfl
@[simp]def zR {S:gr}{n:Nat}:BD true (.ref n) .non S=.ok (.bl true) S:=rfl
@[simp]def Co {S:gr}{x:A}{c:String}:Fy x (.ty c) S=opt (x.kd S) λk=>opt (zP k c) λb=>.ok (.bl b) S:=rfl
@[simp]def Nc {S:gr}{b:Bool}:A.kd (.bl b) S=some .bl:=rfl
@[simp]def Io {S:gr}{b:Int}:A.kd (.int b) S=some .int:=rfl
@[simp]def IW {S:gr}{b:ae}:A.kd (.tup b) S=some .tup:=rfl
@[simp]def G0 {S:gr}:A.kd .non S=some .non:=rfl
@[simp]def GA {S:gr}{b:Str}:A.kd (.str b) S=some .str:=rfl
@[simp]def JT {S:gr}{n:Nat}:A.kd (.ref n) S=(gn S n).map λ_=>.lst:=rfl
@[simp]def G9 {S:gr}:newL [] S=.ok (.ref S.length) (S++[.lst []]):=jC<|by simp
@[simp]def Gg {S:gr}{j:A}:newL [j] S=.ok (.ref S.length) (S++[.lst [j]]):=jC<|by simp
@[simp]def F1 {S:gr}{j J:A}:newL [j,J] S=.ok (.ref S.length) (S++[.lst [j,J]]):=jC<|by simp
@[simp]def JM {S:gr}{j J L:A}:newL [j,J,L] S=.ok (.ref S.length) (S++[.lst [j,J,L]]):=jC<|by simp
@[simp]def JK {S:gr}{j J L U:A}:newL [j,J,L,U] S=.ok (.ref S.length) (S++[.lst [j,J,L,U]]):=jC<|by simp
@[simp]def Ik {S:gr}{j J L U x4:A}:newL [j,J,L,U,x4] S=.ok (.ref S.length) (S++[.lst [j,J,L,U,x4]]):=jC<|by simp
@[simp]def F0 {S:gr}{j J L U x4 x5:A}:newL [j,J,L,U,x4,x5] S=.ok (.ref S.length) (S++[.lst [j,J,L,U,x4,x5]]):=jC<|by simp
@[simp]def GU {S:gr}{j J L U x4 x5 x6:A}:newL [j,J,L,U,x4,x5,x6] S=.ok (.ref S.length) (S++[.lst [j,J,L,U,x4,x5,x6]]):=jC<|by simp
@[simp]def IB {S:gr}{j J L U x4 x5 x6 x7:A}:newL [j,J,L,U,x4,x5,x6,x7] S=.ok (.ref S.length) (S++[.lst [j,J,L,U,x4,x5,x6,x7]]):=jC<|by simp
@[simp]def G8 {S:gr}{j J L U x4 x5 x6 x7 x8:A}:newL [j,J,L,U,x4,x5,x6,x7,x8] S=.ok (.ref S.length) (S++[.lst [j,J,L,U,x4,x5,x6,x7,x8]]):=jC<|by simp
@[simp]def DX {S:gr}{j J L U x4 x5 x6 x7 x8 x9:A}:newL [j,J,L,U,x4,x5,x6,x7,x8,x9] S=.ok (.ref S.length) (S++[.lst [j,J,L,U,x4,x5,x6,x7,x8,x9]]):=jC<|by simp
theorem NQ{α:Type}{n:Nat}{r:R α}(h:n<=16777216):gd (n<=sizeLine) r=r:=jo<|by rw[bH];exact h
def RN{α:Type}{n:Nat}{r:R α}(h:n<16777216):gd (n<sizeLine) r=r:=jo<|by rw[bH];exact h
def ME {x:A}{xs:ae}:(x::xs).getD 0 .unb=x:=rfl
def MB {x:A}{xs:ae}{n:Nat}:(x::xs).getD (n+1) .unb=xs.getD n .unb:=rfl
def QX {x y:A}{xs:ae}:(x::xs).set 0 y=y::xs:=rfl
def sets {x y:A}{xs:ae}{n:Nat}:(x::xs).set (n+1) y=x::xs.set n y:=rfl
def rep0 {x:A}:List.replicate 0 x=[]:=rfl
def reps {x:A}{n:Nat}:List.replicate (n+1) x=x::List.replicate n x:=rfl
def Rl {x:A}{xs ys:ae}:(x::xs)++ys=x::(xs++ys):=rfl
def Q4 {ys:ae}:[]++ys=ys:=rfl
def MF{S:gr}{n m:Nat}{xs ys:ae}(h:gn S n=some xs)(h':gn S m=some ys)(j:xs.length+ys.length<=16777216):iF (.ref n) (.ref m) S=.ok (.ref S.length) (S++[.lst<|xs++ys]):=by
 show opt (gn S n) _=_;rw[h,gH,h',gH];exact jo<|by rw[bH];exact j
abbrev uV (x:A)(S:gr):R A:=bif x.i9 then .no else .ok x S
def uD{x:A}(h:x.i9=false):uV x S=.ok x S:=by unfold uV;rw[h];rfl
def IM {xs:ae}{S:gr}:uV (.tup xs) S=.ok (.tup xs) S:=rfl
def J8 {xs:ae}{S:gr}:uV (.frz xs) S=.ok (.frz xs) S:=rfl
def FT {i:Int}{S:gr}:uV (.int i) S=.ok (.int i) S:=rfl
def MT {b:Bool}{S:gr}:uV (.bl b) S=.ok (.bl b) S:=rfl
def J_ {s:Str}{S:gr}:uV (.str s) S=.ok (.str s) S:=rfl
def Gb {n:Nat}{S:gr}:uV (.ref n) S=.ok (.ref n) S:=rfl
def Hq  {S:gr}:uV (.non) S=.ok (.non) S:=rfl
def JF {i j:Int}{S:gr}:uV (.rng i j) S=.ok (.rng i j) S:=rfl
def IS {s:Str}{S:gr}:uV (.exn s) S=.ok (.exn s) S:=rfl
def Uu {j:A}{xs:ae}{S:gr}:gi 0 (j::xs) S=uV j S:=kZ
def UY {J j:A}{xs:ae}{S:gr}:gi 1 (J::j::xs) S=uV j S:=kZ
def UN {J L j:A}{xs:ae}{S:gr}:gi 2 (J::L::j::xs) S=uV j S:=kZ
def U5 {J L U j:A}{xs:ae}{S:gr}:gi 3 (J::L::U::j::xs) S=uV j S:=kZ
def UA {j J L U x4:A}{xs:ae}{S:gr}:gi 4 (j::J::L::U::x4::xs) S=uV x4 S:=kZ
def Uy {j J L U x4 x5:A}{xs:ae}{S:gr}:gi 5 (j::J::L::U::x4::x5::xs) S=uV x5 S:=kZ
def UW {j J L U x4 x5 x6:A}{xs:ae}{S:gr}:gi 6 (j::J::L::U::x4::x5::x6::xs) S=uV x6 S:=kZ
def Uv {j J L U x4 x5 x6 x7:A}{xs:ae}{S:gr}:gi 7 (j::J::L::U::x4::x5::x6::x7::xs) S=uV x7 S:=kZ
def Ux {j J L U x4 x5 x6 x7 x8:A}{xs:ae}{S:gr}:gi 8 (j::J::L::U::x4::x5::x6::x7::x8::xs) S=uV x8 S:=kZ
def U0 {a j:A}{xs:ae}{S:gr}:iC 0 a (j::xs) S=.ok (a::xs) S:=rfl
def UX {a j J:A}{xs:ae}{S:gr}:iC 1 a (j::J::xs) S=.ok (j::a::xs) S:=rfl
def U3 {a j J L:A}{xs:ae}{S:gr}:iC 2 a (j::J::L::xs) S=.ok (j::J::a::xs) S:=rfl
def UH {a j J L U:A}{xs:ae}{S:gr}:iC 3 a (j::J::L::U::xs) S=.ok (j::J::L::a::xs) S:=rfl
def Uw {a j J L U x4:A}{xs:ae}{S:gr}:iC 4 a (j::J::L::U::x4::xs) S=.ok (j::J::L::U::a::xs) S:=rfl
def UL {a j J L U x4 x5:A}{xs:ae}{S:gr}:iC 5 a (j::J::L::U::x4::x5::xs) S=.ok (j::J::L::U::x4::a::xs) S:=rfl
def Uz {a j J L U x4 x5 x6:A}{xs:ae}{S:gr}:iC 6 a (j::J::L::U::x4::x5::x6::xs) S=.ok (j::J::L::U::x4::x5::a::xs) S:=rfl
def UP {a j J L U x4 x5 x6 x7:A}{xs:ae}{S:gr}:iC 7 a (j::J::L::U::x4::x5::x6::x7::xs) S=.ok (j::J::L::U::x4::x5::x6::a::xs) S:=rfl
def UZ {a j J L U x4 x5 x6 x7 x8:A}{xs:ae}{S:gr}:iC 8 a (j::J::L::U::x4::x5::x6::x7::x8::xs) S=.ok (j::J::L::U::x4::x5::x6::x7::a::xs) S:=rfl
def gV:type_of% (anI @R.iP<|anI @R.DL<|anI @R.jS<|anI @RS.of_ok<|anI @RS.Nl<|anI @gH<|anI @Dl<|anI @Uu<|anI @UY<|anI @UN<|anI @U5<|anI @UA<|anI @Uy<|anI @UW<|anI @Uv<|anI @Ux<|anI @IM<|anI @J8<|anI @FT<|anI @MT<|anI @J_<|anI @Gb<|anI @Hq<|anI @JF<|anI @IS<|anI @Er<|anI @DJ<|anI @CZ<|anI @G_<|anI @CU<|anI @Dh<|anI @CY<|anI @EF<|anI @Em<|anI @Nh<|anI @C_<|anI @Gw<|anI @CG<|anI @Nb<|anI @Ja<|anI @Dr<|anI @D0<|anI @Jp<|anI @C4<|anI @C1<|anI @Eo<|anI @Ko<|anI @I0<|anI @DH<|anI @Iq<|anI @AH<|anI @Dq<|anI @Ju<|anI @CQ<|anI @AQ<|anI @CF<|anI @Dm<|anI @A3<|anI @GG<|anI @HH<|anI @Nu<|anI @MR<|anI @Gi<|anI @AZ<|anI @CT<|anI @zG<|anI @Ie<|anI @Ej<|anI @lst?_ref<|anI @RS.F_<|anI @RS.GD<|anI @RS.Jt<|anI @RS.Kc<|anI @RS.IP<|anI @Ey<|anI @C3<|anI @xV<|anI @zJ<|anI @Ab<|anI @DU<|anI @Av<|anI @Jo<|anI @Dg<|anI @U0<|anI @UX<|anI @U3<|anI @UH<|anI @Uw<|anI @UL<|anI @Uz<|anI @UP<|anI @UZ<|anI @GV<|anI @Ht<|anI @F2<|anI @Gy<|anI @Gx<|anI @CO<|anI @Ei<|anI @AA<|anI @RS.HE<|anI @RS.Ig<|anI @RS.J9<|anI @HA<|anI @Ji<|anI @Ge<|anI @MU<|anI @Na<|anI @MX<|anI @Nm<|anI @Np<|anI @Jc<|anI @JQ<|anI @II<|anI @JG<|anI @G3<|anI @Gs<|anI @DA<|anI @CJ<|anI @Ct<|anI @Ed<|anI @xQ<|anI @M7<|anI @MG<|anI @Nd<|anI @IJ<|anI @Kh<|anI @EA<|anI @Eb<|anI @D7<|anI @AD<|anI @A6<|anI @JN<|anI @HJ<|anI @MD<|anI @wX<|anI @Jy<|anI @C7<|anI @gK<|anI @GO<|anI @IG<|anI @zW<|anI @MO<|anI @M_<|anI @MC<|anI @Nk<|anI @DQ<|anI @Eu<|anI @C2<|anI @Aw<|anI @zT<|anI @zR<|anI @Co<|anI @Nc<|anI @Io<|anI @IW<|anI @G0<|anI @GA<|anI @JT<|anI @G9<|anI @Gg<|anI @F1<|anI @JM<|anI @JK<|anI @Ik<|anI @F0<|anI @GU<|anI @IB<|anI @G8<|anI @DX<|anI @ME<|anI @MB<|anI @QX<|anI @sets<|anI @rep0<|anI @reps<|anI @Rl<|anI @Q4<|anI @vp<|anI @Eh<|anI @JI<|anI @Gz<|anI @MZ<|anI @M6<|anI @Kw<|anI @Gq<|anI @yg<|anI @Bc<|anI @JB<|anI @Cz<|anI @Ij<|anI @C9<|anI @J7<|anI @MS<|anI @MA<|anI @DB<|anI @D9<|anI @JS<|anI @AB<|anI @Dz<|anI @HZ<|anI @JV<|anI @Iu<|anI @JE<|@G4):=anI @R.iP<|anI @R.DL<|anI @R.jS<|anI @RS.of_ok<|anI @RS.Nl<|anI @gH<|anI @Dl<|anI @Uu<|anI @UY<|anI @UN<|anI @U5<|anI @UA<|anI @Uy<|anI @UW<|anI @Uv<|anI @Ux<|anI @IM<|anI @J8<|anI @FT<|anI @MT<|anI @J_<|anI @Gb<|anI @Hq<|anI @JF<|anI @IS<|anI @Er<|anI @DJ<|anI @CZ<|anI @G_<|anI @CU<|anI @Dh<|anI @CY<|anI @EF<|anI @Em<|anI @Nh<|anI @C_<|anI @Gw<|anI @CG<|anI @Nb<|anI @Ja<|anI @Dr<|anI @D0<|anI @Jp<|anI @C4<|anI @C1<|anI @Eo<|anI @Ko<|anI @I0<|anI @DH<|anI @Iq<|anI @AH<|anI @Dq<|anI @Ju<|anI @CQ<|anI @AQ<|anI @CF<|anI @Dm<|anI @A3<|anI @GG<|anI @HH<|anI @Nu<|anI @MR<|anI @Gi<|anI @AZ<|anI @CT<|anI @zG<|anI @Ie<|anI @Ej<|anI @lst?_ref<|anI @RS.F_<|anI @RS.GD<|anI @RS.Jt<|anI @RS.Kc<|anI @RS.IP<|anI @Ey<|anI @C3<|anI @xV<|anI @zJ<|anI @Ab<|anI @DU<|anI @Av<|anI @Jo<|anI @Dg<|anI @U0<|anI @UX<|anI @U3<|anI @UH<|anI @Uw<|anI @UL<|anI @Uz<|anI @UP<|anI @UZ<|anI @GV<|anI @Ht<|anI @F2<|anI @Gy<|anI @Gx<|anI @CO<|anI @Ei<|anI @AA<|anI @RS.HE<|anI @RS.Ig<|anI @RS.J9<|anI @HA<|anI @Ji<|anI @Ge<|anI @MU<|anI @Na<|anI @MX<|anI @Nm<|anI @Np<|anI @Jc<|anI @JQ<|anI @II<|anI @JG<|anI @G3<|anI @Gs<|anI @DA<|anI @CJ<|anI @Ct<|anI @Ed<|anI @xQ<|anI @M7<|anI @MG<|anI @Nd<|anI @IJ<|anI @Kh<|anI @EA<|anI @Eb<|anI @D7<|anI @AD<|anI @A6<|anI @JN<|anI @HJ<|anI @MD<|anI @wX<|anI @Jy<|anI @C7<|anI @gK<|anI @GO<|anI @IG<|anI @zW<|anI @MO<|anI @M_<|anI @MC<|anI @Nk<|anI @DQ<|anI @Eu<|anI @C2<|anI @Aw<|anI @zT<|anI @zR<|anI @Co<|anI @Nc<|anI @Io<|anI @IW<|anI @G0<|anI @GA<|anI @JT<|anI @G9<|anI @Gg<|anI @F1<|anI @JM<|anI @JK<|anI @Ik<|anI @F0<|anI @GU<|anI @IB<|anI @G8<|anI @DX<|anI @ME<|anI @MB<|anI @QX<|anI @sets<|anI @rep0<|anI @reps<|anI @Rl<|anI @Q4<|anI @vp<|anI @Eh<|anI @JI<|anI @Gz<|anI @MZ<|anI @M6<|anI @Kw<|anI @Gq<|anI @yg<|anI @Bc<|anI @JB<|anI @Cz<|anI @Ij<|anI @C9<|anI @J7<|anI @MS<|anI @MA<|anI @DB<|anI @D9<|anI @JS<|anI @AB<|anI @Dz<|anI @HZ<|anI @JV<|anI @Iu<|anI @JE<|@G4
def bools:(∀b:Bool,cond false b b=b)/\(∀(α:Type) (x y:α),cond false x y=y)/\(∀(α:Type) (x y:α),cond true x y=x):=⟨λ_=>rfl,λ_ _ _=>rfl,λ_ _ _=>rfl⟩
def iR:(∀(x:Str) (xs:ba),(x::xs).length=xs.length+1)/\([]:ba).length=0/\(∀(x:A) (xs:ae),(x::xs).length=xs.length+1)/\([]:ae).length=0:=⟨λ_ _=>rfl,rfl,λ_ _=>rfl,rfl⟩
section
variable {τ:ae}{S:gr}
def CC {f:ae->gr->R A}{d:lq}:nZ f d τ S=(d τ S).bind f:=rfl
abbrev U4 (c:Str):Unit->gr->RS:=λ_ S1=>.ex c S1
def Hx {c:Str}{u:Unit}:U4 c u S=.ex c S:=rfl
def xN {c:Str}{ps:List<|Str ⊕ Ex}:mR c ps τ S=RS.of (KL ps τ S) (U4 c):=rfl
def Cr:KL [] τ S=.ok Unit.unit S:=rfl
def Ds {x:Str}{ps:List<|Str ⊕ Ex}:KL (.inl x::ps) τ S=KL ps τ S:=rfl
abbrev Vt (ps:List<|Str ⊕ Ex)(τ:ae):A->gr->R Unit:=λv S1=>match v with
 | .int i=>gd (i.natAbs.log2<64) (KL ps τ S1)
 | _=>.no
def Cv {e:Ex}{ps:List<|Str ⊕ Ex}:KL (.inr e::ps) τ S=(e τ S).bind (Vt ps τ):=rfl
abbrev RS.try (i n:Nat)(cs:ba)(d:Sm):RS->RS
 | .ex x S1=>if x∈cs then KU i (d ((List.replicate n .unb).set i<|.exn x) S1)else .no
 | r=>r
def Cn {i n:Nat}{cs:ba}{c d:Sm}:AJ i n cs c d τ S=RS.try i n cs d (c τ S):=by
 unfold AJ RS.try;cases c τ S<;>rfl
def HQ {i n:Nat}{cs:ba}{d:Sm}:RS.try i n cs d (.nx τ S)=.nx τ S:=rfl
def Jx {i n:Nat}{cs:ba}{d:Sm}{a:A}:RS.try i n cs d (.rt a S)=.rt a S:=rfl
def Ir {i n:Nat}{x:Str}{cs:ba}{d:Sm}:RS.try i n (x::cs) d (.ex x S)=KU i (d ((List.replicate n .unb).set i<|.exn x) S):=aR<|.head _
def GQ {i:Nat}{a:A}:KU i (.rt a S)=.rt a S:=rfl
def Jb {i:Nat}:KU i (.nx τ S)=.nx (τ.set i .unb) S:=rfl
abbrev QG (f:Str->bo):A->gr->R A:=λv S1=>match v with
 | .exn x=>opt (f x) λb=>.ok (.bl b) S1
 | _=>.no
def DE {f:Str->bo}{c:Ex}:Ak f c τ S=(c τ S).bind (QG f):=rfl
def Gv {x:Str}{b:Bool}{tb:List<|Str×Bool}:QG (Mp ((x,b)::tb)) (.exn x) S=.ok (.bl b) S:=by
 show opt (List.lookup x ((x,b)::tb)) _=_;rw[cj,bG];rfl
abbrev R.Ih {α β:Type}(r:R α)(f:α->gr->R β):R β:=match r with
 | .ok a S=>f a S
 | _=>.no
def Ad {α β:Type}{a:α}{f:α->gr->R β}:R.Ih (.ok a S) f=f a S:=rfl
def DW {f:ae->gr->R A}{d:lq}:QL f d τ S=R.Ih (d τ S) f:=by unfold QL R.Ih;cases d τ S<;>rfl
abbrev RS.T7 {α:Type}(r:R α)(f:α->gr->RS):RS:=match r with
 | .ok a S=>f a S
 | _=>.no
def IA {α:Type}{a:α}{f:α->gr->RS}:RS.T7 (.ok a S) f=f a S:=rfl
def Dt {t:Te}{c d:Sm}:RA t c d τ S=RS.T7 (t τ S) (Sl c d τ):=by
 unfold RA RS.T7
 cases t τ S with
 | ok b S1=>cases b<;>rfl
 | ex _ _=>rfl
 | no=>rfl
abbrev RS.Ga (i:Nat)(cs:ba)(d:Sm)(τ:ae):RS->RS
 | .ex x S1=>if x∈cs then KU i (d (τ.set i<|.exn x) S1)else .no
 | r=>r
def A7 {i:Nat}{cs:ba}{c d:Sm}:Ng i cs c d τ S=RS.Ga i cs d τ (c τ S):=by
 unfold Ng RS.Ga;cases c τ S<;>rfl
def Es {i:Nat}{cs:ba}{d:Sm}{j:ae}:RS.Ga i cs d τ (.nx j S)=.nx j S:=rfl
def C6 {i:Nat}{cs:ba}{d:Sm}{a:A}:RS.Ga i cs d τ (.rt a S)=.rt a S:=rfl
def CB {i:Nat}{x:Str}{cs:ba}{d:Sm}:RS.Ga i (x::cs) d τ (.ex x S)=KU i (d (τ.set i<|.exn x) S):=aR<|.head _
def zM:A.KG []=some []:=rfl
def ue {b:Bool}{xs:ae}:A.KG (.bl b::xs)=(A.KG xs).map (b::·):=rfl
end
def mS:type_of% (anI @CC<|anI @xN<|anI @Hx<|anI @Cr<|anI @Ds<|anI @Cv<|anI @Cn<|anI @HQ<|anI @Jx<|anI @Ir<|anI @GQ<|anI @Jb<|anI @DE<|anI @Gv<|anI @zM<|anI @ue<|anI @Ad<|anI @DW<|anI @IA<|anI @Dt<|anI @A7<|anI @Es<|anI @C6<|anI @CB<|trivial):=anI @CC<|anI @xN<|anI @Hx<|anI @Cr<|anI @Ds<|anI @Cv<|anI @Cn<|anI @HQ<|anI @Jx<|anI @Ir<|anI @GQ<|anI @Jb<|anI @DE<|anI @Gv<|anI @zM<|anI @ue<|anI @Ad<|anI @DW<|anI @IA<|anI @Dt<|anI @A7<|anI @Es<|anI @C6<|anI @CB<|trivial
end Am
namespace Am
open PySem PySem.Spec PyProof.Rows L2
abbrev Df (K:au)(x:Str)(st:aF):Prop:=∃(f:aj) (fd:FuncData),PySem.W.nsIn K mainGlobals x=some (some<|.ref f)/\Fun K x x st f fd
inductive En (P:ah) (w:af) (K:au) (mg:Str->bi) (base:ak):Prop
 | mk (h:ak) (X:K.In h) (G:h.Ns mainGlobals mg)
section
variable {P:ah}{w:af}{K:au}{mg:Str->bi}{base:ak}{x:Str}{st:aF}{ps:ba}{k:Nat}{F:ae->gr->R A}
def En.at(E:En P w K mg base){f:aj}(h:PySem.W.nsIn K mainGlobals x=some (some<|.ref f)):mg x=some (.ref f):=by
 obtain⟨_,X,G⟩:=E;exact bT X G h
def Df.of{f:aj}{od:Option aj}{kV ct:aa}(a:PySem.W.nsIn K mainGlobals x=some (some<|.ref f))(l:K.lookup f=some ⟨oc,od,.func<|PySem.W.fnOf x x (lA st) (jA st) (gE st) .none kV doc pm an cdv ct,osl⟩)(c:PySem.W.codeIn K cdv x=true)(k:PySem.W.keepIn K (.ref f)=true):Df K x st:=⟨f,_,a,Bk l c k⟩
meta abbrev Bi (x:Str)(st:aF)(ps:ba):Prop:=∀us:bd,us.length=ps.length->∀(kV doc pm:aa) (an:Option aj) (cdv ct:aa),bindArgs (PySem.W.fnOf x x (lA st) (jA st) (gE st) .none kV doc pm an cdv ct) ⟨us,[]⟩=pure (ps.zip us)
def Df.get(d:Df K x st)(E:En P w K mg base)(b:Bi x st ps):∃f fd,Fun K x x st f fd/\mg x=some (.ref f)/\PySem.W.keepIn K (.ref f)=true/\Binds K fd ps []:=by
 obtain⟨f,fd,a,F⟩:=d;exact⟨f,fd,F,E.at a,F.kp,F.binds λkV doc pm an cdv ct us g=>b us g kV doc pm an cdv ct⟩
def Df.kA(d:Df K x st)(E:En P w K mg base)(h:∀{f fd},Fun K x x st f fd->FnOk P w K mg base qA k f fd ps (su K ps.length F))(b:Bi x st ps):rL P w K mg base k x ps F:=by
 obtain⟨f,fd,a,c,e,g⟩:=d.get E b;exact⟨f,fd,h a,c,e,g⟩
def Df.kX(d:Df K x st)(E:En P w K mg base)(h:∀{f fd},Fun K x x st f fd->FnOk P w K mg base (uK P w) k f fd ps (zF K ps.length F))(b:Bi x st ps):FL P w K mg base k x ps F:=by
 obtain⟨f,fd,a,c,e,g⟩:=d.get E b;exact⟨f,fd,h a,c,e,g⟩
end
section
variable {X:Cx}{pos p:Pos}{e1 e2 e3:aE}{x p1 p2 p3:Str}{k K0:Nat}{F:ae->gr->R A}{c1 c2 c3:Ex}
def KD(G:rL X.prog X.w X.K X.mg X.base k x [p1] F)(L:Room K0 X.A)(h1:AE X e1 c1)(U:k<=K0<|>δ)(hg:Gl X x<|>ε)(j:(x == ("__debug__" : Str))=false<|>δ)(J:starEach [e1] X.env=(false,eval e1 X.env)::starEach [] X.env<|>ε)(hp:((backTo pos<|starEach [] X.env).any (·.1)=false)<|>ε):AE X (.Call (.Name x p) [e1] [] pos) (eFn F<|gj c1 gv):=Ho G (L.mono U) (gk h1 gw J) (h_ jh) hg j J hp
def wD(G:rL X.prog X.w X.K X.mg X.base k x [p1,p2] F)(L:Room K0 X.A)(h1:AE X e1 c1)(U:AE X e2 c2)(Z:k<=K0<|>δ)(hg:Gl X x<|>ε)(j:(x == ("__debug__" : Str))=false<|>δ)(J:starEach [e1,e2] X.env=(false,eval e1 X.env)::starEach [e2] X.env<|>ε)(s2:starEach [e2] X.env=(false,eval e2 X.env)::starEach [] X.env<|>ε)(hp:((backTo pos<|starEach [e2] X.env).any (·.1)=false)<|>ε):AE X (.Call (.Name x p) [e1,e2] [] pos) (eFn F<|gj c1<|gj c2 gv):=Ho G (L.mono Z) (gk h1 (gk U gw s2) J) (h_<|h_ jh) hg j J hp
def Sw(G:rL X.prog X.w X.K X.mg X.base k x [p1,p2,p3] F)(L:Room K0 X.A)(h1:AE X e1 c1)(U:AE X e2 c2)(Z:AE X e3 c3)(hk:k<=K0<|>δ)(hg:Gl X x<|>ε)(j:(x == ("__debug__" : Str))=false<|>δ)(J:starEach [e1,e2,e3] X.env=(false,eval e1 X.env)::starEach [e2,e3] X.env<|>ε)(s2:starEach [e2,e3] X.env=(false,eval e2 X.env)::starEach [e3] X.env<|>ε)(s3:starEach [e3] X.env=(false,eval e3 X.env)::starEach [] X.env<|>ε)(hp:((backTo pos<|starEach [e2,e3] X.env).any (·.1)=false)<|>ε):AE X (.Call (.Name x p) [e1,e2,e3] [] pos) (eFn F<|gj c1<|gj c2<|gj c3 gv):=Ho G (L.mono hk) (gk h1 (gk U (gk Z gw s3) s2) J) (h_<|h_<|h_ jh) hg j J hp
def RK(G:FL X.prog X.w X.K X.mg X.base k x [p1] F)(L:Room K0 X.A)(h1:AE X e1 c1)(U:k<=K0<|>δ)(hg:Gl X x<|>ε)(j:(x == ("__debug__" : Str))=false<|>δ)(J:starEach [e1] X.env=(false,eval e1 X.env)::starEach [] X.env<|>ε)(hp:((backTo pos<|starEach [] X.env).any (·.1)=false)<|>ε):AE X (.Call (.Name x p) [e1] [] pos) (nZ F<|gj c1 gv):=FP G (L.mono U) (gk h1 gw J) (h_ jh) hg j J hp
def SO(G:FL X.prog X.w X.K X.mg X.base k x [p1,p2] F)(L:Room K0 X.A)(h1:AE X e1 c1)(U:AE X e2 c2)(Z:k<=K0<|>δ)(hg:Gl X x<|>ε)(j:(x == ("__debug__" : Str))=false<|>δ)(J:starEach [e1,e2] X.env=(false,eval e1 X.env)::starEach [e2] X.env<|>ε)(s2:starEach [e2] X.env=(false,eval e2 X.env)::starEach [] X.env<|>ε)(hp:((backTo pos<|starEach [e2] X.env).any (·.1)=false)<|>ε):AE X (.Call (.Name x p) [e1,e2] [] pos) (nZ F<|gj c1<|gj c2 gv):=FP G (L.mono Z) (gk h1 (gk U gw s2) J) (h_<|h_ jh) hg j J hp
def qt{N P:ba}{j:Scope}(a:j.kind=.function)(b:j.isCoroutine=false)(c:j.isGenerator=false)(h:N.Nodup/\N.take P.length=P/\(∀x∈P,j.names.lookup x=some .local\/j.names.lookup x=some .cell)/\∀y∈j.names,y.2≠.free):FnScope N P j:=⟨a,b,c,h.1,h.2.1,h.2.2.1,h.2.2.2⟩
end
abbrev iI (S:gr)(n:Nat):Option (List<|Str×A):=match S[n]? with
 | some (.jE xs)=>some xs
 | _=>none
def g7{n:Nat}(h:iI S n=some xs):S[n]?=some (.jE xs):=by
 unfold iI at h;split at h
 ·rename_i e;cases h;exact e
 ·cases h
def ly{S:gr}{n:Nat}(h:S[n]?=some (.jE xs)):iI S n=some xs:=by
 unfold iI;rw[h]
abbrev gT (kvs:List<|Str×A)(k:Str):Option A:=(kvs.find? λd=>decide<|d.1=k).map (·.2)
abbrev lI (kvs:List<|Str×A)(k:Str)(v:A):List (Str×A):=
 if (gT kvs k).isSome=true then kvs.map (λd=>if d.1=k then(d.1,v)else d)else kvs++[(k,v)]
section
variable {K:au}{ρ:be}{H:Hp}
def i7{p:Str×A}{r:List<|Str×A}{k:Str}(e:p.1=k):gT (p::r) k=some p.2:=by simp[gT,cF,e]
def jn{p:Str×A}{r:List<|Str×A}{k:Str}(e:¬p.1=k):gT (p::r) k=gT r k:=by simp[gT,cF,e]
def QM{a:Str}(e:(Sum.inr a:Key)=Sum.inr b):a=b:=by injection e
theorem DS.look:∀{kvs:List<|Str×A}{ks:List<|Key×V}(k:Str),DS K ρ H kvs ks->(gT kvs k).isSome=(n_ ks (Sum.inr k:Key)).isSome/\∀x,gT kvs k=some x->∃v,n_ ks (Sum.inr k:Key)=some v/\AV K ρ H x v
 | [],[],k,_=>⟨rfl,λx h=>nomatch h⟩
 | p::r,q::r',k,⟨⟨e,a⟩,t⟩=>by
  by_cases c:p.1=k
  ·have d:q.1=(Sum.inr k:Key):=by rw[e,c]
   rw[i7 c,sy d];exact⟨rfl,λx h=>by cases h;exact⟨_,rfl,a⟩⟩
  ·have d:¬q.1=(Sum.inr k:Key):=λz=>c<|QM<|e.symm.trans z;rw[jn c,sA d];exact DS.look k t
theorem DS.repl{x:A}{v:V}(h:AV K ρ H x v)(k:Str):∀{kvs:List<|Str×A}{ks:List<|Key×V},DS K ρ H kvs ks->DS K ρ H (kvs.map λkv=>if kv.1=k then(kv.1,x)else kv) (ks.map λkv=>if kv.1=(Sum.inr k:Key)then(kv.1,v)else kv)
 | [],[],_=>trivial
 | p::r,q::r',⟨⟨e,a⟩,t⟩=>by
  refine⟨?_,DS.repl h k t⟩;dsimp only;by_cases c:p.1=k
  ·rw[aR c,aR<|by rw[e,c]];exact⟨e,h⟩
  ·rw[aO c,aO λz=>c<|QM<|e.symm.trans z];exact⟨e,a⟩
theorem DS.snoc{x:A}{v:V}(h:AV K ρ H x v)(k:Str):∀{kvs:List<|Str×A}{ks:List<|Key×V},DS K ρ H kvs ks->DS K ρ H (kvs++[(k,x)]) (ks++[(Sum.inr k,v)])
 | [],[],_=>⟨⟨rfl,h⟩,trivial⟩
 | p::r,q::r',⟨a,t⟩=>⟨a,DS.snoc h k t⟩
def DS.put{x:A}{v:V}(h:AV K ρ H x v)(k:Str)(d:DS K ρ H kvs ks):DS K ρ H (lI kvs k x) (putK ks (Sum.inr k:Key) v):=by
 unfold lI putK;rw[wV,<- (d.look k).1];by_cases c:(gT kvs k).isSome=true
 ·rw[aR c,aR c];exact DS.repl h k d
 ·rw[aO c,aO c];exact DS.snoc h k d
def DS.length:∀{kvs:List<|Str×A}{ks:List<|Key×V},DS K ρ H kvs ks->kvs.length=ks.length
 | [],[],_=>rfl
 | _::_,_::_,⟨_,t⟩=>cO (·+1) t.length
def Rel.jE{n:Nat}{a:aj}(R:Rel K ρ H S)(j:ρ[n]?=some a)(J:S[n]?=some (.jE xs)):∃vs,H a=some (.dK vs)/\DS K ρ H xs vs:=R.at n a _ j J
def Rel.QB{S:gr}{p:aj}(R:Rel K ρ H S)(hp:H p=none)(r:DS K ρ H xs vs):Ext ρ (ρ++[p]) H (upd H p<|.dK vs)/\Rel K (ρ++[p]) (upd H p<|.dK vs) (S++[.jE xs])/\(ρ++[p])[S.length]?=some p:=by
 have ex:Ext ρ (ρ++[p]) H (upd H p<|.dK vs):=⟨⟨dz _ _,λa u _ h=>by rw[gy<|gI h hp];exact h⟩,λa u h _=>by rw[gy<|gI h hp];exact h,λa h=>by
  rcases bO.mp h with z|z
  ·exact .inl z
  ·have e:a=p:=by simpa using z
   rw[e];exact .inr hp⟩
 have np:p∉ρ:=R.EB hp;have d:(ρ++[p])[S.length]?=some p:=by rw[<- R.len];simp
 refine⟨ex,⟨by simp[R.len],?_,?_⟩,d⟩
 ·rw[dI];refine⟨R.nd,by simp,λa m b j e=>?_⟩;have:b=p:=by simpa using j
  exact np<|by rw[<- this,<- e];exact m
 ·intro n a o h1 f;by_cases hn:n<S.length
  ·rw[aS<|by rw[R.len];exact hn]at h1;rw[aS hn]at f;have na:a≠p:=λz=>np (by rw[<- z];exact bP h1);have:=R.at n a o h1 f
   cases o with
   | lst ys=>obtain⟨ws,e,q⟩:=this;exact⟨ws,by rw[gy na];exact e,q.ext ex⟩
   | dct _|dki _|jE _|dcp _=>obtain⟨ws,e,q⟩:=this;exact⟨ws,by rw[gy na];exact e,q.ext ex⟩
   | dcf _|dkf _=>obtain⟨g,ws,e,q⟩:=this;exact⟨g,ws,by rw[gy na];exact e,q.ext ex⟩
   | ins _ _=>obtain⟨g,k,e⟩:=this;exact⟨g,k,by rw[gy na];exact e⟩
   | obj _ _=>obtain⟨ws,⟨C,dx,c,e⟩,q⟩:=this;exact⟨ws,⟨C,dx,c,by rw[gy na];exact e⟩,q.ext ex⟩
  ·have e:n=S.length:=by
    have:=(aI.mp f).1;simp at this
    lia
   subst e;rw[d]at h1
   cases h1
   simp at f;subst f;exact⟨vs,g8,r.ext ex⟩
def Rel.lI{S:gr}{n:Nat}{a:aj}(R:Rel K ρ H S)(J:ρ[n]?=some a)(L:S[n]?=some (.jE xs))(r:DS K ρ H ys ws):Ext ρ ρ H (upd H a<|.dK ws)/\Rel K ρ (upd H a<|.dK ws) (S.set n<|.jE ys):=by
 obtain⟨F,e,_⟩:=R.at n a _ J L;have ex:Ext ρ ρ H (upd H a<|.dK ws):=⟨⟨dh _,λb u i h=>by
  have:b≠a:=by
   intro z;subst z;rw[e]at h;cases h;exact i
  rw[gy this];exact h⟩,λb u h n=>by
  rw[gy λz=>n<|by rw[z];exact bP J];exact h,λ_ h=>.inl h⟩
 refine⟨ex,by rw[bx];exact R.len,R.nd,λm b o h1 g=>?_⟩;by_cases k:m=n
 ·subst k;rw[J]at h1;cases h1;rw[bu (aI.mp L).1]at g
  cases g
  exact⟨ws,g8,r.ext ex⟩
 ·rw[aT<|bM k]at g;have nb:b≠a:=λz=>by
   subst z;obtain⟨B,e1⟩:=aI.mp J;obtain⟨G,e2⟩:=aI.mp h1;exact k<|(eX R.nd).mp<|e2.trans e1.symm
  have:=R.at m b o h1 g
  cases o with
  | lst ys=>obtain⟨d,f,q⟩:=this;exact⟨d,by rw[gy nb];exact f,q.ext ex⟩
  | dct _|dki _|jE _|dcp _=>obtain⟨d,f,q⟩:=this;exact⟨d,by rw[gy nb];exact f,q.ext ex⟩
  | dcf _|dkf _=>obtain⟨j,d,f,q⟩:=this;exact⟨j,d,by rw[gy nb];exact f,q.ext ex⟩
  | ins _ _=>obtain⟨j,p,f⟩:=this;exact⟨j,p,by rw[gy nb];exact f⟩
  | obj _ _=>obtain⟨ws,⟨C,dx,c,f⟩,q⟩:=this;exact⟨ws,⟨C,dx,c,by rw[gy nb];exact f⟩,q.ext ex⟩
end
section
variable {X:Cx}{pos:Pos}{a b:aE}
abbrev sf (x y:A)(S:gr):R A:=match x,y with
 | .ref n,.str k=>opt (iI S n) λkvs=>opt (gT kvs k) λv=>.ok v S
 | _,_=>.no
def EO{x:A}{P:A->gr->Prop}{E:Str->gr->Prop}(h:(sf x y S).post P E):∃n k kvs v,x=.ref n/\y=.str k/\iI S n=some kvs/\gT kvs k=some v/\P v S:=by
 unfold sf at h;split at h
 ·obtain⟨kvs,h1,h⟩:=gD h;obtain⟨v,d,h⟩:=gD h;exact⟨_,_,kvs,v,rfl,rfl,h1,d,h⟩
 ·exact h.elim
def R_(J:X.A.units+64<cLine):Mz X (r2 X sf):=λvalue f pins s σ H x y v u Q I rx ry ⟨ρ,S,a,b,R,va,vb,h⟩ hs=>by
 obtain⟨n,k,kvs,z,C,m,hn,j,hP⟩:=EO h;subst C m
 cases vb
 cases va with
 | @ref p _ hp=>
  obtain⟨ks,e,d⟩:=R.jE hp<|g7 hn;obtain⟨w,hw,B⟩:=(d.look k).2 z j;have g:pZ H p (kV<|Sum.inr k) (n_ ks<|Sum.inr k):=pZ.k e;rw[hw]at g;exact Lo () value f pins s σ H _ _ v u Q I rx ry ⟨p,w,rfl,g,hP _ _ _ .refl R B⟩ hs
def zo(J:X.A.units+64<cLine){ca j:Ex}(L:AE X a ca)(hb:AE X b j)(hs:u9 b<|>θ):AE X (.Subscript a b pos) (gB sf ca j):=PE.imp (FU (R_ J) L hb hs) λσ H Q h=>sD h
abbrev qw (o i v:A)(S:gr):R Unit:=match o,i with
 | .ref n,.str k=>opt (iI S n) λkvs=>gd (kvs.length<sizeLine) (.ok Unit.unit<|S.set n<|.jE<|lI kvs k v)
 | _,_=>.no
def Cb{x v:A}{S:gr}{P:Unit->gr->Prop}{E:Str->gr->Prop}(h:(qw x y v S).post P E):∃n k kvs,x=.ref n/\y=.str k/\iI S n=some kvs/\kvs.length<sizeLine/\P Unit.unit (S.set n<|.jE<|lI kvs k v):=by
 unfold qw at h;split at h
 ·obtain⟨kvs,h1,h⟩:=gD h;obtain⟨d,h⟩:=gO h;exact⟨_,_,kvs,rfl,rfl,h1,d,h⟩
 ·exact h.elim
abbrev Tn (X:Cx):Ka:=λo i v H Q=>∃ρ S g d f,Rel X.K ρ H S/\AV X.K ρ H g o/\AV X.K ρ H d i/\AV X.K ρ H f v/\(qw g d f S).post (λ_ j=>∀ρ' H',Ext ρ ρ' H H'->Rel X.K ρ' H' j->Q H') (XE X ρ H)
def LD(U:X.A.units+64<cLine):Iz X (Tn X):=λpins s σ H o i v K iv u Q I F B m h9=>by
 obtain⟨ρ,S,N,O,L,R,h1,G,g,h⟩:=h9;obtain⟨n,k,kvs,C,f,hn,J,hP⟩:=Cb h;subst C f
 cases G
 cases h1 with
 | @ref p _ hp=>
  obtain⟨ks,e,d⟩:=R.jE hp<|g7 hn;obtain⟨ex,j⟩:=R.lI hp (g7 hn)<|d.put g k;exact set_dict () pins s σ H _ _ v K iv u Q I F B m ⟨p,_,rfl,JP.k (k:=Sum.inr k) e<|by rw[<- d.length];exact J,hP _ _ ex j⟩
abbrev EV (co j:Ex):Tg:=λa τ S=>(co τ S).bind λo S1=>(j τ S1).bind λi f=>(qw o i a f).bind λ_ d=>.ok τ d
def vd(L:X.A.units+64<cLine){o:aE}{co J:Ex}(U:AE X o co)(hi:AE X i J)
  (Z:(∀v,assign (.Subscript o i pos) X.env v=(do
   let ov <- holding [v] (eval o X.env)
   let iv <- holding [v,ov] (eval i X.env)
   standAt pos
   holding [v,ov,iv] (setItem ov iv v)
   release [v,ov,iv] []))<|>ζ):AG X (.Subscript o i pos) (EV co J):=PG.imp (Gk U hi (LD L) Z) λv σ H Q h9=>by
 obtain⟨ρ,S,τ,a,R,r,va,h⟩:=h9;refine⟨ρ,S,τ,R,r,gq (gu h) .refl λo S1 h1 ρ1 H1 x e1 R1 v1=>⟨ρ1,S1,τ,R1,r.ext e1,gq (gu h1) e1 λi k j f H2 y e2 R2 m=>?_⟩⟩;refine⟨f,k,o,i,a,R2,v1.ext e2,m,va.ext<|e1.trans e2,gq (gu j) (e1.trans e2) λ_ B g d H3 e3 p=>?_⟩;exact g d H3 σ ((e1.trans e2).trans e3) p<|r.ext<|(e1.trans e2).trans e3
abbrev nE:Ex:=λ_ S=>.ok (.ref S.length)<|S++[.jE []]
def sE:AE X (.Dict [] [] pos) nE:=PE.imp Gu λσ H Q ⟨ρ,S,τ,R,r,h⟩ p hp=>by
 obtain⟨ex,d,f⟩:=R.QB (xs:=[]) (vs:=[]) hp trivial;exact h _ _ _ ex d<|.ref f
abbrev ds? (a:A)(S:gr):Option Unit:=match a with
 | .ref n=>(iI S n).map λ_=>Unit.unit
 | _=>none
abbrev xD (f:A->ae->gr->R A)(co:Ex)(d:lq):Ex:=λτ S=>(co τ S).bind λx S1=>opt (ds? x S1) λ_=>(d τ S1).bind λas g=>f x as g
def ds?_ty{K:au}{H:Hp}{x:A}{v:V}(R:Rel K ρ H S)(a:AV K ρ H x v)(e:ds? x S=some u):Qn K "dict" v H:=by
 cases a with
 | @ref p n h=>
  obtain⟨xs,d,_⟩:=aX.mp e;obtain⟨f,h1,_⟩:=R.jE h<|g7 d;exact .inr<|.inr<|.inl ⟨rfl,.inl ⟨f,h1⟩⟩
 | _=>cases e
def B9{o:aE}{id:String}{apos cpos:Pos}{f:A->ae->gr->R A}{co:Ex}{d:lq}(slot:Slot "dict" name id)(hty:typeOf (.builtin id)=pure (.type "method_descriptor"))(hm:Bf X id<|rM X f)(ho:AE X o co)(ha:AL X (e::es) d)
  (L:attributeBase o name X.env (eval o X.env)=eval o X.env<|>ε)
  (Z:(((backTo cpos<|starEach (e::es) X.env).all (λx=>!x.1) && (backToKw cpos<|keywordEach [] X.env).all (λx=>x.1.isSome)
   && decide ((e::es).length+([]:List Keyword).length+(if ([]:List Keyword).isEmpty then 0 else 1)<30))=true)<|>ε)
  (U:(apos.endLine == cpos.line)=true<|>ε) (hs:starEach (e::es) X.env=(false,eval e X.env)::starEach es X.env<|>ε) (J:((backTo cpos<|starEach es X.env).any (·.1)=false)<|>ε) :
  AE X (.Call (.Attribute o name apos) (e::es) [] cpos) (xD f co d):=PE.imp (I_ PySem.F.plainAttrs_dict slot hty hm ho ha L Z U hs J) λσ H Q h9=>by
 room;ksr_p;obtain⟨xs,j,h1⟩:=gD h1;refine⟨ds?_ty R1 v1 j,ρ1,S1,τ,R1,r.ext e1,gq (gu h1) e1 λas m k g H2 B e2 R2 p=>?_⟩;exact⟨g,m,x,as,R2,v1.ext e2,p,gq k (e1.trans e2) λ_ _ z=>z.ext<|e1.trans e2⟩
abbrev wk (o:A)(as:ae)(S:gr):R A:=match o,as with
 | .ref n,[.str k,y]=>opt (iI S n) λkvs=>.ok ((gT kvs k).getD y) S
 | _,_=>.no
def BZ{x:A}{P:A->gr->Prop}{E:Str->gr->Prop}(h:(wk x as S).post P E):∃n k y kvs,x=.ref n/\as=[.str k,y]/\iI S n=some kvs/\P ((gT kvs k).getD y) S:=by
 unfold wk at h;split at h
 ·obtain⟨kvs,h1,h⟩:=gD h;exact⟨_,_,_,kvs,rfl,rfl,h1,h⟩
 ·exact h.elim
def OL(U:X.A.units+64<cLine):Bf X "dict.get" (rM X wk):=λpins s σ H x K v us Q I rx B h9=>by
 kpf_c;obtain⟨n,k,y,kvs,G,has,hn,hP⟩:=BZ h;subst G has;obtain⟨P,L,rfl,g,hy⟩:=Qx va
 cases g
 cases vo with
 | @ref p _ hp=>
  obtain⟨ks,h1,F⟩:=R.jE hp (g7 hn)
  cases rx
  obtain⟨O,N,rfl,r1,r2⟩:=vals2 B;refine OO () I (pZ.k (k:=Sum.inr k) h1) r1 r2 λT s' C f=>⟨_,H,C,f,hP _ _ _ .refl R ?_⟩;obtain⟨d,J⟩:=F.look k
  cases e1:gT kvs k with
  | none=>
   rw[e1]at d
   cases e2:n_ ks (Sum.inr k:Key)with
   | none=>exact hy
   | some _=>rw[e2]at d;cases d
  | some j=>
   obtain⟨v1,e2,m⟩:=J j e1;rw[e2];exact m
end
abbrev vH (S:gr)(n:Nat):Option (Str×List (Str×A)):=match S[n]? with
 | some (.obj c fs)=>some (c,fs)
 | _=>none
def yX{n:Nat}{q:Str×List (Str×A)}(h:vH S n=some q):S[n]?=some (.obj q.1 q.2):=by
 unfold vH at h;split at h
 ·rename_i e;cases h;exact e
 ·cases h
def zk{S:gr}{n:Nat}{c:Str}{fs:List<|Str×A}(h:S[n]?=some (.obj c fs)):vH S n=some (c,fs):=by
 unfold vH;rw[h]
abbrev zv (f:Str)(x:A):List (Str×A)->List (Str×A)
 | []=>[(f,x)]
 | p::r=>if p.1=f then(p.1,x)::r else p::zv f x r
section
variable {K:au}{ρ ρ':be}{H H':Hp}
def FV.length:∀{fs:List<|Str×A}{ws:List<|Str×V},FV K ρ H fs ws->fs.length=ws.length
 | [],[],_=>rfl
 | _::_,_::_,⟨_,t⟩=>cO (·+1) t.length
theorem FV.put{x:A}{v:V}(f:Str)(h:AV K ρ H x v):∀{fs:List<|Str×A}{ws:List<|Str×V},FV K ρ H fs ws->FV K ρ H (zv f x fs) (nW f v ws)
 | [],[],_=>⟨⟨rfl,h⟩,trivial⟩
 | p::r,q::r',⟨⟨e,a⟩,t⟩=>by
  obtain⟨g,y⟩:=q;have e:g=p.1:=e;subst e;unfold zv nW;by_cases c:p.1=f
  ·rw[aR c,aR c];exact⟨⟨rfl,h⟩,t⟩
  ·rw[aO c,aO c];exact⟨⟨rfl,a⟩,FV.put f h t⟩
theorem FV.look{f:Str}:∀{fs:List<|Str×A}{ws:List<|Str×V},FV K ρ H fs ws->(fs.lookup f=none->ws.lookup f=none)/\∀x,fs.lookup f=some x->∃v,ws.lookup f=some v/\AV K ρ H x v
 | [],[],_=>⟨λ_=>rfl,nofun⟩
 | p::r,q::r',⟨⟨e,a⟩,t⟩=>by
  obtain⟨g,y⟩:=q;obtain⟨g',z⟩:=p;have e:g=g':=e;subst e;rw[cj,cj]
  cases f == g with
  | true=>exact⟨λh=>(nomatch h),λx h=>by cases h;exact⟨_,rfl,a⟩⟩
  | false=>exact FV.look t
def w_.inj{c:Str}{C:aj}(a:w_ K c C)(b:w_ K c D):C=D:=by
 have z:=a.symm.trans b
 injection z with z
 injection z with z
 injection z
def Rel.ob{n:Nat}{a C:aj}{c:Str}{fs:List<|Str×A}(R:Rel K ρ H S)(j:ρ[n]?=some a)(J:S[n]?=some (.obj c fs))(hn:w_ K c C):∃dx ws,H a=some (.ins C dx ws)/\FV K ρ H fs ws:=by
 obtain⟨ws,⟨f,dx,d,e⟩,q⟩:=R.at n a _ j J
 cases hn.inj d
 exact⟨dx,ws,e,q⟩
def OR.mono{a:aj}{o:O}(h:OR K ρ H a o)(e:Ext0 ρ ρ' H H')(k:H' a=H a):OR K ρ' H' a o:=by
 cases o with
 | lst ys=>obtain⟨ws,z,q⟩:=h;exact⟨ws,k.trans z,AVs.iB e q⟩
 | dct _|dki _|jE _|dcp _=>obtain⟨ws,z,q⟩:=h;exact⟨ws,k.trans z,q.iB e⟩
 | dcf _|dkf _=>obtain⟨d,ws,z,q⟩:=h;exact⟨d,ws,k.trans z,q.iB e⟩
 | ins _ _=>obtain⟨d,f,z⟩:=h;exact⟨d,f,k.trans z⟩
 | obj _ _=>obtain⟨ws,⟨C,dx,c,z⟩,q⟩:=h;exact⟨ws,⟨C,dx,c,k.trans z⟩,q.iB e⟩
def Ext.lay{p:aj}(hp:H p=none):Ext ρ (ρ++[p]) H (upd H p u):=⟨⟨dz _ _,λa u _ h=>by rw[gy<|gI h hp];exact h⟩,λa u h _=>by rw[gy<|gI h hp];exact h,λa h=>by
  rcases bO.mp h with z|z
  ·exact .inl z
  ·have e:a=p:=by simpa using z
   rw[e];exact .inr hp⟩
def Rel.T9{S:gr}{p:aj}{o:O}(R:Rel K ρ H S)(hp:H p=none)(r:OR K (ρ++[p]) (upd H p u) p o):Rel K (ρ++[p]) (upd H p u) (S++[o])/\(ρ++[p])[S.length]?=some p:=by
 have np:p∉ρ:=R.EB hp;have d:(ρ++[p])[S.length]?=some p:=by rw[<- R.len];simp
 refine⟨⟨by simp[R.len],?_,?_⟩,d⟩
 ·rw[dI];refine⟨R.nd,by simp,λa j b g e=>?_⟩;have:b=p:=by simpa using g
  exact np<|by rw[<- this,<- e];exact j
 ·intro n a o' h1 f;by_cases hn:n<S.length
  ·rw[aS<|by rw[R.len];exact hn]at h1;rw[aS hn]at f;have na:a≠p:=λz=>np (by rw[<- z];exact bP h1);exact(R.at n a o' h1 f).mono (Ext.lay hp).toExt0 (gy na)
  ·have e:n=S.length:=by
    have:=(aI.mp f).1;simp at this
    lia
   subst e;rw[d]at h1
   cases h1
   simp at f;subst f;exact r
def Ext.put{a:aj}(j:a∈ρ)(J:∀v,H a=some v->¬Sk v):Ext ρ ρ H (upd H a u):=⟨⟨dh _,λb u i h=>by
  have:b≠a:=by
   intro z;subst z;exact J _ h i
  rw[gy this];exact h⟩,λb u h n=>by
  rw[gy λz=>n<|by rw[z];exact j];exact h,λ_ h=>.inl h⟩
def Rel.Tu{S:gr}{n:Nat}{a:aj}{o:O}(R:Rel K ρ H S)(J:ρ[n]?=some a)(hn:n<S.length)(L:∀v,H a=some v->¬Sk v)(r:OR K ρ (upd H a u) a o):Rel K ρ (upd H a u) (S.set n o):=by
 refine⟨by rw[bx];exact R.len,R.nd,λm b o' h1 d=>?_⟩;by_cases f:m=n
 ·subst f;rw[J]at h1;cases h1;rw[bu hn]at d
  cases d
  exact r
 ·rw[aT<|bM f]at d;have nb:b≠a:=λz=>by
   subst z;obtain⟨g,e1⟩:=aI.mp J;obtain⟨j,e2⟩:=aI.mp h1;exact f<|(eX R.nd).mp<|e2.trans e1.symm
  exact(R.at m b o' h1 d).mono (Ext.put (bP J) L).toExt0 (gy nb)
end
abbrev yV (cn f:Str)(o:A)(S:gr):R A:=match o with
 | .ref n=>opt (vH S n) λq=>gd (q.1=cn) (opt (q.2.lookup f) λa=>.ok a S)
 | _=>.no
abbrev lB (cn f:Str)(c:Ex):Ex:=λτ S=>(c τ S).bind λo S1=>yV cn f o S1
def EM{f:Str}{o:A}{P:A->gr->Prop}{E:Str->gr->Prop}(h:(yV cn f o S).post P E):∃n fs a,o=.ref n/\S[n]?=some (.obj cn fs)/\fs.lookup f=some a/\P a S:=by
 unfold yV at h;split at h
 ·obtain⟨⟨p,fs⟩,j,h1⟩:=gD h;obtain⟨d,g⟩:=gO h1;obtain⟨a,k,m⟩:=gD g;exact⟨_,fs,a,rfl,by rw[<- (show p=cn from d)];exact yX j,k,m⟩
 ·exact h.elim
structure ClK (K:au)(cn:Str)(C:aj):Prop where
 n:w_ K cn C
 c:Cls K C
section
variable {X:Cx}{pos apos cpos p:Pos}{e a:aE}{es:List aE}{cn f m:Str}{C:aj}{c d:Ex}{k:Nat}{ps:ba}{F:ae->gr->R A}
def ku(J:ClK X.K cn C)(hf:je X.K C f)(h:AE X e c)(hb:attributeBase e f X.env (eval e X.env)=eval e X.env<|>ε):AE X (.Attribute e f pos) (lB cn f c):=PE.imp (P8 h hb) λσ H Q ⟨ρ,S,τ,R,r,h⟩=>⟨ρ,S,τ,R,r,gq (gu h) .refl λo S1 h1 ρ1 H1 x e1 R1 v1=>by
 obtain⟨n,fs,a,rfl,d,j,h1⟩:=EM h1
 cases v1 with
 | @ref p n hp=>
  obtain⟨dx,ws,g,q⟩:=R1.ob hp d J.n;obtain⟨v,hv,va⟩:=(q.look (f:=f)).2 a j;exact⟨p,C,dx,ws,v,rfl,g,J.c,hf,hv,h1 ρ1 H1 v e1 R1 va⟩⟩
abbrev A8 (cn f:Str)(o y:A)(S:gr):R Unit:=match o with
 | .ref n=>opt (vH S n) λq=>gd (q.1=cn/\q.2.length<1000) (.ok Unit.unit<|S.set n<|.obj cn<|zv f y q.2)
 | _=>.no
abbrev wY (cn f:Str)(co j:Ex):Sm:=λτ S=>.of (j τ S) λy S1=>.of (co τ S1) λo g=>.of (A8 cn f o y g) λ_ d=>.nx τ d
def BA{cn f:Str}{o:A}{S:gr}{P:Unit->gr->Prop}{E:Str->gr->Prop}(h:(A8 cn f o y S).post P E):∃n fs,o=.ref n/\S[n]?=some (.obj cn fs)/\fs.length<1000/\P Unit.unit (S.set n<|.obj cn<|zv f y fs):=by
 unfold A8 at h;split at h
 ·obtain⟨⟨m,fs⟩,j,h1⟩:=gD h;obtain⟨⟨d,k⟩,g⟩:=gO h1;exact⟨_,fs,rfl,by rw[<- (show m=cn from d)];exact yX j,k,g⟩
 ·exact h.elim
def Cd(U:ClK X.K cn C)(hf:je X.K C f)(Z:AE X e c)(hv:AE X a d)(hs:(swapsWith a (some<|.Attribute e f apos) pos.line X.env=pure false)<|>ε):AS X (.Assign [.Attribute e f apos] a pos) (wY cn f c d):=PS.imp (PC Z hv hs) λD σ H ⟨ρ,S,τ,R,r,h⟩=>⟨ρ,S,τ,R,r,gq (of_post h) .refl λy S1 h1 ρ1 H1 w e1 R1 v1=>⟨ρ1,S1,τ,R1,r.ext e1,gq (of_post h1) e1 λo L j g H2 x e2 R2 G=>by
 obtain⟨n,fs,rfl,k,J,j⟩:=BA (of_post j)
 cases G with
 | @ref p n hp=>
  obtain⟨dx,ws,m,q⟩:=R2.ob hp k U.n;have B:∀v,H2 p=some v->¬Sk v:=λv z i=>by rw[m]at z;cases z;exact i
  have ex:Ext g g H2 (upd H2 p<|.ins C dx<|nW f w ws):=Ext.put (bP hp) B;have F:=R2.Tu (o:=.obj cn<|zv f y fs) (u:=.ins C dx<|nW f w ws) hp (aI.mp k).1 B ⟨_,⟨C,dx,U.n,g8⟩,(q.put f<|v1.ext e2).ext ex⟩;exact⟨p,C,dx,ws,rfl,m,U.c,hf,by rw[<- q.length];exact J,j g _ _ ((e1.trans e2).trans ex) F<|((r.ext e1).ext e2).ext ex⟩⟩⟩
abbrev FN (P:ah)(w:af)(K:au)(mg:Str->bi)(base:ak)(k:Nat)(C:aj)(m:Str)(ps:ba)(F:ae->gr->R A):Prop:=
 ∃(f:aj) (fd:FuncData),FnOk P w K mg base (uK P w) k f fd ps (zF K ps.length F)/\Meth K C m f/\Binds K fd ps []
abbrev jj (cn m:Str)(F:ae->gr->R A)(co:Ex)(d:lq):Ex:=λτ S=>(co τ S).bind λx S1=>match x with
 | .ref n=>opt (vH S1 n) λq=>gd (q.1=cn/\q.2.lookup m=none) ((d τ S1).bind λas f=>F (x::as) f)
 | _=>.no
def yy {o:A}{S:gr}{G:R A}{P:A->gr->Prop}{E:Str->gr->Prop}(h:(match o with
 | .ref n=>opt (vH S n) λq=>gd (q.1=cn/\q.2.lookup m=none) G
 | _=>.no:R A).post P E):∃n fs,o=.ref n/\S[n]?=some (.obj cn fs)/\fs.lookup m=none/\G.post P E:=by
 split at h
 ·obtain⟨⟨k,fs⟩,g,h1⟩:=gD h;obtain⟨⟨d,j⟩,f⟩:=gO h1;exact⟨_,fs,rfl,by rw[<- (show k=cn from d)];exact yX g,j,f⟩
 ·exact h.elim
def nB{d:lq}(hC:ClK X.K cn C)(G:FN X.prog X.w X.K X.mg X.base k C m ps F)(hr:Room k X.A)(ho:AE X e c)(ha:AL X (a::es) d)(hl:∀τ S as S',d τ S=.ok as S'->as.length+1=ps.length)
  (hst:starEach (a::es) X.env=(false,eval a X.env)::starEach es X.env<|>ε) (hpl:((backTo cpos<|starEach es X.env).any (·.1)=false)<|>ε)
  {pl:Sem Bool} (ht:(eval (.Call (.Attribute e m apos) (a::es) [] cpos) X.env=(do
   let ov <- eval e X.env
   standAt apos.atName
   let(f,first) <- holding [ov] (getMethod ov m pl)
   callWith cpos f first (backTo cpos<|starEach (a::es) X.env) (backToKw cpos<|keywordEach [] X.env)))<|>ε) :
  AE X (.Call (.Attribute e m apos) (a::es) [] cpos) (jj cn m F c d):=by
 obtain⟨f,fd,U,V,P⟩:=G;refine PE.imp (L_ ho hC.c V U hr P .nil (v8 (X:=X) rfl rfl) ha hst hpl ht) λσ H Q ⟨ρ,S,τ,R,r,h⟩=>⟨ρ,S,τ,R,r,gq (gu h) .refl λo S1 h1 ρ1 H1 x e1 R1 v1=>?_⟩;obtain⟨n,fs,rfl,T,B,h1⟩:=yy h1
 cases v1 with
 | @ref p n hp=>
  obtain⟨dx,ws,Y,q⟩:=R1.ob hp T hC.n;refine⟨p,dx,ws,rfl,Y,(q.look (f:=m)).1 B,ρ1,S1,τ,R1,r.ext e1,?_⟩;have j:=gu h1
  cases hd:d τ S1 with
  | no=>rw[hd]at j;exact j
  | ex c J=>rw[hd]at j;exact XE.ext j e1
  | ok as J=>
   rw[hd]at j;intro L H2 Z e2 R2 N;rw[bX];refine⟨by rw[bq,<- N.length];exact hl τ S1 as J hd,L,J,_,R2,.cons (.ref<|e2.get hp) N,iY j (λa O q g H3 v e3=>q g H3 v<|(e1.trans e2).trans e3) λc O q C g H3 n e3=>q C g H3 n<|(e1.trans e2).trans e3⟩
def Lh(U:ClK X.K cn C)(G:FN X.prog X.w X.K X.mg X.base k C m ps F)(Z:Room k X.A)(ho:AE X e c)(hl:1=ps.length<|>ε)
  {pl:Sem Bool} (ht:(eval (.Call (.Attribute e m apos) [] [] cpos) X.env=(do
   let ov <- eval e X.env
   standAt apos.atName
   let(f,first) <- holding [ov] (getMethod ov m pl)
   callWith cpos f first (backTo cpos<|starEach [] X.env) (backToKw cpos<|keywordEach [] X.env)))<|>ε) :
  AE X (.Call (.Attribute e m apos) [] [] cpos) (jj cn m F c gv):=by
 obtain⟨f,fd,L,N,B⟩:=G;refine PE.imp (Hl ho U.c N L Z B .nil (v8 (X:=X) rfl rfl) ht) λσ H Q ⟨ρ,S,τ,R,r,h⟩=>⟨ρ,S,τ,R,r,gq (gu h) .refl λo S1 h1 ρ1 H1 x e1 R1 v1=>?_⟩;obtain⟨n,fs,rfl,J,g,h1⟩:=yy h1
 cases v1 with
 | @ref p n hp=>
  obtain⟨dx,ws,O,q⟩:=R1.ob hp J U.n;refine⟨p,dx,ws,rfl,O,(q.look (f:=m)).1 g,?_⟩;exact⟨hl,ρ1,S1,_,R1,.one<|.ref hp,iY h1 (λa j q d H3 v e3=>q d H3 v<|e1.trans e3) λc j q C d H3 n e3=>q C d H3 n<|e1.trans e3⟩
abbrev To (P:ah)(w:af)(K:au)(mg:Str->bi)(base:ak)(k:Nat)(C:aj)(F:ae->gr->R A):Prop:=
 ∃(f:aj) (fd:FuncData),FnOk P w K mg base qA k f fd ["self"] (su K 1 F)/\Mk K C f/\Binds K fd ["self"] []
abbrev rT (cn:Str)(F:ae->gr->R A):Ex:=λ_ S=>match F [.ref S.length] (S++[.obj cn []])with
 | .ok .non d=>.ok (.ref S.length) d
 | _=>.no
def zg(Z:ClK X.K cn C)(G:To X.prog X.w X.K X.mg X.base k C F)(hr:Room (k+1) X.A)(hm:X.mg cn=some (.ref C))(hg:Gl X cn<|>ε)(U:(cn == ("__debug__" : Str))=false<|>δ):AE X (.Call (.Name cn p) [] [] pos) (rT cn F):=by
 obtain⟨f,fd,P,L,J⟩:=G;refine PE.imp (J2 L P hr hg hm J .nil MM U) λσ H Q ⟨ρ,S,τ,R,r,h⟩=>?_;intro x dx O B ne;rw[bX];have g:upd H dx (.own x) x=none:=by rw[gy<|bM ne];exact O
 obtain⟨e1,R1⟩:=R.im (u:=.own x) B;have ex:Ext ρ (ρ++[x]) H (upd (upd H dx<|.own x) x<|.ins C dx []):=e1.trans<|Ext.lay g;obtain⟨R2,d⟩:=R1.T9 (o:=.obj cn []) (u:=.ins C dx []) g ⟨[],⟨C,dx,Z.n,g8⟩,trivial⟩;have h:Am.R.post (match F [.ref S.length] (S++[.obj cn []])with
  | .ok .non j=>.ok (.ref S.length) j
  | _=>.no) (qV X ρ H Q) (XE X ρ H):=h
 cases m:F [.ref S.length] (S++[.obj cn []])with
 | ex c j=>rw[m]at h;exact h.elim
 | no=>rw[m]at h;exact h.elim
 | ok y j=>
  rw[m]at h
  cases y with
  | non=>exact⟨rfl,_,_,[.ref S.length],.non,j,R2,.one<|.ref d,m,λρ' H' v e N hv=>⟨by cases hv;rfl,h ρ' H' _ (ex.trans e) N<|.ref<|e.get d⟩⟩
  | _=>exact h.elim
end
def jG{d:lq}{n:Nat}(h:∀τ S as S',d τ S=.ok as S'->as.length=n):∀τ S as S',d τ S=.ok as S'->as.length+1=n+1:=λτ S as S' e=>cO (·+1)<|h τ S as S' e
abbrev Ow (st:aF)(j:Nat):aF:=match st with
 | .ClassDef _ _ _ body _ _ _ _ _ _ _=>body.getD j (.Pass ⟨0,0,0,0⟩)
 | _=>.Pass ⟨0,0,0,0⟩
abbrev KI (K:au)(C:aj)(m qual:Str)(st:aF):Prop:=∃(f:aj) (fd:FuncData),Meth K C m f/\Fun K m qual st f fd
abbrev Q_ (K:au)(C:aj)(qual:Str)(st:aF):Prop:=∃(f:aj) (fd:FuncData),Mk K C f/\Fun K "__init__" qual st f fd
section
variable {P:ah}{w:af}{K:au}{mg:Str->bi}{base:ak}{m qual:Str}{st:aF}{ps:ba}{k:Nat}{F:ae->gr->R A}{C f:aj}{oc:aa}{od an:Option aj}{osl:Array (bi)}{kV doc pm cdv ct:aa}
def KI.of(a:PySem.W.findIn K (.ref C) m=some (some<|.ref f))(n:PySem.W.isFn K (.ref f)=true)(l:K.lookup f=some ⟨oc,od,.func<|PySem.W.fnOf m qual (lA st) (jA st) (gE st) .none kV doc pm an cdv ct,osl⟩)(c:PySem.W.codeIn K cdv qual=true)(k:PySem.W.keepIn K (.ref f)=true):KI K C m qual st:=⟨f,_,⟨a,n,k⟩,Bk l c k⟩
def Q_.of(a:PySem.W.makesIn K C=true)(b:PySem.W.findIn K (.ref C) "__init__" = some (some<|.ref f))(n:PySem.W.isFn K (.ref f)=true)(j:PySem.W.keepIn K (.ref C)=true)(l:K.lookup f=some ⟨oc,od,.func<|PySem.W.fnOf "__init__" qual (lA st) (jA st) (gE st) .none kV doc pm an cdv ct,osl⟩)(c:PySem.W.codeIn K cdv qual=true)(k:PySem.W.keepIn K (.ref f)=true):Q_ K C qual st:=⟨f,_,⟨a,b,n,j⟩,Bk l c k⟩
meta abbrev U8 (x qual:Str)(st:aF)(ps:ba):Prop:=∀us:bd,us.length=ps.length->∀(kV doc pm:aa) (an:Option aj) (cdv ct:aa),bindArgs (PySem.W.fnOf x qual (lA st) (jA st) (gE st) .none kV doc pm an cdv ct) ⟨us,[]⟩=pure (ps.zip us)
def KI.mk(d:KI K C m qual st)(h:∀{f fd},Fun K m qual st f fd->FnOk P w K mg base (uK P w) k f fd ps (zF K ps.length F))(b:U8 m qual st ps):FN P w K mg base k C m ps F:=by
 obtain⟨f,fd,a,F⟩:=d;exact⟨f,fd,h F,a,F.binds λkV doc pm an cdv ct us g=>b us g kV doc pm an cdv ct⟩
def Q_.mk(d:Q_ K C qual st)(h:∀{f fd},Fun K "__init__" qual st f fd->FnOk P w K mg base qA k f fd ["self"] (su K 1 F))(b:U8 "__init__" qual st ["self"]):To P w K mg base k C F:=by
 obtain⟨f,fd,a,F⟩:=d;exact⟨f,fd,h F,a,F.binds λkV doc pm an cdv ct us g=>b us g kV doc pm an cdv ct⟩
end
end Am
namespace L2
open PySem PySem.Spec PyProof.Rows
section
variable {P:ah}{w:af}
meta abbrev tK (P:ah)(w:af):=tupleKind<|g9 P w
end
section
variable {P:ah}{w:af}
abbrev th (P:ah)(w:af)(k:List Key):Int:=(tK P w).hash k
end
end L2
namespace Am
open PySem PySem.Spec PyProof.Rows L2
abbrev j8 (kvs:List<|Str×A)(k:Str):List (Str×A):=kvs.filter λd=>!decide (d.1=k)
section
variable {K:au}{ρ:be}{H:Hp}
theorem DS.drop(k:Str):∀{kvs:List<|Str×A}{ks:List<|Key×V},DS K ρ H kvs ks->DS K ρ H (j8 kvs k) (uB ks (Sum.inr k:Key))
 | [],[],_=>trivial
 | p::r,q::r',⟨⟨e,a⟩,t⟩=>by
  have d:=DS.drop k t;unfold j8 uB at *
  by_cases c:p.1=k
  ·rw[cG<|by simp[c],cG<|by simp[e,c]];exact d
  ·rw[cN<|by simp[c],cN<|by rw[e];simpa using λz=>c z];exact⟨⟨e,a⟩,d⟩
end
section
variable {X:Cx}{pos:Pos}{a b:aE}
abbrev vL (j:Bool)(x y:A)(S:gr):R A:=match x,y with
 | .str k,.ref n=>opt (iI S n) λkvs=>.ok (.bl<|if j then !(gT kvs k).isSome else(gT kvs k).isSome) S
 | _,_=>.no
def MK(j:X.A.units+64<cLine):jI X (compareOp .In) (r2 X<|vL false):=λpins s σ H x y v u Q I rx ry h9=>by
 x_go
 cases va with
 | str k=>
  cases vb with
  | @ref p n hp=>
   obtain⟨kvs,hn,h⟩:=gD h;obtain⟨ks,e,d⟩:=R.jE hp<|g7 hn;exact O9 () pins s σ H _ _ v u Q I rx ry ⟨p,_,rfl,pZ.k (k:=Sum.inr k) e,by rw[<- (d.look k).1];exact h _ _ _ .refl R<|.bl _⟩
  | _=>exact h.elim
 | _=>exact h.elim
def Ao(j:X.A.units+64<cLine):jI X (compareOp .NotIn) (r2 X<|vL true):=λpins s σ H x y v u Q I rx ry h9=>by
 x_go
 cases va with
 | str k=>
  cases vb with
  | @ref p n hp=>
   obtain⟨kvs,hn,h⟩:=gD h;obtain⟨ks,e,d⟩:=R.jE hp<|g7 hn;exact ES () pins s σ H _ _ v u Q I rx ry ⟨p,_,rfl,pZ.k (k:=Sum.inr k) e,by rw[<- (d.look k).1];exact h _ _ _ .refl R<|.bl _⟩
  | _=>exact h.elim
 | _=>exact h.elim
abbrev EC (x:A)(S:gr):R A:=match x with
 | .ref n=>opt (iI S n) λkvs=>.ok (.int kvs.length) S
 | _=>.no
def Py:g6 X (.builtin "len") (rN X<|f1 EC):=λpins s σ H xs us Q I r h0=>by
 kt_k;clear h0
 cases hv with
 | ref hp=>
  obtain⟨kvs,hn,h⟩:=gD h;obtain⟨ks,e,d⟩:=R.jE hp<|g7 hn;kst_p
  cases rx
  exact RL I (.inl e) λt s' f=>⟨.int ks.length,H,f,⟨_,rfl⟩,by rw[<- d.length];exact h _ _ _ .refl R<|.int _⟩
 | _=>exact h.elim
abbrev zd (o:A)(as:ae)(S:gr):R A:=match o,as with
 | .ref n,[.str k]=>opt (iI S n) λkvs=>.ok ((gT kvs k).getD .non) S
 | _,_=>.no
abbrev DF (o:A)(as:ae)(S:gr):R A:=match o,as with
 | .ref n,[.str k]=>opt (iI S n) λkvs=>opt (gT kvs k) λx=>.ok x (S.set n<|.jE<|j8 kvs k)
 | _,_=>.no
def UT {g:Nat->Str->R A}{o:A}{as:ae}{P:A->gr->Prop}{E:Str->gr->Prop}(h:(match o,as with
 | .ref n,[.str k]=>g n k
 | _,_=>.no:R A).post P E):∃n k,o=.ref n/\as=[.str k]/\(g n k).post P E:=by
 split at h
 ·exact⟨_,_,rfl,rfl,h⟩
 ·exact h.elim
def Lk(U:X.A.units+64<cLine):Bf X "dict.get" (rM X zd):=λpins s σ H x K v us Q I rx B h9=>by
 kpf_c;obtain⟨n,k,G,has,h⟩:=UT h;obtain⟨kvs,hn,hP⟩:=gD h;subst G has;obtain⟨N,rfl,g⟩:=zS va
 cases g
 cases vo with
 | @ref p _ hp=>
  obtain⟨ks,h1,F⟩:=R.jE hp (g7 hn)
  cases rx
  obtain⟨L,rfl,r1⟩:=vals1 B;refine OT () I (pZ.k (k:=Sum.inr k) h1) r1 λO s' C f=>⟨_,H,C,f,hP _ _ _ .refl R ?_⟩;obtain⟨d,J⟩:=F.look k
  cases e1:gT kvs k with
  | none=>
   rw[e1]at d
   cases e2:n_ ks (Sum.inr k:Key)with
   | none=>exact .non
   | some _=>rw[e2]at d;cases d
  | some j=>
   obtain⟨v1,e2,m⟩:=J j e1;rw[e2];exact m
def OF:Bf X "dict.pop" (rM X DF):=λpins s σ H x G v us Q I rx B h9=>by
 kpf_c;obtain⟨n,k,F,has,h⟩:=UT h;obtain⟨kvs,hn,h⟩:=gD h;obtain⟨y,hy,hP⟩:=gD h;subst F has;obtain⟨K,rfl,g⟩:=zS va
 cases g
 cases vo with
 | @ref p _ hp=>
  obtain⟨ks,h1,f⟩:=R.jE hp (g7 hn)
  cases rx
  obtain⟨J,rfl,r1⟩:=vals1 B;obtain⟨w,hw,j⟩:=(f.look k).2 y hy;obtain⟨ex,m⟩:=R.lI hp (g7 hn)<|f.drop k;exact RW I h1 (k:=Sum.inr k) r1 hw (.inl rfl) λL s' C d=>⟨w,_,C,d,hP _ _ _ ex m<|j.ext ex⟩
abbrev HW (x y:A)(S:gr):R Unit:=match x,y with
 | .ref n,.str k=>opt (iI S n) λkvs=>gd ((gT kvs k).isSome=true) (.ok Unit.unit<|S.set n<|.jE<|j8 kvs k)
 | _,_=>.no
abbrev xX (co j:Ex):Sm:=λτ S=>.of (co τ S) λx S1=>.of (j τ S1) λy f=>.of (HW x y f) λ_ d=>.nx τ d
def E5{x:A}{S:gr}{P:Unit->gr->Prop}{E:Str->gr->Prop}(h:(HW x y S).post P E):∃n k kvs,x=.ref n/\y=.str k/\iI S n=some kvs/\(gT kvs k).isSome=true/\P Unit.unit (S.set n<|.jE<|j8 kvs k):=by
 unfold HW at h;split at h
 ·obtain⟨kvs,hn,h⟩:=gD h;obtain⟨d,h⟩:=gO h;exact⟨_,_,kvs,rfl,rfl,hn,d,h⟩
 ·exact h.elim
def C5{o:aE}{co L:Ex}(U:AE X o co)(hi:AE X i L):AS X (.Delete [.Subscript o i spos] pos) (xX co L):=PS.imp (Lj U hi) λD σ H h9=>by
 room;refine⟨ρ,S,τ,R,r,gq (of_post h) .refl λx S1 h1 ρ1 H1 v e1 R1 v1=>⟨ρ1,S1,τ,R1,r.ext e1,gq (of_post h1) e1 λy K F f H2 w e2 R2 G=>?_⟩⟩;obtain⟨n,k,kvs,C,hy,hn,J,j⟩:=E5<|of_post F;subst C hy
 cases G
 have d:=v1.ext e2
 cases d with
 | @ref p _ hp=>
  obtain⟨ks,m,g⟩:=R2.jE hp<|g7 hn;obtain⟨ex,B⟩:=R2.lI hp (g7 hn)<|g.drop k;exact⟨p,ks,Sum.inr k,rfl,m,rfl,by rw[<- (g.look k).1];exact J,j f _ _ ((e1.trans e2).trans ex) B<|((r.ext e1).ext e2).ext ex⟩
def BN:g6 X (.type "dict") (λxs H Q=>∃(p:aj) (kvs:List<|Key×V),xs=[.ref p]/\H p=some (.dK kvs)/\∀l,H l=none->Q (.ref l) (upd H l<|.dK kvs)):=by
 fin2;obtain⟨p,kvs,rfl,g,q⟩:=h;kst_p
 cases rx
 obtain⟨z,hd,j,d,dd⟩:=Ea I.hok g;refine PySem.kt_call_dict hd dd (by rw[<- d.length];exact z) λh' dd' hs=>?_;have hp:=I.hok.fresh<|aJ s.heap.objs.size;have k:∀b u,s.heap.get? b=some u->h'.get? b=some u:=λb u e=>by
  have f:b≠s.heap.objs.size:=bh<|aP e;exact(hs.2 b f).trans (aK _ e)
 refine⟨.ref s.heap.objs.size,_,I.laid (t':=s.toks) k (aJ _)<|zm z ?_ d dd',rfl,q _ hp⟩;have:sysModules<s.heap.objs.size:=I.big;simpa using (fV this)
abbrev Bx (x:A)(S:gr):R A:=match x with
 | .ref n=>opt (iI S n) λkvs=>.ok (.ref S.length) (S++[.jE kvs])
 | _=>.no
def Mv:g6 X (.type "dict") (rN X<|f1 Bx):=g6.imp BN λvs H Q h0=>by
 kt_k;clear h0
 cases hv with
 | @ref p n hp=>
  obtain⟨kvs,hn,h⟩:=gD h;obtain⟨ks,e,d⟩:=R.jE hp<|g7 hn;refine⟨p,ks,rfl,e,λl f=>?_⟩;obtain⟨ex,g,f⟩:=R.QB (xs:=kvs) (vs:=ks) f d;exact h _ _ _ ex g<|.ref f
 | _=>exact h.elim
end
abbrev QZ (w:af):List (Str×Int)->List (Tok×Tok)->List DictEntry
 | (k,i)::r,(t,u)::ts=>⟨PyData.keyHash w.params k,.str k t,.int i u⟩::QZ w r ts
 | _,_=>[]
abbrev KJ:List (Str×Int)->List (Tok×Tok)->List (Key×aa)
 | (k,i)::r,(_,u)::ts=>(Sum.inr k,.int i u)::KJ r ts
 | _,_=>[]
abbrev KdS (w:af)(K:au)(a:aj)(kvs:List<|Str×Int):Prop:=
 ∃(ts:List<|Tok×Tok) (n:Nat),ts.length=kvs.length/\(kvs.map (·.1)).Nodup/\(a == sysModules)=false/\K.lookup a=some { cls:=.type "dict",dict:=none,data:=.dict (QZ w kvs ts).toArray n,slots:=#[]}
abbrev ji (kvs:List<|Str×Int)(k:Str):bj:=(kvs.find? λd=>decide<|d.1=k).map (·.2)
section
variable {P:ah}{w:af}{K:au}{a:aj}{kvs:List (Str×Int)}
def Nf(k:Str)(t:Tok):(g9 P w).is (Sum.inr k) (.str k t)=true:=by
 show v5 (Sum.inr k) (.str k t)=true;exact oU (P:=P) (w:=w) (k:=Sum.inr k) ⟨t,rfl⟩
theorem D_:∀(kvs:List<|Str×Int) (ts:List<|Tok×Tok),∀e∈QZ w kvs ts,∃k,(g9 P w).is k e.key=true/\e.hash=(g9 P w).hash k
 | [],_,e,h=>by cases h
 | _::_,[],e,h=>by cases h
 | (k,i)::r,(t,u)::ts,e,h=>by
  rcases bJ.mp h with z|z
  ·subst z;exact⟨Sum.inr k,Nf k t,rfl⟩
  ·exact D_ r ts e z
theorem Au:∀(kvs:List<|Str×Int) (ts:List<|Tok×Tok),Pairs (g9 P w) (QZ w kvs ts) (KJ kvs ts)
 | [],_=>.nil
 | _::_,[]=>.nil
 | (k,i)::r,(t,u)::ts=>.cons (Nf k t) rfl<|Au r ts
theorem AR:∀(kvs:List<|Str×Int) (ts:List<|Tok×Tok),ts.length=kvs.length->(KJ kvs ts).map (·.1)=kvs.map λkv=>(Sum.inr kv.1:Key)
 | [],_,_=>rfl
 | (k,i)::r,(t,u)::ts,h=>by
  show Sum.inr k::_=_;rw[AR r ts<|by simpa using h];rfl
theorem yU(k:Str):∀(kvs:List<|Str×Int) (ts:List<|Tok×Tok),ts.length=kvs.length->(ji kvs k=none->valueAt (KJ kvs ts) (Sum.inr k:Key)=none)/\∀i,ji kvs k=some i->∃u,valueAt (KJ kvs ts) (Sum.inr k:Key)=some (.int i u)
 | [],_,_=>⟨λ_=>rfl,λi h=>nomatch h⟩
 | (k',j)::r,(t,u)::ts,h=>by
  have d:=yU k r ts (by simpa using h);by_cases c:k'=k
  ·subst c;refine⟨λh=>?_,λi h=>?_⟩
   ·simp[ji]at h
   ·have:i=j:=by simpa[ji]using h.symm
    subst this;exact⟨u,by simp[KJ,valueAt]⟩
  ·have e1:ji ((k',j)::r) k=ji r k:=by simp[ji,cF,c]
   have e2:valueAt (KJ ((k',j)::r) ((t,u)::ts)) (Sum.inr k:Key)=valueAt (KJ r ts) (Sum.inr k:Key):=by simp[valueAt,KJ,cF,c]
   rw[e1,e2];exact d
def KdS.dict{h:ak}(k:KdS w K a kvs)(X:K.In h):(a == sysModules)=false/\∃ts:List<|Tok×Tok,ts.length=kvs.length/\h.DictOf (g9 P w) a (KJ kvs ts):=by
 obtain⟨ts,n,d,hn,hs,e⟩:=k;refine⟨hs,ts,d,_,_,n,X _ _ e,⟨rfl,rfl,rfl⟩,rfl,λe g=>D_ kvs ts e<|by simpa using g,by simpa using Au kvs ts,?_⟩;rw[AR kvs ts d];have:(kvs.map λf=>(Sum.inr f.1:Key))=(kvs.map (·.1)).map Sum.inr:=by rw[cM];rfl
 rw[this];exact hn.map _ λx y h z=>h<|by injection z
end
section
variable {X:Cx}{pos p np cpos:Pos}{e:aE}{x:Str}{a C:aj}{kvs:List (Str×Int)}{c:Ex}
abbrev Gf (kvs:List<|Str×Int)(j:Bool)(y:A)(S:gr):R A:=match y with
 | .str k=>.ok (.bl<|if j then !(ji kvs k).isSome else(ji kvs k).isSome) S
 | _=>.no
abbrev Lq (kvs:List<|Str×Int)(y:A)(S:gr):R A:=match y with
 | .str k=>opt (ji kvs k) λi=>.ok (.int i) S
 | _=>.no
abbrev UE (a:aj)(f:Str->Hp->VK->Prop):R2:=λy x H Q=>∃k,y=.str k/\x=.ref a/\f k H Q
def Mb(J:KdS X.w X.K a kvs):jI X (compareOp .NotIn) (UE a λk H Q=>Q (.bl<|!(ji kvs k).isSome) H):=λpins s σ H y z v u Q I ry rx ⟨k,hy,d,q⟩=>by
 subst hy d;obtain⟨hs,ts,g,dd⟩:=J.dict (P:=X.prog) I.rg
 cases rx
 refine wpAny_notIn_of (oU (k:=Sum.inr k) ry) hs dd.mapOf ⟨.bl _,H,I.tok _,rfl,?_⟩;obtain⟨f,j⟩:=yU k kvs ts g;dsimp only at q
 cases e1:ji kvs k with
 | none=>rw[f e1];rw[e1]at q;exact q
 | some i=>obtain⟨u,e2⟩:=j i e1;rw[e2];rw[e1]at q;exact q
def Tr(J:KdS X.w X.K a kvs):Mz X (λx y H Q=>∃k i,x=.ref a/\y=.str k/\ji kvs k=some i/\Q (.int i) H):=λvalue d pins s σ H x y v u Q I rx ry ⟨k,i,m,hy,hi,q⟩ hs=>by
 subst m hy;obtain⟨_,ts,p,dd⟩:=J.dict (P:=X.prog) I.rg
 cases rx
 obtain⟨t,hv⟩:=(yU k kvs ts p).2 i hi;have j:=dd.typeIs (s:=s);unfold subscriptTail;refine aG ?_;rw[getitemInPython_of_ne j.not_modules];refine aG<|wpAny_specialOf j PySem.F.slot_dict_getitem.lookup ?_;have f:wpAny (model X.prog X.w) X.A (subscripted d false (.ref a) u) (λr g=>wpAny (model X.prog X.w) X.A (letTemporaryGo value (.ref a) r >>= λ_=>pure r) (EP X pins σ Q) X.xe g) X.xe s:=by
  rw[hs];exact wpAny_operating<|wpAny_getItem_of (oU (k:=Sum.inr k) ry) dd.mapOf hv<|aG<|wpAny_letTemporaryGo<|aM ⟨.int i,H,I.tok _,⟨t,rfl⟩,q⟩
 first
  | exact aM (aG f)
  | exact aG f
  | exact f
def LZ{f:A->gr->R A}{v:V}{r:R2}{H:Hp}{Q:VK}(hf:∀ρ S b x H Q,Rel X.K ρ H S->AV X.K ρ H b x->(f b S).post (qV X ρ H Q) (XE X ρ H)->r x v H Q)(h:tE X (BI f c) σ H Q):Qi r (tE X c) (tC v) σ H Q:=by
 obtain⟨ρ,S,τ,R,d,h⟩:=h;exact⟨ρ,S,τ,R,d,gq (gu h) .refl λb S1 h1 ρ1 H1 x e1 R1 v1=>hf ρ1 S1 b x H1 Q R1 v1<|gq h1 e1 λ_ _ z=>z.ext e1⟩
def PK{j:Bool}{f:Str->Bool}(hf:∀k,f k=if j then !(ji kvs k).isSome else(ji kvs k).isSome):∀ρ S b x H Q,Rel X.K ρ H S->AV X.K ρ H b x->(Gf kvs j b S).post (qV X ρ H Q) (XE X ρ H)->UE a (λk H Q=>Q (.bl<|f k) H) x (.ref a) H Q:=λρ S b x H Q R vb h=>by
 cases vb with
 | str k=>exact⟨k,rfl,rfl,by show Q (.bl<|f k) H;rw[hf];exact h _ _ _ .refl R<|.bl _⟩
 | _=>exact h.elim
def KQ{j:Ex}{H:Hp}{Q:Bool->Hp->Prop}(h:tT X (kh j) σ H Q):tE X j σ H λv H1=>∃k,v=.bl k/\Q k H1:=by
 gp_on;refine⟨ρ,S,τ,R,r,gq (gu h) .refl λc S1 h1 ρ1 H1 x e1 R1 v1=>?_⟩
 cases c with
 | bl k=>cases vG v1;exact⟨k,rfl,h1 ρ1 H1 e1 R1⟩
 | _=>exact h1.elim
def Mn(j:KdS X.w X.K a kvs)(J:X.mg x=some (.ref a))(L:AE X e c)(hg:Gl X x<|>ε)(hd:(x == ("__debug__" : Str))=false<|>δ):AT X (.Compare e [.NotIn] [.Name x p] pos) (kh<|BI (Gf kvs true) c):=
 PT.imp (Dv (Mb j) L (qf (v:=.ref a) hg J rfl hd)<|by with_unfolding_all rfl) λσ H Q h=>LZ (PK λ_=>rfl)<|KQ h
def Oc(j:KdS X.w X.K a kvs)(J:X.mg x=some (.ref a))(L:AE X e c)(hs:u9 e<|>θ)(hg:Gl X x<|>ε)(hd:(x == ("__debug__" : Str))=false<|>δ):AE X (.Subscript (.Name x p) e pos) (BI (Lq kvs) c):=
 PE.imp (FU (Tr j) (qf (v:=.ref a) hg J rfl hd) L hs) λσ H Q h9=>by
  obtain⟨ρ,S,τ,R,d,h⟩:=h9;refine⟨ρ,S,τ,R,d,gq (gu h) .refl λb S1 h1 ρ1 H1 x e1 R1 v1=>?_⟩
  cases v1 with
  | str k=>
   obtain⟨i,hi,h1⟩:=gD h1;exact⟨k,i,rfl,rfl,hi,h1 _ _ _ e1 R1<|.int i⟩
  | _=>exact h1.elim
abbrev Qo (K:au)(a:aj):Option (ba):=match K.lookup a with
 | some ⟨.type "tuple",none,.seq its _,_⟩=>if its.size<=sizeLine then its.toList.mapM λv=>match v with
  | .str x _=>some x
  | _=>none else none
 | _=>none
theorem vj{K:au}{ρ:be}{H:Hp}:∀{vs:bd}{xs:ba},(vs.mapM λv=>match v with
  | .str x _=>some x
  | _=>none)=some xs->Vals (xs.map V.str) vs/\AVs K ρ H (xs.map .str) (xs.map V.str)
 | [],xs,h=>by cases h;exact⟨.nil,.nil⟩
 | v::vs,xs,h=>by
  rw[List.mapM_cons]at h;obtain⟨x,d,h⟩:=bD.mp h;obtain⟨ys,hy,h⟩:=bD.mp h
  cases h
  obtain⟨g,f⟩:=vj (K:=K) (ρ:=ρ) (H:=H) hy
  cases v with
  | str y t=>cases d;exact⟨.cons ⟨t,rfl⟩ g,.cons (.str _) f⟩
  | _=>cases d
def P0{K:au}{H:Hp}{a:aj}{xs:ba}(h:Qo K a=some xs):AV K ρ H (.ktu<|xs.map .str) (.ref a):=by
 unfold Qo at h;split at h
 ·rename_i d n k e;split at h
  ·rename_i g;obtain⟨j,f⟩:=vj (K:=K) (ρ:=ρ) (H:=H) h;exact .ktu ⟨_,d,n,e,rfl,rfl,rfl,g,j⟩ f
  ·cases h
 ·cases h
def Km{xs:ba}(j:X.mg x=some (.ref a))(J:Qo X.K a=some xs)(hg:Gl X x<|>ε)(hd:(x == ("__debug__" : Str))=false<|>δ):AE X (.Name x pos) (eC<|.ktu<|xs.map .str):=
 PE.imp (qf (v:=.ref a) hg j rfl hd) λσ H Q h9=>by
  room;exact h ρ H _ .refl R<|P0 J
abbrev yY (x:Str)(c:Ex):Sm:=λτ S=>.of (c τ S) λ_ S1=>.ex x S1
def Ft(hn:w_ X.K x C)(J:PySem.W.excIn X.K C Mx "ValueError.__new__" = true)(hh:X.A.handled=none)(L:AE X e c)(hg:Gl X x<|>ε)
  (hs:starEach [e] X.env=(false,eval e X.env)::starEach [] X.env<|>ε) (j:((backTo cpos<|starEach [] X.env).any (·.1)=false)<|>ε) (hd:(x == ("__debug__" : Str))=false<|>δ) :
  AS X (.Raise (some<|.Call (.Name x np) [e] [] cpos) none pos) (yY x c):=by
 intro pins s σ H D I ⟨ρ,S,τ,R,r,h⟩;refine vJ (Gn I.mod hn J) dQ hh (j3 L pG hs) hg hs j hd pins s σ H D I ?_;exact⟨ρ,S,τ,R,r,gq (of_post h) .refl λv S1 h1 ρ1 H1 w e1 R1 v1=>⟨(show 1<=sizeLine by decide),h1 C ρ1 H1 hn e1 R1⟩⟩
abbrev SJ:Ex:=λ_ _=>.no
def RB:AE X e SJ:=λpins s σ H Q I ⟨ρ,S,τ,R,r,h⟩=>h.elim
end
end Am
namespace L2
open PySem PySem.Spec PyProof.Rows
section
variable {X:Cx}
abbrev Qe:List (Str ⊕ TE)->Str->St->Hp->(Str->Hp->Prop)->Prop
 | [],out,_,H,k=>k out H
 | .inl x::ps,out,σ,H,k=>x.length<=1000/\Qe ps (out++x) σ H k
 | .inr t::ps,out,σ,H,k=>t σ H λv H'=>(∃i,v=.int i/\i.natAbs.log2<64/\Qe ps (out++Str.ofString (toString i)) σ H' k)\/∃y:Str,v=.str y/\y.length<=1000/\Qe ps (out++y) σ H' k
theorem vf{Q:VK}:∀{es:List aE}{ps:List<|Str ⊕ TE},FParts X es ps->∀(H:Hp) (s:aA) (out:Str),Inv X pins σ H s->out.length+2000 * es.length<=sizeLine ->
  Qe ps out σ H (λx H'=>Q (.str x) H')->wpAny (model X.prog X.w) X.A (joinParts out<|evalEach es X.env) (EP X pins σ Q) X.xe s
 | _,_,.nil,H,s,out,I,f,h=>joinParts_nilE (joinParts_nil (show EP X pins σ Q _ _ from⟨.str out,H,I.tok _,⟨_,rfl⟩,h⟩)<|by simpa using f)
 | _,_,.txt (x:=x) hp,H,s,out,I,f,h=>by
  refine fq<|joinParts_cons<|fE ?_;rw[bq]at f;have g:=h.1;have d:(out++x).length=out.length+x.length:=e_ ..;exact⟨by rw[d];lia,vf hp H _ _ (I.tok _) (by rw[d];lia) h.2⟩
 | _,_,.val (e:=e) (t:=t) he hp,H,s,out,I,f,h=>by
  rw[bq]at f;refine fq (joinParts_cons<|FormattedValue_plain<|iQ (he pins s σ H _ I h) λv B ⟨x,H1,j,r1,m⟩=>?_)
  rcases m with⟨i,g,hi,h1⟩|⟨y,g,hi,h1⟩
  ·subst g;obtain⟨tk,rfl⟩:=r1;refine formatField_int_small () ?_;have C:(Str.ofString<|toString i).length<=65:=by
    have:=int_text_length_le (a:=i) (k:=64) ⋯ hi;rw[PySem.ofString_length];exact this
   have d:(out++Str.ofString (toString i)).length=out.length+(Str.ofString<|toString i).length:=e_ ..;exact⟨by rw[d];lia,vf hp H1 _ _ (j.tok _) (by rw[d];lia) h1⟩
  ·subst g;obtain⟨tk,rfl⟩:=r1;have d:(out++y).length=out.length+y.length:=e_ ..;refine PyProof.Rows.formatField_str (λp k=>?_) ();exact⟨by rw[d];lia,vf hp H1 _ _ (j.tok _) (by rw[d];lia) h1⟩
abbrev Vo (ps:List<|Str ⊕ TE):TE:=λσ H Q=>Qe ps Str.empty σ H λx H'=>Q (.str x) H'
def QA{ps:List<|Str ⊕ TE}(h:FParts X (e1::e2::es) ps)(j:2000 * (e1::e2::es).length<=sizeLine<|>δ):PE X (.JoinedStr (e1::e2::es) pos) (Vo ps):=
 λpins s σ H Q I q=>JoinedStr_many<|vf h H s Str.empty I (by rw[show Str.empty.length=0 from rfl,zero_add];exact j) q
end
end L2
namespace Am
open PySem PySem.Spec PyProof.Rows L2
section
variable {X:Cx}{pos:Pos}
abbrev Qm:List (Str ⊕ Ex)->Str->ae->gr->R Str
 | [],out,_,S=>.ok out S
 | .inl x::ps,out,τ,S=>gd (x.length<=1000) (Qm ps (out++x) τ S)
 | .inr e::ps,out,τ,S=>(e τ S).bind λv S1=>match v with
  | .int i=>gd (i.natAbs.log2<64) (Qm ps (out++Str.ofString (toString i)) τ S1)
  | .str y=>gd (y.length<=1000) (Qm ps (out++y) τ S1)
  | _=>.no
abbrev Qp (ps:List<|Str ⊕ Ex):Ex:=λτ S=>(Qm ps Str.empty τ S).bind λx d=>.ok (.str x) d
theorem yI{H0:Hp}{k:Str->Hp->Prop}:∀(ps:List<|Str ⊕ Ex) (out:Str) (ρ:be) (H:Hp) (S:gr),Ext ρ0 ρ H0 H->Rel X.K ρ H S->SR X.K ρ H τ σ ->
  (Qm ps out τ S).post (λx S'=>∀ρ' H',Ext ρ0 ρ' H0 H'->Rel X.K ρ' H' S'->k x H') (XE X ρ0 H0)->Qe (Qg X ps) out σ H k
 | [],out,ρ,H,S,e,R,r,h=>h ρ H e R
 | .inl x::ps,out,ρ,H,S,e,R,r,h=>by
  obtain⟨d,h⟩:=gO h;exact⟨d,yI ps _ ρ H S e R r h⟩
 | .inr a::ps,out,ρ,H,S,e,R,r,h=>by
  refine⟨ρ,S,τ,R,r,?_⟩;have h:=gu h;refine iY h (λv S1 h1 ρ1 H1 u e1 R1 v1=>?_) λf S' z=>z.ext e
  cases v with
  | int i=>
   obtain⟨hi,h1⟩:=gO h1
   cases v1
   exact .inl ⟨i,rfl,hi,yI ps _ ρ1 H1 S1 (e.trans e1) R1 (r.ext e1) h1⟩
  | str y=>
   obtain⟨hi,h1⟩:=gO h1
   cases v1
   exact .inr ⟨y,rfl,hi,yI ps _ ρ1 H1 S1 (e.trans e1) R1 (r.ext e1) h1⟩
  | _=>exact h1.elim
def MV{ps:List<|Str ⊕ Ex}(hp:FParts X (e1::e2::es)<|Qg X ps)(j:2000 * (e1::e2::es).length<=sizeLine<|>δ):AE X (.JoinedStr (e1::e2::es) pos) (Qp ps):=
 PE.imp (QA hp j) λσ H Q h9=>by
 room;exact yI ps _ ρ H S .refl R r<|iY (gu h) (λx S1 h1 ρ1 H1 e1 R1=>h1 ρ1 H1 _ e1 R1<|.str _) λ_ _ z=>z
end
section
@[irreducible] noncomputable def big:Nat:=2 ^ 4096
end
def K1:bootBuiltins "dict" = some (.type "dict"):=by decide +kernel
end Am
namespace Po
open Am
meta abbrev Pl:=List<|Int×Int
abbrev val (d:Pl)(k:Int):Int:=((d.find? λp=>decide<|p.1=k).map (·.2)).getD 0
abbrev has (d:Pl)(k:Int):Bool:=d.any λp=>decide<|p.1=k
abbrev put (d:Pl)(k v:Int):Pl:=if has d k=true then d.map (λp=>if p.1=k then(p.1,v)else p)else d++[(k,v)]
abbrev acc (d:Pl)(k v:Int):Pl:=put d k<|val d k+v
structure Ok (l:Pl):Prop where
 up:l.Pairwise λp q=>p.1<q.1
 nz:∀p∈l,p.2≠0
abbrev turn (a:Pl):Pl:=a.reverse.map λp=>(-p.1,p.2)
abbrev iv (d:Pl):List (Int×A):=d.map λp=>(p.1,.int p.2)
abbrev pA (p:Int×Int):A:=.tup [.int p.1,.int p.2]
abbrev pl (l:Pl):ae:=l.map pA
end Po
namespace Tb
abbrev fg (r:am)(x:Int):Nat:=r.findIdx λy=>decide<|x<y
abbrev put:List (am)->Int->List (am)
 | [],x=>[[x]]
 | r::rs,x=>if fg r x=r.length then(r++[x])::rs else r.set (fg r x) x::put rs (r.getD (fg r x) 0)
abbrev row:List (am)->Int->Nat
 | [],_=>0
 | r::rs,x=>if fg r x=r.length then 0 else row rs (r.getD (fg r x) 0)+1
abbrev gs (r:am)(x:Int):ar:=(List.range r.length).filter λk=>decide<|x<r.getD k 0
end Tb
namespace Am
open PySem L2
abbrev Rows (S:gr):ar->List (am)->Prop
 | [],[]=>True
 | r::rs,x::T=>gn S r=some (x.map .int)/\Rows S rs T
 | _,_=>False
def Rf{a:Nat}{xs ys:am}(h:gn S a=some (xs.map .int))(h':gn S b=some (ys.map .int)):xG S 12 (.ref a) (.ref b)=some (decide<|xs=ys):=by
 show(gn S a).bind (λxs=>(gn S b).bind λys=>vS (xG S 11) xs ys)=_;rw[h,cK,h',cK];exact xT xs ys
def vQ{a:A}{k:Bool}(h:xG S 12 a b=some k):m_ false a b S=.ok (.bl k) S:=by unfold m_;rw[h];rfl
def JU{xs:ae}{n:Nat}{src:Ic}{t:Te}{e:Ex}{S:gr}(hs:src τ S=.ok (kB n xs.length) S)(j:gn S n=some xs)(p:A->Bool)(f:A->A)
  (J:∀x∈xs,t (x::jv cap τ) S=.ok (p x) S) (L:∀x∈xs,p x=true->e (x::jv cap τ) S=.ok (f x) S) (U:xs.length<=16777216) :
  jX (none::cap) src (iC 0) t e τ S=.ok (.ref S.length) (S++[.lst<|(xs.filter p).map f]):=by
 have d:∀i,i<xs.length->xs.getD i .unb∈xs:=λi hi=>by
  rw[aV,aL hi];exact dX hi
 rw[yu hs (λi=>xs.getD i .unb) (λi=>p<|xs.getD i .unb) (λi=>f<|xs.getD i .unb) (λi hi=>by
  have hi:i<xs.length:=hi;show(gn S n).bind _=_;rw[j,cK,aV,aL hi];rfl) (by
   show(match gn S n with
    | some ys=>decide (ys.length<=xs.length)
    | none=>false)=true
   rw[j];simp) (λi hi=>J _<|d i hi) (λi hi=>L _<|d i hi) U]
 have:=jB xs p f .unb;show R.ok _ (S++[O.lst<|((List.range xs.length).filter _).map _])=_;rw[this]
end Am
namespace L2
open PySem PySem.Spec PyProof.Rows
def E8{x:aa}{env j:Env}(h:env.frame=j.frame):noteFrame x env=noteFrame x j:=by
 unfold noteFrame PySem.frameOf;rw[h]
abbrev Sj (M:Model)(A:az)(E:aa->aA->Prop)(use:Option<|aa->Sem Unit)(Q:aa->aA->Prop)(acc:aa)(C:aj)(cenv:Env)(r:Result)(s':aA):Prop:=match r with
 | .ok v=>compPost M A E use Q acc C (.ok v) s'
 | .error x=>∃m,s'.heap.Ns C m/\∀h',Heap.SameBut C s'.heap h'->wpAny M A (PySem.passOn "comprehension.variables-let-go" x cenv:Sem aa) (λ_ _=>False) E { s' with heap:=h' }
def BP{A:az}{E:aa->aA->Prop}{env:Env}{scope:Scope}{Z first:Sem aa}{g:Comprehension}{gs:List Comprehension}{cl:List<|Str×aj}{use:Option<|aa->Sem Unit}{Q:aa->aA->Prop}
  (hcl:clausesOf e=g::gs) (hs:∀x,foldedSetIterable g.iter env x=pure x) (hclos:closureFor scope env=pure cl) (hk:scope.kind=.function) (hnm:∀x∈scope.names,x.2=.local->scope.names.lookup x.1=some .local)
  (h:wpAny M A first (λx s₁=>wpAny M A (pyIter x) (λit s₂=>wpAny M A Z (λacc s₃=>wpAny M A (newFunctionEnv scope env.globals cl [] env.qual none .none<|some env) (λcenv s₄=>
   codeAny M A (.compStart e 0 it acc { cenv with scope:=relabel scope env }) (Sj M A E use Q acc cenv.locals { cenv with scope:=relabel scope env }) s₄) E s₃) E s₂) E s₁) E s):wpAny M A (comprehension e scope env pos Z false first use) Q E s:=by
 have d:∀{B:Type} {m:Sem B} {P L:B->aA->Prop} {t:aA},wpAny M A m P E t->(∀a u,P a u->L a u)->wpAny M A m L E t:=λT hp=>bY T hp λ_ _ z=>z;unfold comprehension;rw[hclos,hcl];refine aG<|d h λx s₁ h1=>aG<|eZ<|aG<|wpAny_of_eq (hs x)<|aG<|b_<|d h1 λit s₂ U=>?_;refine wpAny_standIf<|aG<|d U λacc s₃ O=>aG<|aM<|aG<|d O λcenv s₄ N=>?_;dsimp only;have hv:∀x∈(scope.names.filter λx=>(x.2 == .local || x.2 == .cell) && x.1 != (".0" : Str)).reverse,x.2=.local->Env.kindOf { cenv with scope:=relabel scope env } x.1=some .local:=
  λx F l=>lookup_relabel_local<|hnm x (fZ.mp<|List.mem_reverse.mp F).1 l
 have p:∀x∈(scope.names.filter λx=>(x.2 == .local || x.2 == .cell) && x.1 != (".0" : Str)).reverse.drop 1++(scope.names.filter λx=>(x.2 == .local || x.2 == .cell) && x.1 != (".0" : Str)).reverse.take 1,
   x.2=.local->Env.kindOf { cenv with scope:=relabel scope env } x.1=some .local:=λx F K=>by
  rcases bO.mp F with h1|h1
  ·exact hv x (List.mem_of_mem_drop h1) K
  ·exact hv x (List.mem_of_mem_take h1) K
 refine b_ (aG<|wpAny_attempt<|b_<|wpAny_run<|eF N λr s' k=>?_)
 cases r with
 | ok f=>
  cases use with
  | none=>
   obtain⟨m,hn,k⟩:=k;exact aG<|b_<|wpAny_comp_letGo (cenv:={ cenv with scope:=relabel scope env }) hk _ s' m hv hn λh' _ _ J=>aM<|k h' J
  | some u=>
   refine aG<|wpAny_rule<|aG<|b_<|bY k (λ_ C j=>?_) λ_ _ h'=>h';obtain⟨m,hn,j⟩:=j;exact aG<|wpAny_comp_letGo (cenv:={ cenv with scope:=relabel scope env }) hk _ C m p hn λh' V _ G=>aM<|j h' G
 | error x=>
  obtain⟨m,hn,k⟩:=k;exact aG<|b_<|wpAny_comp_letGo (cenv:={ cenv with scope:=relabel scope env }) hk _ s' m hv hn λh' _ _ J=>bY (k h' J) (λ_ _ z=>z.elim) λ_ _ z=>z
theorem Nq{h h' B J:ak}{C:aj}:∀{l:List Env},h.FunFrames B l->(∀env∈l,∀L,env.frame=some L->L≠C)->(∀b o,b≠C->h.get? b=some o->(∀vs,o.data≠.fields vs)->∃o',h'.get? b=some o'/\o'.data=o.data)->(∀b,B.get? b=none->J.get? b=none)->h'.FunFrames J l
 | [],_,_,_,_=>trivial
 | env::l,⟨k,⟨L,o,f,n,q,d⟩,r⟩,hC,hk,hB=>by
  obtain⟨o',q',j⟩:=hk L o (hC env (aZ ..) L f) q d;exact⟨k,⟨L,o',f,hB L n,q',λvs=>by rw[j];exact d vs⟩,Nq r (λe g=>hC e<|aW _ g) hk hB⟩
section
variable {X:Cx}{pins:bt}{σ:St}{H:Hp}{s':aA}{e:aj}{cls:aa}{g:ak}{xs:be}
def JD(I:Inv X pins σ H s')(hst:X.stack=X.env::X.outer)(hf:X.env.frame=some X.env.locals)
  (R:(∃(g':ak) (vs:bd),Heap.MadeExcOf g' s'.heap e cls vs/\g'.FunFrames X.base X.stack/\(∀a u,H a=some u->∃o,g'.get? a=some o)/\∀b o,g.get? b=some o->b∉xs->∃o',g'.get? b=some o') \/
   ∃(B:ak) (a0:aa),(Heap.FlyingW B X.stack e cls a0 s'.heap\/Heap.HeldW B X.stack e cls a0 X.env.locals s'.heap)/\(∀a u,H a=some u->∃o,B.get? a=some o)/\(∀b o,g.get? b=some o->b∉frs X.stack->b∉xs->∃o',B.get? b=some o')/\C0 e s'.heap) {Q:Unit->aA->Prop} {E:aa->aA->Prop}
  (hQ:∀h' B a0,Heap.HeldW B (X.env::X.outer) e cls a0 X.env.locals h'->B.StaysIn s'.heap->s'.heap.UpToSlots h'->(∀a u,H a=some u->∃o,B.get? a=some o)->(∀b o,g.get? b=some o->b∉frs X.stack->b∉xs->∃o',B.get? b=some o')->C0 e h'->Q Unit.unit { s' with heap:=h' }) :
  wpAny (model X.prog X.w) X.A (noteFrame (.ref e) X.env) Q E s':=by
 have k:X.A.frames=some (X.env::X.outer):=by rw[<- hst];exact I.ok.frames
 rcases R with⟨g',vs,M,p,N,T⟩|⟨B,a0,F|F,c1,c2,k0⟩
 ·rw[hst]at p;have Z:=eS p λenv C b m=>(cT.mpr ⟨env,C,m⟩:b∈frs (X.env::X.outer));obtain⟨t,C,U,ht⟩:=M.there;have J:(PySem.W.hideAll g'<|frs (X.env::X.outer)).get? e=none:=by
   cases V:(PySem.W.hideAll g'<|frs (X.env::X.outer)).get? e with
   | none=>rfl
   | some o'=>have:=cC _ V;rw[M.new]at this;cases this
  kln_w;have P:wpAny (model X.prog X.w) X.A (noteFrame (.ref e) X.env) (λ_ d=>∃h',d={ s' with heap:=h' }/\Heap.HeldW (PySem.W.hideAll g'<|frs (X.env::X.outer)) (X.env::X.outer) e cls (.ref t) X.env.locals h'/\s'.heap.UpToSlots h') (λ_ _=>False) s':=by
   unfold noteFrame;dsimp[hf];refine aG<|c7 C rfl (x:=.none) rfl ?_;rw[aO ⋯];refine wpAny_entryW (base:=PySem.W.hideAll g'<|frs (X.env::X.outer)) (a0:=.ref t) k (Z.of_keeps λb o m _=>⟨o,M.keeps b o m,rfl⟩) hf C k1 J rfl (by simp) rfl λh' L=>?_;obtain⟨j,Y,K,f⟩:=L;exact⟨h',rfl,⟨j,J,Y,K⟩,f⟩
  refine bY (gU.any (e:=e) (gU.note _ _) P<|yW M) (λ_ d z=>?_) λ_ _ z=>z.1.elim;obtain⟨⟨h',rfl,j,f⟩,k0⟩:=z;refine hQ h' _ _ j k1 f (λa u G=>?_) (λb o q m O=>?_) k0
  ·obtain⟨o,q⟩:=N a u G;refine⟨o,cz _ q λz=>?_⟩;rw[<- hst]at z;rw[I.qg a z]at G;cases G
  ·obtain⟨o',q'⟩:=T b o q O;exact⟨o',cz _ q'<|by rw[<- hst];exact m⟩
 ·rw[hst]at F;refine bY (gU.any (e:=e) (gU.note _ _) (wpAny_looks_onW (Q:=λ_ d=>∃h',d={ s' with heap:=h' }/\Heap.HeldW B (X.env::X.outer) e cls a0 X.env.locals h'/\s'.heap.UpToSlots h') (E:=λ_ _=>False) k hf F λh' j f=>⟨h',rfl,j,f⟩) k0) (λ_ d z=>?_) λ_ _ z=>z.1.elim;obtain⟨⟨h',rfl,j,f⟩,k0'⟩:=z;exact hQ h' B a0 j F.1 f c1 c2 k0'
 ·rw[hst]at F;refine eT hf F.2.2.2 ?_;exact hQ s'.heap B a0 F F.1 (Heap.UpToSlots.refl _) c1 c2 k0
end
section
variable {X:Cx}{scope:Scope}{N:ba}{C:aj}{s3 s2:aA}{H3 H':Hp}{fp:be}{pins pins2:bt}{σ σ2:St}
def comp_back(I3:Inv X pins σ H3 s3)(f3:∀b∈fp,n8 X pins H3 b)(J:Inv (iG X scope N C s3 H3 fp) pins2 σ2 H' s2){hh:ak}
  (keep:∀b o,s3.heap.get? b=some o->H3 b=none->b∉frs X.stack->b∉fp->hh.get? b=some o) (slot:∀b o,s3.heap.get? b=some o->H3 b=none->b∈frs X.stack->b∉fp->∃sl,hh.get? b=some { o with slots:=sl })
  (there:∀b o,s3.heap.get? b=some o->b∉fp->∃o',hh.get? b=some o') (L:qh X.prog X.w H' hh):Inv X pins σ H' { s2 with heap:=hh }:=by
 have u:=J.base;refine I3.GX (s':={ s2 with heap:=hh }) (ch:=fp) J.os ⟨keep,slot,λb o e n d=>u.free b o e n d,there,u.tups,u.frzs,u.tbls⟩ L J.bare λb f=>?_;obtain⟨_,j,_,m,g,k⟩:=f3 b f;exact⟨m,j,g,k⟩
def yj(U:C=s3.heap.objs.size)(Z:Inv X pins σ H3 s3)(f3:∀b∈fp,n8 X pins H3 b)(J:Inv (iG X scope N C s3 H3 fp) pins2 σ2 H' s2){hh:ak}(L:Heap.SameBut C s2.heap hh):Inv X pins σ H' { s2 with heap:=hh }:=by
 have u:=J.base;have f:∀b o,s3.heap.get? b=some o->b≠C:=λb o e=>by rw[U];exact bh (aP e)
 have m:H' C=none:=J.free;have g:∀c v,H' c=some v->c≠C:=λc v e z=>by rw[z,m]at e;cases e
 refine comp_back Z f3 J (λb o e n h9 d=>?_) (λb o e n h9 d=>?_) (λb o e d=>?_) λa j k=>?_
 ·rw[L.2 b<|f b o e];exact u.keep b o e n h9 d
 ·rw[L.2 b<|f b o e];exact u.slot b o e n h9 d
 ·rw[L.2 b<|f b o e];exact u.there b o e d
 ·refine(J.hok a j k).stay (λc v hc q=>?_) (λ_ q=>q) λ_ _ q=>q;rw[L.2 c<|hc.elim (λz=>by rw[z];exact g a j k) λz=>g c _ z];exact q
def Bq(hC:C=s3.heap.objs.size)(I3:Inv X pins σ H3 s3)(f3:∀b∈fp,n8 X pins H3 b)(hX:X.ex=[])(hst:X.stack=X.env::X.outer)(hf:X.env.frame=some X.env.locals){fr:Env}(hfr:fr.frame=X.env.frame){use:Option<|aa->Sem Unit}{Q:aa->aA->Prop}{acc:aa}
  {pn':bt} {xe0:aa->aA->Prop} {e:aj} {cls:aa} (I2:Inv (iG X scope N C s3 H3 fp) pins2 σ2 H' s2) (R2:t_ ((iG X scope N C s3 H3 fp).nQ pn' xe0) H' e cls s2) (hE:EX X cls none H') :
  notedBy (model X.prog X.w) X.A fr (λx s''=>Sj (model X.prog X.w) X.A X.xe use Q acc C fr (.error x) s'') (.ref e) s2:=by
 have u:=I2.base;have nC:∀b o,s3.heap.get? b=some o->b≠C:=λb o e=>by rw[hC];exact bh (aP e)
 have fC:H' C=none:=I2.free;have P:∀b o,X.s₀.heap.get? b=some o->∃o',s3.heap.get? b=some o':=λb o q=>I3.base.there b o q (by rw[hX];simp);have nfp:∀b o,X.s₀.heap.get? b=some o->b∉fp:=λb o q f=>by
  obtain⟨_,_,_,z3,_⟩:=f3 b f
  rcases z3 with z|z
  ·rw[hX]at z;cases z
  ·exact absurd (aY (aP q) z)<|cR _
 have pin3:∀p∈X.pn,∃o,s3.heap.get? p.1=some o/\p.1∉fp/\p.1∉frs X.stack:=λp hp=>by
  obtain⟨q,_,n1,n2,_⟩:=I3.pin p<|bK _ hp;refine⟨_,q,λf=>?_,λz=>(bJ.mp<|I3.tV _ z).elim n1 n2⟩;obtain⟨_,_,_,_,_,z5⟩:=f3 _ f;exact z5 p (bK _ hp) rfl
 have IX:=yj hC I3 f3 I2<|Heap.SameBut.refl C s2.heap;have frX:∀b∈frs X.stack,∃o,s3.heap.get? b=some o/\∀O,o.data≠.fields O:=λb f=>by
  obtain⟨_,o,q,d⟩:=I3.stack.mem f;exact⟨o,q,d⟩
 have hm:∃m,s2.heap.Ns C m:=by obtain⟨m,hm,_⟩:=I2.loc;exact⟨m,hm⟩
 show wpAny _ _ (noteFrame (.ref e) fr) _ _ s2;rw[E8 hfr];refine JD (g:=s3.heap) (xs:=fp) (cls:=cls) IX hst hf ?_ λh1 B a0 held k1 up c1 c2 k0=>?_
 ·rcases R2 with⟨g',O,M,ffg,m1,m2,_⟩|⟨B,a0,F,c1,c2,_,k0⟩|⟨B,a0,L,eL,F,c1,c2,_,k0⟩
  ·exact .inl ⟨g',O,M,ffg,m1,m2⟩
  ·exact .inr ⟨B,a0,.inl F,c1,c2,k0⟩
  ·have eL:X.env.frame=some L:=eL;rw[hf]at eL
   cases eL
   exact .inr ⟨B,a0,.inr F,c1,c2,k0⟩
 obtain⟨m,hm⟩:=hm;refine⟨m,up.ns hm,λh' sb=>?_⟩;obtain⟨oC,esC,epC,hoC,hdC,_⟩:=up.ns hm;obtain⟨b1,b2,b3,oe,O,T,oT,ts,he,hcls,hd,Z,hnT,hTe,hT,k,h3⟩:=held;have eC:e≠C:=λz=>by
  rw[z,hoC]at he;cases he;rw[hdC]at hd;cases hd
 have TC:T≠C:=λz=>by
  rw[z,hoC]at hT;cases hT;rw[hdC]at k;cases k
 have he':h'.get? e=some oe:=by rw[sb.2 e eC];exact he
 have hT':h'.get? T=some oT:=by rw[sb.2 T TC];exact hT
 have hsz:3<ts.size:=(fL.mp h3).1;have nT:(Value.ref T == Value.none)=false:=by simp
 have nT':(Value.ref T != Value.none)=true:=by simp
 obtain⟨G,hh2⟩:∃G,G=h'.update T (Obj.mapFields (·.setIfInBounds 3 (rawInt X.env.locals))):=⟨_,rfl⟩;have fin:X.xe (.ref e) { s2 with heap:=G }:=by
  have o2:∀b,b≠T->G.get? b=h'.get? b:=λb f=>by rw[hh2];exact dj h' _ (bM f)
  have j:∀b,b≠C->b≠T->G.get? b=h1.get? b:=λb f ht=>(o2 b ht).trans<|sb.2 b f;have kk:∀b o,b≠C->B.get? b=some o->G.get? b=some o:=λb o f q=>by
   rw[j b f λz=>by rw[z,hnT]at q;cases q];exact b1 b o q
  have nf:∀b o,h1.get? b=some o->(∀O,o.data≠.fields O)->b≠T:=λb o q d z=>by
   rw[z,hT]at q;cases q;exact d _ k
  have upp:∀b o,b≠C->s2.heap.get? b=some o->(∀O,o.data≠.fields O)->∃U,G.get? b=some { o with slots:=U }:=λb o f q d=>by
   obtain⟨U,q1⟩:=up b o q d;exact⟨U,by rw[j b f<|nf b _ q1 d];exact q1⟩
  have cov:∀b o o',b≠C->B.get? b=some o'->s2.heap.get? b=some o->G.get? b=some o:=λb o o' f K es=>by
   have:=k1 b o' K;rw[es]at this;cases this;exact kk b o f K
  have slot:∀b o,s3.heap.get? b=some o->H3 b=none->b∈frs X.stack->b∉fp->∃U,G.get? b=some { o with slots:=U }:=λb o J n f hx=>by
   obtain⟨U,q1⟩:=u.slot b o J n f hx;obtain⟨Y,V,d9⟩:=frX b f;rw[J]at V;cases V;obtain⟨sl',z⟩:=upp b { o with slots:=U } (nC b o J) q1 d9;exact⟨sl',z⟩
  have I4:Inv X pins σ H' { s2 with heap:=G }:=by
   refine comp_back I3 f3 I2 (λb o J n h9 hx=>?_) slot (λb o J hx=>?_) λa u' ea=>?_
   ·obtain⟨o',K⟩:=c2 b o J h9 hx;exact cov b o o' (nC b o J) K (u.keep b o J n h9 hx)
   ·by_cases h9:b∈frs X.stack
    ·obtain⟨U,z⟩:=slot b o J (I3.qg b h9) h9 hx;exact⟨_,z⟩
    ·obtain⟨o',K⟩:=c2 b o J h9 hx;exact⟨o',kk b o' (nC b o J) K⟩
   ·have aC:∀c v,H' c=some v->c≠C:=λc v q z=>by rw[z,fC]at q;cases q
    refine(I2.hok a u' ea).stay (λc v hc q=>?_) (λ_ q=>q) λ_ _ q=>q
    rcases hc with z|z
    ·subst z;obtain⟨o',K⟩:=c1 _ u' ea;exact cov _ v o' (aC _ _ ea) K q
    ·obtain⟨o',K⟩:=c1 c _ z;exact cov c v o' (aC _ _ z) K q
  have hB:∀b,B.get? b=none->(PySem.W.hideAll B [C]).get? b=none:=λb f=>by
   cases q:(PySem.W.hideAll B [C]).get? b with
   | none=>rfl
   | some o=>have:=cC _ q;rw[f]at this;cases this
  have inB:∀b o,B.get? b=some o->b≠C->(PySem.W.hideAll B [C]).get? b=some o:=λb o q f=>cz _ q (by simpa using f);refine hE pins σ _ e I4 (.inr<|.inr ⟨PySem.W.hideAll B [C],a0,X.env.locals,hf,⟨λb o q=>?_,hB e b2,?_,oe,O,T,Obj.mapFields (·.setIfInBounds 3 (rawInt X.env.locals)) oT,ts.setIfInBounds 3<|rawInt X.env.locals,?_,hcls,hd,Z,hB T hnT,hTe,?_,fJ k _,?_⟩,λa u' ea=>?_,λb o q h9 _=>?_,λp hp=>?_,?_⟩)
  ·refine kk b o (λz=>?_)<|cC _ q;rw[z,PySem.W.hideAll_none [C]<|a_.mpr rfl]at q;cases q
  ·rw[hst];refine Nq b3 (λenv hen L hL=>?_) (λb o f q d=>⟨o,by rw[j b f<|nf b o q d];exact q,rfl⟩) hB;obtain⟨Y,V,_⟩:=frX L (by rw[hst];exact cT.mpr ⟨env,hen,hL⟩);exact nC L Y V
  ·show G.get? e=some oe;rw[o2 e<|bM hTe];exact he'
  ·show G.get? T=_;rw[hh2];exact eU _ hT' (Obj.isFreed_of_fields<|fJ k _)
  ·rw[Array.getElem?_setIfInBounds_self_of_lt hsz]
  ·obtain⟨o,q⟩:=c1 a u' ea;exact⟨o,inB a o q λz=>by rw[z,fC]at ea;cases ea⟩
  ·obtain⟨o',q'⟩:=P b o q;obtain⟨Y,V⟩:=c2 b o' q' h9<|nfp b o q;exact⟨Y,inB b Y V<|nC b o' q'⟩
  ·obtain⟨o,q,n,n2⟩:=pin3 p hp;obtain⟨Y,V⟩:=c2 _ o q n2 n;exact⟨Y,inB _ Y V<|nC _ o q⟩
  ·obtain⟨o,vs',q1,q2,q3,q4⟩:=k0;exact⟨o,vs',by show G.get? e=some o;rw[j e eC<|bM hTe];exact q1,q2,q3,q4⟩
 have step:wpAny (model X.prog X.w) X.A (setFlight (.ref e) fr.frame) (λ_ s₂=>wpAny (model X.prog X.w) X.A (throw (.ref e):Sem aa) (λ_ _=>False) X.xe s₂) X.xe { s2 with heap:=h' }:=by
  unfold setFlight;refine aG<|c7 (s:={ s2 with heap:=h' }) he' hd Z ?_;rw[aR nT',hfr,hf];show wpAny _ _ (setField (.ref T) 3<|rawInt X.env.locals) _ _ _;refine wpAny_setField (s:={ s2 with heap:=h' }) hT' k hsz<|wpAny_throw ?_;rw[<- hh2];exact fin
 show wpAny _ _ (PySem.passOn "comprehension.variables-let-go" (.ref e) fr:Sem aa) _ _ { s2 with heap:=h' };unfold PySem.passOn;refine aG<|c7 (s:={ s2 with heap:=h' }) he' hd Z ?_;rw[aO<|show ¬((Value.ref T == Value.none)=true)from by simp]
 first
  | exact aG (aM<|aG step)
  | exact aG step
end
def Cu{X:Cx}{use:Option<|aa->Sem Unit}{Q':aa->aA->Prop}{iter:aE}{N:ba}{wi:TI}{g:TG}{tc:TT}{te:TE}(hX:X.ex=[])(hst:X.stack=X.env::X.outer)(hf:X.env.frame=some X.env.locals)(hca:X.calm=true)(S:CpScope X scope N cap)(hi:PI X tg iter wi)
  (hg:∀C s₀ H₀ ex,PG (iG X scope N C s₀ H₀ ex) tg g) (ht:∀C s₀ H₀ ex,MQ (iG X scope N C s₀ H₀ ex) ifs tc)
  (he:∀C s₀ H₀ ex pn' xe',(∀cls H',EX X cls none H'->EX ((iG X scope N C s₀ H₀ ex).nQ pn' xe') cls none H')->PE ((iG X scope N C s₀ H₀ ex).nQ pn' xe') elt te)
  (hs:(∀x,foldedSetIterable iter X.env x=pure x)<|>ζ):∀(pins:bt) (s:aA) (σ:St) (H:Hp) (Q:VK),Inv X pins σ H s->M0 cap wi g tc te σ H Q ->
  (∀(s6:aA) (C D:aj) (H5:Hp) (m:Str->bi),s6.heap.Ns C m->n8 X pins H5 C->(∀h',Heap.SameBut C s6.heap h'->Inv X pins σ H5 { s6 with heap:=h' })->Q (.ref D) H5->∀v,compPost (model X.prog X.w) X.A X.xe use Q' (.ref D) C (.ok v) s6) ->
  wpAny (model X.prog X.w) X.A (comprehension (.ListComp elt [⟨tg,iter,ifs,0⟩] scope pos) scope X.env (firstIterPos [⟨tg,iter,ifs,0⟩] pos) (newList []) (firstAsync [⟨tg,iter,ifs,0⟩]) (firstIter [⟨tg,iter,ifs,0⟩] X.env) use) Q' X.xe s:=by
 intro pins s σ H Q I h hfin;kpc_g;refine BP rfl hs (wM hfree) S.kind S.nm<|iQ (hi pins s σ H _ I h) λxv s1 h1=>iQ h1 λitv s2 h2=>?_;obtain⟨it,fp,tn,J,H2,rfl,I2,T,st2,f2,h2⟩:=h2;refine bQ<|Ek λU k old B=>?_;obtain⟨W,⟨m0,w0⟩,turn⟩:=h2 s2.heap.objs.size I2.fresh;dsimp only at k old B ⊢;have I3:Inv X pins σ (upd H2 s2.heap.objs.size<|.lst []) { s2 with heap:=s2.heap.push {}}:=I2.Iw (t':=s2.toks) (its:=[]) .nil<|er _;have hfp:∀b∈fp,∃o,s2.heap.get? b=some o:=λb f=>by
  obtain⟨o,e,_⟩:=T.obj 0 _ st2 b f;exact⟨o,e⟩
 have neD:∀b∈fp,b≠s2.heap.objs.size:=λb f=>by
  obtain⟨o,e⟩:=hfp b f;exact bh<|aP e
 have f3:∀b∈fp,n8 X pins (upd H2 s2.heap.objs.size<|.lst []) b:=λb f=>⟨by rw[gy<|neD b f];exact(f2 b f).1,(f2 b f).2⟩;have hDC:s2.heap.objs.size≠(s2.heap.push {}).objs.size:=by rw[cU];exact bh (cD _)
 have I4:=J0 (tk:=s2.toks+([]:List<|Str×aa).length) (fp:=fp) S I3 f3 (λb f=>by
  obtain⟨o,e⟩:=hfp b f;exact⟨o,aK _ e⟩) k B old
 have st4:tn 0 U:=T.keep _ _ _ st2 λb f o e=>old b o<|aK _ e;have hc:(iG X scope N (s2.heap.push {}).objs.size { s2 with heap:=s2.heap.push {}} (upd H2 s2.heap.objs.size<|.lst []) fp).calm=true:=hca;have K:∀{H':Hp},(∀b∈fp,H' b=none)->∀b∈fp,n8 (iG X scope N (s2.heap.push {}).objs.size { s2 with heap:=s2.heap.push {}} (upd H2 s2.heap.objs.size<|.lst []) fp) [] H' b:=λhn b f=>by
  have ok:=I4.ok;refine⟨hn b f,(ok.exf b f).1,ok.exfs b f,.inl f,λx c e=>(ok.exf b f).2 x c e,λp hp=>nomatch hp⟩
 have V:∀s4:aA,s4={ s2 with heap:=U,toks:=s2.toks+([]:List<|Str×aa).length } ->
   codeAny (model X.prog X.w) X.A (.compLoop (.ListComp elt [⟨tg,iter,ifs,0⟩] scope pos) 0 (.ref it) (.ref s2.heap.objs.size)<|compEnvC scope (cellsFrom ((s2.heap.push {}).objs.size+1) scope.names<|nS X.env scope.names []) (s2.heap.push {}).objs.size X.env)
    (Sj (model X.prog X.w) X.A X.xe use Q' (.ref s2.heap.objs.size) (s2.heap.push {}).objs.size<|compEnvC scope (cellsFrom ((s2.heap.push {}).objs.size+1) scope.names<|nS X.env scope.names []) (s2.heap.push {}).objs.size X.env) s4:=by
  rintro s4 rfl;refine codeAny_loop rfl (λn s'=>∃i L H',Inv (iG X scope N (s2.heap.push {}).objs.size { s2 with heap:=s2.heap.push {}} (upd H2 s2.heap.objs.size<|.lst []) fp) [] L H' s'/\tn i s'.heap/\(∀b∈fp,H' b=none)/\W i n L H') (λn s5 hI=>?_) m0 ⟨0,_,_,I4,st4,λb f=>(f3 b f).1,w0⟩;obtain⟨i,P,H5,I5,st5,fr5,w5⟩:=hI;show wpAny _ X.A ((compTurn (.ListComp elt [⟨tg,iter,ifs,0⟩] scope pos) 0 (.ref it) (.ref s2.heap.objs.size)<|compEnvC scope (cellsFrom ((s2.heap.push {}).objs.size+1) scope.names<|nS X.env scope.names []) (s2.heap.push {}).objs.size X.env).onRaise λx=>do noteFrame x _;theTreesLotGoes x) _ _ s5;refine wpAny_noted ?_;rw[compTurn_list];refine aG (eZ<|aG ?_)
  rcases turn i n P H5 w5 with⟨stop,q⟩|⟨go,step⟩
  ·refine iQ (T.done (iG X scope N (s2.heap.push {}).objs.size { s2 with heap:=s2.heap.push {}} (upd H2 s2.heap.objs.size<|.lst []) fp) rfl rfl rfl hc i [] s5 P H5 _ I5 (K fr5) st5 stop) λr s6 h9=>?_;obtain⟨hr,I6⟩:=h9;subst hr;obtain⟨m6,hn6,_⟩:=I6.loc;exact aM (hfin s6 _ _ H5 m6 hn6 (I3.B5 (aJ _) I6.free) (λh' sb=>yj rfl I3 f3 I6 sb) q _)
  ·refine iQ (T.item (iG X scope N (s2.heap.push {}).objs.size { s2 with heap:=s2.heap.push {}} (upd H2 s2.heap.objs.size<|.lst []) fp) rfl rfl rfl hc i [] s5 P H5 _ I5 (K fr5) st5 go) λr s6 h9=>?_;obtain⟨u,hr,h6⟩:=h9;subst hr;refine aG<|iQ h6 λ_ s7 ⟨x,H7,I7,r7,y7,Y,fr7⟩=>?_;have I7':=I7.pinned (K fr7)<|T.obj _ _ Y;refine aG<|Ca (hg _ _ _ fp _ s7 P H7 x u _ I7' r7<|step x H7 y7) λ_ s8 ⟨F,H8,I8,q8⟩=>?_;refine aG<|Ca (ht _ _ _ fp _ s8 F H8 _ I8 q8) λok s9 ⟨H9,I9,q9⟩=>?_;have again:∀{G:aA} {j:Hp},Inv (iG X scope N (s2.heap.push {}).objs.size { s2 with heap:=s2.heap.push {}} (upd H2 s2.heap.objs.size<|.lst []) fp) ([]++qP fp s7.heap) F j G->(∃m',m'<n/\W (i+1) m' F j) ->
     ∃m,m<n/\∃i L H',Inv (iG X scope N (s2.heap.push {}).objs.size { s2 with heap:=s2.heap.push {}} (upd H2 s2.heap.objs.size<|.lst []) fp) [] L H' G/\tn i G.heap/\(∀b∈fp,H' b=none)/\W i m L H':=λ{G j} O h9=>by
    obtain⟨m',hm,w10⟩:=h9;refine⟨m',hm,i+1,F,j,O.nP,T.keep _ _ _ Y λb f o e=>(O.pin (b,o)<|br _<|br _<|jP f e).1,λb f=>?_,w10⟩;obtain⟨o,e,d⟩:=T.obj _ _ Y b f;exact(O.pin (b,o)<|br _<|br _<|jP f e).2.1
   cases ok with
   | false=>
    rw[aO bC]at q9;exact aM ⟨rfl,again I9 q9⟩
   | true=>
    rw[aR rfl]at q9;refine aG<|aG<|bY (he (s2.heap.push {}).objs.size { s2 with heap:=s2.heap.push {}} (upd H2 s2.heap.objs.size<|.lst []) fp ((iG X scope N (s2.heap.push {}).objs.size { s2 with heap:=s2.heap.push {}} (upd H2 s2.heap.objs.size<|.lst []) fp).pn++([]++qP fp s7.heap)) (notedBy (model X.prog X.w) X.A (compEnvC scope (cellsFrom ((s2.heap.push {}).objs.size+1) scope.names<|nS X.env scope.names []) (s2.heap.push {}).objs.size X.env) λx s''=>Sj (model X.prog X.w) X.A X.xe use Q' (.ref s2.heap.objs.size) (s2.heap.push {}).objs.size (compEnvC scope (cellsFrom ((s2.heap.push {}).objs.size+1) scope.names<|nS X.env scope.names []) (s2.heap.push {}).objs.size X.env) (.error x) s'') (λcls H' hE pins2 σ2 s' e I' R'=>Bq rfl I3 f3 hX hst hf (fr:=(compEnvC scope (cellsFrom ((s2.heap.push {}).objs.size+1) scope.names<|nS X.env scope.names []) (s2.heap.push {}).objs.size X.env)) rfl (Inv.yh I') R' hE) _ s9 F H9 _ (I9.nQ _) q9) (λy G h9=>?_) λ_ _ z=>z;obtain⟨Z,j,I10',r10,ys,hD,hz,w10⟩:=h9;have O:=Inv.yh I10';refine aG<|Ca (t8 _ G F j (.ref s2.heap.objs.size) [Z] _ [y] (λ_ H'=>H'=upd j s2.heap.objs.size (.lst<|ys++[Z])) O rfl (.cons r10 .nil) ⟨_,ys,Z,rfl,rfl,hD,hz,rfl⟩) λ_ s11 ⟨_,H11,I11,_,e11⟩=>?_;subst e11;exact aM<|aM ⟨rfl,again I11 w10⟩
 exact codeAny_compStart_list (V _ rfl)<|T.self _ 0 _ _ _ st4<|V _ rfl
def Pw{X:Cx}{iter:aE}{N:ba}{U:TI}{g:TG}{tc:TT}{te:TE}(Z:X.ex=[])(J:X.stack=X.env::X.outer)(hf:X.env.frame=some X.env.locals)(L:X.calm=true)(S:CpScope X scope N cap)(hi:PI X tg iter U)
  (hg:∀C s₀ H₀ ex,PG (iG X scope N C s₀ H₀ ex) tg g) (ht:∀C s₀ H₀ ex,MQ (iG X scope N C s₀ H₀ ex) ifs tc)
  (he:∀C s₀ H₀ ex pn' xe',(∀cls H',EX X cls none H'->EX ((iG X scope N C s₀ H₀ ex).nQ pn' xe') cls none H')->PE ((iG X scope N C s₀ H₀ ex).nQ pn' xe') elt te)
  (hs:(∀x,foldedSetIterable iter X.env x=pure x)<|>ζ):PE X (.ListComp elt [⟨tg,iter,ifs,0⟩] scope pos) (M0 cap U g tc te):=by
 z_go;rw[eval_ListComp];exact Cu Z J hf L S hi hg ht he hs pins s σ H Q I h λj C D d m hn k inv q v=>⟨m,hn,λh' f=>⟨.ref D,d,inv h' f,rfl,q⟩⟩
def ER{X:Cx}{i:Nat}{spos:Pos}{iter:aE}{N:ba}{wi:TI}{g:TG}{tc:TT}{te:TE}(hN:X.N.Nodup)(hi':X.N[i]?=some y)(hx:Loc X.env.scope y)(hX:X.ex=[])(hst:X.stack=X.env::X.outer)(hf:X.env.frame=some X.env.locals)(hca:X.calm=true)(S:CpScope X scope N cap)(hi:PI X tg iter wi)
  (hg:∀C s₀ H₀ ex,PG (iG X scope N C s₀ H₀ ex) tg g) (ht:∀C s₀ H₀ ex,MQ (iG X scope N C s₀ H₀ ex) ifs tc)
  (he:∀C s₀ H₀ ex pn' xe',(∀cls H',EX X cls none H'->EX ((iG X scope N C s₀ H₀ ex).nQ pn' xe') cls none H')->PE ((iG X scope N C s₀ H₀ ex).nQ pn' xe') elt te)
  (hsw:swapsWith (.ListComp elt [⟨tg,iter,ifs,0⟩] scope pos) (some<|.Name y py) spos.line X.env=pure true)
  (hfn:X.fn y=true\/X.env.scope.names.lookup y=some .local) (hs:(∀x,foldedSetIterable iter X.env x=pure x)<|>ζ) :
  PS X (.Assign [.Name y py] (.ListComp elt [⟨tg,iter,ifs,0⟩] scope pos) spos) (Lb (M0 cap wi g tc te)<|Hf i):=by
 kcf_m;rw[exec_Assign_Name_used _ _ _ _ hsw];refine aG<|eZ<|aG ?_;show wpAny _ X.A (do let _ <- comprehension (.ListComp elt [⟨tg,iter,ifs,0⟩] scope pos) scope X.env (firstIterPos [⟨tg,iter,ifs,0⟩] pos) (newList []) (firstAsync [⟨tg,iter,ifs,0⟩]) (firstIter [⟨tg,iter,ifs,0⟩] X.env) (some<|assign (.Name y py) X.env)) _ _ s;refine aG<|bY (Cu (Q':=λ_ s'=>SP X pins D .next s') hX hst hf hca S hi hg ht he hs pins s σ H _ I h ?_) (λ_ s' U=>aM<|aM U) λ_ _ e=>e;intro B C G T m hn k inv q v;have Y:=inv B.heap<|Heap.SameBut.refl _ _;obtain⟨L,j⟩:∃o,B.heap.get? C=some o/\∀v,o.data≠.cell v:=by
  obtain⟨o,es,ep,e,d,_⟩:=hn;exact⟨o,e,λv z=>by rw[d]at z;cases z⟩
 have V:=Y.pinned (fp:=[C]) (λb f=>by rw[a_]at f;rw[f];exact k) (λb f=>by rw[a_]at f;rw[f];exact⟨L,j⟩);show wpAny _ X.A (assign (.Name y py) X.env<|.ref G) _ _ B;refine iQ (Ef hN hi' hx hfn _ B σ T (.ref G) (.ref G) _ V rfl q) λ_ Z h9=>?_;obtain⟨J,K,p,P⟩:=h9;have hp:=p.pin (C,L)<|br _<|br _<|jP (a_.mpr rfl) j.1;refine⟨m,hn.at' λo e=>by rw[j.1]at e;cases e;exact hp.1,λh' F=>?_⟩;have O:∀c v,K c=some v->c≠C:=λc v e z=>by rw[z,hp.2.1]at e;cases e
 refine⟨J,K,?_,P⟩;refine p.nP.GX (ch:=[C]) rfl ⟨λb o e n f hx=>?_,λb o e n f hx=>?_,λb o e n hx=>n,λb o e hx=>?_,λ_ _ e=>e,λ_ _ _ e=>e,λ_ _ e=>⟨#[],by rw[Array.append_empty];exact e⟩⟩ ?_ p.bare ?_
 ·exact F.extBut b o (by simpa using hx) e
 ·exact⟨o.slots,F.extBut b o (by simpa using hx) e⟩
 ·exact⟨o,F.extBut b o (by simpa using hx) e⟩
 ·intro b o e;refine(p.hok b o e).stay (λc v hc q=>F.extBut c v ?_ q) (λ_ q=>q) λ_ _ q=>q
  rcases hc with z|z
  ·rw[z];exact O b o e
  ·exact O c _ z
 ·intro b f;rw[a_]at f;rw[f];exact⟨k.2.2.2.1,k.2.1,k.2.2.2.2.1,k.2.2.2.2.2⟩
end L2
namespace Am
open PySem PySem.Spec PyProof.Rows L2
abbrev jz (s:Src)(g:Tg)(t:Te)(e:Ex):Nat->Nat->ae->gr->R (ae)
 | 0,_=>λ_ S=>if s.fin S then .ok [] S else .no
 | k+1,i=>λτ S=>opt (s.get i S) λx=>(g x τ S).qG λd S1=>(t d S1).qG λb f=>match b with
  | true=>(e d f).bind λy j=>(jz s g t e k (i+1) d j).bind λys m=>.ok (y::ys) m
  | false=>jz s g t e k (i+1) d f
abbrev nF (cap:List<|bp)(src:Ic)(g:Tg)(t:Te)(e:Ex):Ex:=λτ S=>(src τ S).bind λs S1=>gd (s.k<=sizeLine)<|(jz s g t e s.k 0 (jv cap τ) S1).bind λys d=>.ok (.ref d.length)<|d++[.lst ys]
def Out.now{H1 H:Hp}(o:Out ρ1 H1 D accV ρ H)(j:H1 D=none):Ext ρ1 ρ H1 H:=⟨o.e0,λa u d na=>o.fr a u (gI d j) d na,o.nw⟩
abbrev Vg (K:au)(ρ1:be)(H1:Hp)(D:aj)(k:Nat)(P:Nat->Nat->ae->gr->ae->Prop)(i m:Nat)(σ:L2.St)(H:Hp):Prop:=
 m+i=k/\∃ρ S τ acc accV,Out ρ1 H1 D accV ρ H/\Rel K ρ H S/\SR K ρ H τ σ/\AVs K ρ H acc accV/\acc.length<=i/\P m i τ S acc
section
variable {X:Cx}{pos:Pos}{tg iter elt:aE}{ifs:List aE}{scope:Scope}{N:ba}{cap:List (bp)}{src:Ic}{g:Tg}{t:Te}{c:Ex}
def xK(σ:L2.St)(H:Hp)(Q:VK)(h:tE X (nF cap src g t c) σ H Q):M0 cap (tI X src) (Qd X.K g) (Qk X.K t) (tE X c) σ H Q:=by
 gp_on;refine⟨ρ,S,τ,R,r,gq (gu h) .refl λs S1 h1 ρ1 H1 J e1 R1 jr D hD=>?_⟩;obtain⟨hlen,h1⟩:=gO h1;have h1:(jz s g t c s.k 0 (jv cap τ) S1).post (λys j=>qV X ρ H Q (.ref j.length)<|j++[.lst ys]) (XE X ρ H):=gu h1;obtain⟨eD,RD⟩:=R1.im (u:=.lst []) hD;refine⟨Vg X.K ρ1 H1 D s.k λm i τ S acc=>(jz s g t c m i τ S).post (λzs j=>qV X ρ H Q (.ref j.length)<|j++[.lst<|acc++zs])<|XE X ρ H,⟨s.k,rfl,ρ1,S1,jv cap τ,[],[],⟨eD.toExt0,λa u na hu _=>by rw[gy na];exact hu,λa ha=>.inl ha,R1.EB hD,g8⟩,RD,M8 ((r.ext e1).ext eD) cap,.nil,aJ _,h1⟩,?_⟩;rintro i m σ3 H3 ⟨hm,F,B,τ3,acc,accV,G,R3,r3,C,la,d⟩
 cases m with
 | zero=>
  left;have d:(if s.fin B then Am.R.ok [] B else .no).post (λzs j=>qV X ρ H Q (.ref j.length)<|j++[.lst<|acc++zs]) (XE X ρ H):=d
  cases hf:s.fin B with
  | false=>rw[hf]at d;exact d.elim
  | true=>
   rw[hf]at d;have d:qV X ρ H Q (.ref B.length) (B++[.lst<|acc++[]]):=d;rw[bX]at d;refine⟨by rw[show i=s.k by lia];exact jr.stop _ H3 F G.e0 R3 hf,?_⟩;obtain⟨RT,gt⟩:=R3.take G.hD G.nD C;exact d (F++[D]) H3 _ (e1.trans<|G.end hD) RT<|.ref gt
 | succ m=>
  right;obtain⟨x,hx,d⟩:=gD d;obtain⟨f,U,Y,d⟩:=rJ d;obtain⟨b,V,ht5,d⟩:=rJ d;have jg:=jr.go i B H3 F x G.e0 R3 hx;refine⟨jg.1,λv H4 y=>?_⟩;obtain⟨e4,R4,v4⟩:=jg.2 v H4 y;refine⟨F,B,τ3,x,f,U,R4,r3.ext e4,v4,Y,λρ5 H5 σ5 e5 R5 T=>⟨ρ5,U,f,b,V,R5,T,ht5,λN H6 O R6=>?_⟩⟩;have p:=(e4.trans e5).trans O
  cases b with
  | false=>
   dsimp only;rw[aO bC];exact⟨m,cD _,(),N,V,f,acc,accV,G.stay hD p,R6,T.ext O,C.ext p,(),d⟩
  | true=>
   dsimp only;rw[aR rfl];have d:((c f V).bind λy B=>(jz s g t c m (i+1) f B).bind λys U=>.ok (y::ys) U).post (λzs j=>qV X ρ H Q (.ref j.length)<|j++[.lst<|acc++zs]) (XE X ρ H):=d;have o6:=G.stay hD p;refine⟨N,V,f,R6,T.ext O,iY (gu d) (λy S6 q ρ7 H7 w Z R7 v7=>?_) λcl S6 q=>q.ext<|e1.trans<|o6.now hD⟩;have P:=G.stay hD<|p.trans Z;obtain⟨L,R8⟩:=R7.out (ws:=accV++[w]) P.hD P.nD;have l1:=C.length;refine⟨accV,P.hD,?_,m,cD _,(),ρ7,S6,f,acc++[y],accV++[w],P.put L,R8,(T.ext<|O.trans Z).iB L,AVs.iB L<|(C.ext<|p.trans Z).append<|.one v7,?_,?_⟩
   ·lia
   ·rw[aU];show acc.length+1<=_;lia
   ·refine iY (gu q) (λzs j z=>?_) λ_ _ z=>z;have z:qV X ρ H Q (.ref j.length) (j++[.lst<|acc++(y::zs)]):=z;rw[bL];exact z
def Ks(J:X.calm=true)(U:CpScope X scope N cap)(hi:AI X tg iter src)(hg:∀C s₀ H₀ ex,AG (iG X scope N C s₀ H₀ ex) tg g)(Z:∀C s₀ H₀ ex,SA (iG X scope N C s₀ H₀ ex) ifs t)(he:∀C s₀ H₀ ex pn' xe',AE ((iG X scope N C s₀ H₀ ex).nQ pn' xe') elt c)
  (hs:(∀x,foldedSetIterable iter X.env x=pure x)<|>ζ) (hX:X.ex=[]<|>ε) (L:X.stack=X.env::X.outer<|>ε) (hf:X.env.frame=some X.env.locals<|>ε):AE X (.ListComp elt [⟨tg,iter,ifs,0⟩] scope pos) (nF cap src g t c):=
 PE.imp (Pw hX L hf J U hi (g:=Qd X.K g) (tc:=Qk X.K t) (te:=tE X c) (λC s₀ H₀ ex=>(hg C s₀ H₀ ex).g0 rfl) (λC s₀ H₀ ex=>Z C s₀ H₀ ex)
  (λC s₀ H₀ ex pn' xe' d=>PE.imp (he C s₀ H₀ ex pn' xe') λσ H Q ⟨ρ,S,τ,R,r,q⟩=>⟨ρ,S,τ,R,r,iY q (λ_ _ z=>z) λp m z f ρ' H' n k j=>d _ _<|z f ρ' H' n k j⟩) hs) xK
def JC{i:Nat}{x:Str}{J:Pos}(hN:X.N.Nodup)(L:X.calm=true)(Sc:CpScope X scope N cap)(hi:AI X tg iter src)(hg:∀C s₀ H₀ ex,AG (iG X scope N C s₀ H₀ ex) tg g)(ht:∀C s₀ H₀ ex,SA (iG X scope N C s₀ H₀ ex) ifs t)(he:∀C s₀ H₀ ex pn' xe',AE ((iG X scope N C s₀ H₀ ex).nQ pn' xe') elt c)
  (U:X.N[i]?=some x<|>ε) (hx:Loc X.env.scope x:=by first|exact Or.inl rfl|exact Or.inr rfl)
  (Z:(swapsWith (.ListComp elt [⟨tg,iter,ifs,0⟩] scope pos) (some<|.Name x pos') J.line X.env=pure true)<|>ε) (hfn:X.fn x=true\/X.env.scope.names.lookup x=some .local<|>γ)
  (hs:(∀x,foldedSetIterable iter X.env x=pure x)<|>ζ) (hX:X.ex=[]<|>ε) (hst:X.stack=X.env::X.outer<|>ε) (hf:X.env.frame=some X.env.locals<|>ε):AS X (.Assign [.Name x pos'] (.ListComp elt [⟨tg,iter,ifs,0⟩] scope pos) J) (ir (nF cap src g t c)<|iC i):=
 PS.imp (ER hN U hx hX hst hf L Sc hi (g:=Qd X.K g) (tc:=Qk X.K t) (te:=tE X c) (λC s₀ H₀ ex=>(hg C s₀ H₀ ex).g0 rfl) (λC s₀ H₀ ex=>ht C s₀ H₀ ex)
  (λC s₀ H₀ ex pn' xe' d=>PE.imp (he C s₀ H₀ ex pn' xe') λσ H Q ⟨ρ,S,τ,R,r,q⟩=>⟨ρ,S,τ,R,r,iY q (λ_ _ z=>z) λp m z f ρ' H' n k j=>d _ _<|z f ρ' H' n k j⟩) Z hfn hs) λD σ H ⟨ρ,S,τ,R,r,h⟩=>
  xK σ H _ ⟨ρ,S,τ,R,r,gq (of_post h) .refl λa S1 h1 ρ1 H1 x e1 R1 v1=>h1 ρ1 H1 _ e1 R1<|(r.ext e1).set v1⟩
end
end Am
namespace K88
open PySem L2 Am
abbrev top (i:Nat):aF:=PySem.Challenge.pw_undercells_k88_desks_by_turns.main.body.getD i<|.Pass ⟨0,0,0,0⟩
abbrev iw:List (Str×Int):=[("keep",1),("lead",1),("drop",1),("show",1),("word",1),("plain",1),("tables",1),("back",2),("below",2),("between",2),("kept",2),("hearth",2),("undo",0)]
meta abbrev kQ:aF:=Ow (top 120) 0
meta abbrev kJ:ba:=["self"]
meta abbrev oS:ba:=["self"]
abbrev kM:Sm:=
 gM (wY "Desk" "orders" (gi 0)<|nE)
 (wY "Desk" "past" (gi 0)<|mG gv)
abbrev gZ:ae->gr->R A:=jc kJ kM
meta abbrev pS:aF:=top 123
meta abbrev m7:ba:=["_law_bag_here", "_law_many", "_law_found"]
meta abbrev jw:ba:=["_law_bag_here", "_law_many"]
abbrev mY:Sm:=
 gM (nM (kh<|gB Bg (gB jq (gi 0)<|eC<|.int 0)<|eC<|.int 0)
 (gM (ir (gB sF (gB jq (gi 0)<|eC<|.int 0)<|gi 1)<|iC 2)
 (gM (ir (gB wm (gB jq (gi 0)<|eC<|.int 0)<|gi 1)<|JO (gi 0)<|eC<|.int 0)
 (ie<|gi 2)))
 i8)
 (gM (ir (gB sF (gB p6 (gB jq (gi 0)<|eC<|.int 1)<|eC<|.int 48271)<|eC<|.int 2147483647)<|JO (gi 0)<|eC<|.int 1)
 (ie<|gB sF (gB wm (gB sF (gB p6 (gB jq (gi 0)<|eC<|.int 1)<|gB iF (gB wm (gB jq (gi 0)<|eC<|.int 1)<|eC<|.int 65536)<|eC<|.int 9)<|eC<|.int 2147483629)<|eC<|.int 32)<|gi 1))
abbrev gG:ae->gr->R A:=jc m7 mY
meta abbrev pJ:aF:=top 126
meta abbrev pD:ba:=["_law_bag_here", "_law_many", "_law_signs", "_law_ahead", "_law_begin", "_law_found", "_law_place", "_law_pair", "_law_letters", "_law_more"]
meta abbrev pO:ba:=["_law_bag_here", "_law_many"]
abbrev xJ:Ic:=
 uL (eFn gG<|gj (gi 0)<|gj (eC<|.int 7) gv)
abbrev qy:Sm:=
 ir (gB iF (gi 8)<|gB jq (gi 2)<|eFn gG<|gj (gi 0)<|gj (eC<|.int 26) gv) (iC 8)
abbrev xw:Ic:=
 xO (eC<|.int 1) (gi 1)
abbrev qD:Sm:=
 gM (ir (gB iF (gB jq (gi 2)<|gB sF (gB iF (gi 4)<|gi 6)<|eC<|.int 26)<|gB jq (gi 2)<|gB wm (gB iF (gi 4)<|gi 6)<|eC<|.int 26)<|iC 7)
 (gM (ir (eC<|.str<|PySem.Str.ofString "")<|iC 8)
 (gM (qu xJ (iC 9)
 qy)
 (qF<|Ql oK (gi 5)<|gj (gB jq (mG<|gj (gB iF (gi 8)<|gi 7)<|gj (gB iF (gi 7)<|gi 8) gv)<|gi 3) gv)))
abbrev pT:Sm:=
 gM (ir (eC<|.str<|PySem.Str.ofString "abcdefghijklmnopqrstuvwxyz")<|iC 2)
 (gM (ir (eFn gG<|gj (gi 0)<|gj (eC<|.int 2) gv)<|iC 3)
 (gM (ir (eFn gG<|gj (gi 0)<|gj (eC<|.int 26) gv)<|iC 4)
 (gM (ir (mG<|gj (gB jq (gi 2)<|gi 4) gv)<|iC 5)
 (gM (qu xw (iC 6)
 qD)
 (ie<|gi 5)))))
abbrev kF:ae->gr->R A:=jc pD pT
meta abbrev uy:aF:=top 122
meta abbrev tR:ba:=["_law_script", "_law_k", "_law_cell", "_law_state"]
meta abbrev tY:ba:=["_law_script", "_law_k"]
abbrev tB:Sm:=
 gM (ir (eC<|.int 0)<|iC 2)
 (gM (nM (kh<|gB Qh (gi 1)<|gP (f1 jf)<|gj (gi 0) gv)
 (ir (gP (f1 Pq)<|gj (gB jq (gi 0)<|gi 1) gv)<|iC 2)
 i8)
 (gM (ir (gB iF (eC<|.int 1)<|gB sF (gB iF (gB iF (gB iF (gB sF (gi 2)<|eC<|.int 2147483647)<|gB p6 (gB p6 (eC<|.int 7919)<|gi 1)<|gi 1)<|gB p6 (eC<|.int 17)<|gi 1)<|eC<|.int 3)<|eC<|.int 2147483646)<|iC 3)
 (ie<|mG<|gj (gB p6 (gi 2)<|gP (f1 wG)<|gj (gB OX (gi 2)<|gB LW (eC<|.int 10)<|eC<|.int 18) gv)<|gj (gi 3) gv)))
abbrev lC:ae->gr->R A:=jc tR tB
meta abbrev tu:aF:=top 124
meta abbrev uv:ba:=["_law_bag_here", "_law_n", "_law_left", "_law_found", "_law_at"]
meta abbrev tM:ba:=["_law_bag_here", "_law_n"]
abbrev pq:Te:=
 kh (gB Bg (gP (f1 jf)<|gj (gi 2) gv)<|eC<|.int 0)
abbrev qd:Sm:=
 gM (ir (eFn gG<|gj (gi 0)<|gj (gP (f1 jf)<|gj (gi 2) gv) gv)<|iC 4)
 (gM (qF<|Ql oK (gi 3)<|gj (gB jq (gi 2)<|gi 4) gv)
 (ir (gB iF (zE (gi 2) j6<|j7<|gi 4)<|zE (gi 2) (j7<|gB iF (gi 4)<|eC<|.int 1) j6)<|iC 2))
abbrev uz:Sm:=
 gM (ir (gP (f1 pM)<|gj (gP (f2 sL)<|gj (eC<|.int 1)<|gj (gB iF (gi 1)<|eC<|.int 1) gv) gv)<|iC 2)
 (gM (ir (mG gv)<|iC 3)
 (gM (j4 pq
 qd 1000000)
 (ie<|gP (f1 mK)<|gj (gi 3) gv)))
abbrev nU:ae->gr->R A:=jc uv uz
meta abbrev pH:aF:=top 125
meta abbrev pY:ba:=["_law_bag_here", "_law_n", "_law_way", "_law_found", "_law_k", "_law_i", "_law_j"]
meta abbrev pW:ba:=["_law_bag_here", "_law_n"]
abbrev qE:Ic:=
 uL (eFn gG<|gj (gi 0)<|gj (eC<|.int 7) gv)
abbrev nJ:Sm:=
 gM (ir (eFn gG<|gj (gi 0)<|gj (gi 1) gv)<|iC 5)
 (gM (ir (eFn gG<|gj (gi 0)<|gj (gi 1) gv)<|iC 6)
 (ir (oX<|gj (gB jq (gi 3)<|gi 6)<|gj (gB jq (gi 3)<|gi 5) gv)<|HV 2<|yp (JO (gi 3)<|gi 5)<|yp (JO (gi 3)<|gi 6) HC))
abbrev pF:Sm:=
 gM (ir (eFn gG<|gj (gi 0)<|gj (eC<|.int 4) gv)<|iC 2)
 (gM (nM (kh<|gB Bg (gi 2)<|eC<|.int 1)
 (ie<|eFn nU<|gj (gi 0)<|gj (gi 1) gv)
 i8)
 (gM (ir (gP (f1 pM)<|gj (gP (f2 sL)<|gj (eC<|.int 1)<|gj (gB iF (gi 1)<|eC<|.int 1) gv) gv)<|iC 3)
 (gM (nM (kh<|gB (m_ false) (gi 2)<|eC<|.int 1)
 (ir (BI HR<|gi 3)<|iC 3)
 i8)
 (gM (qu qE (iC 4)
 nJ)
 (ie<|gP (f1 mK)<|gj (gi 3) gv)))))
abbrev jT:ae->gr->R A:=jc pY pF
meta abbrev rj:aF:=top 127
meta abbrev q_:ba:=["_law_numbers"]
meta abbrev nY:ba:=["_law_numbers"]
abbrev rB:Sm:=
 ie (CH nV (eC<|.str<|PySem.Str.ofString " ")<|gj (jX [none] (j5<|gi 0) (iC 0) kG<|gP (f1 ya)<|gj (gi 0) gv) gv)
abbrev jb:ae->gr->R A:=jc q_ rB
meta abbrev tU:aF:=top 130
meta abbrev uh:ba:=["_law_bag_here", "_law_names_here", "_law_rows", "_law_name", "_law_way", "_law_kept", "_law_order_here", "_law_k"]
meta abbrev sN:ba:=["_law_bag_here", "_law_names_here", "_law_rows"]
abbrev ug:Sm:=
 gM (ir (gB jq (gi 1)<|eFn gG<|gj (gi 0)<|gj (eC<|.int 3) gv)<|iC 3)
 (gM (ir (eFn gG<|gj (gi 0)<|gj (eC<|.int 5) gv)<|iC 4)
 (gM (ir (gP (f1 Bx)<|gj (gB jq (gi 2)<|BI vV<|eC<|.int 1) gv)<|iC 5)
 (gM (nM (qp (kh<|gB (m_ false) (gi 4)<|eC<|.int 0)<|kh<|gB Bg (gP (f1 jf)<|gj (gi 2) gv)<|eC<|.int 1)
 (ie<|oX<|gj (eC<|.str<|PySem.Str.ofString "undo")<|gj (zE (gi 2) j6<|j7<|BI vV<|eC<|.int 1) gv)
 i8)
 (gM (nM (qp (kh<|gB (m_ false) (gi 4)<|eC<|.int 1)<|kh<|gB (vL false) (gi 3)<|gi 5)
 (gM (qF<|xD DF (gi 5)<|gj (gi 3) gv)
 (ie<|oX<|gj (gB iF (eC<|.str<|PySem.Str.ofString "drop ")<|gi 3)<|gj (gB iF (gi 2)<|mG<|gj (gi 5) gv) gv))
 i8)
 (gM (nM (qp (kh<|gB (m_ false) (gi 4)<|eC<|.int 2)<|kh<|gB Bg (gP (f1 jf)<|gj (xD wk (gi 5)<|gj (gi 3)<|gj (oX gv) gv) gv)<|eC<|.int 1)
 (gM (ir (gP (f1 pM)<|gj (gB sf (gi 5)<|gi 3) gv)<|iC 6)
 (gM (ir (gB iF (eC<|.int 1)<|eFn gG<|gj (gi 0)<|gj (gB aSub (gP (f1 jf)<|gj (gi 6) gv)<|eC<|.int 1) gv)<|iC 7)
 (gM (ir (oX<|gj (gB jq (gi 6)<|gi 7)<|gj (gB jq (gi 6)<|gB aSub (gi 7)<|eC<|.int 1) gv)<|HV 2<|yp (JO (gi 6)<|gB aSub (gi 7)<|eC<|.int 1)<|yp (JO (gi 6)<|gi 7) HC)
 (gM (ir (gP (f1 mK)<|gj (gi 6) gv)<|EV (gi 5)<|gi 3)
 (ie<|oX<|gj (Qp [.inl "lead ",.inr<|gi 3,.inl " ",.inr<|gi 7])<|gj (gB iF (gi 2)<|mG<|gj (gi 5) gv) gv)))))
 i8)
 (gM (ir (eFn jT<|gj (gi 0)<|gj (gB iF (eC<|.int 1)<|eFn gG<|gj (gi 0)<|gj (eC<|.int 20) gv) gv)<|EV (gi 5)<|gi 3)
 (ie<|oX<|gj (gB iF (gB iF (gB iF (eC<|.str<|PySem.Str.ofString "keep ")<|gi 3)<|eC<|.str<|PySem.Str.ofString " ")<|eFn jb<|gj (gB sf (gi 5)<|gi 3) gv)<|gj (gB iF (gi 2)<|mG<|gj (gi 5) gv) gv)))))))
abbrev kq:ae->gr->R A:=jc uh ug
meta abbrev sZ:aF:=top 112
meta abbrev s_:ba:=["word"]
meta abbrev sP:ba:=["word"]
abbrev t7:Sm:=
 ie (AN (Il FH FH (eC<|.int 1) (gP (f1 jf)<|gj (gi 0) gv)<|eC<|.int 8)<|gP (f1 uS)<|gj (jX [none] (j5<|gi 0) (iC 0) kG<|gB BQ (gi 0)<|eC<|.str<|PySem.Str.ofString "abcdefghijklmnopqrstuvwxyz") gv)
abbrev kg:ae->gr->R A:=jc s_ t7
meta abbrev qW:aF:=top 113
meta abbrev ow:ba:=["words", "known"]
meta abbrev qL:ba:=["words"]
abbrev oq:Sm:=
 gM (nM (M9 (kh<|BI (Gf iw true)<|gB jq (gi 0)<|eC<|.int 0)<|kh<|gB (Oz false) (eC<|.str<|PySem.Str.ofString "")<|gi 0)
 (ie<|eC<|.bl false)
 i8)
 (gM (ir (gB iF (BI (Lq iw)<|gB jq (gi 0)<|eC<|.int 0)<|eC<|.int 1)<|iC 1)
 (gM (nM (kh<|gB (Oz false) (gB jq (gi 0)<|eC<|.int 0)<|eC<|.ktu<|(["keep", "lead"]:ba).map .str)
 (ie<|AN (gB Bg (gP (f1 jf)<|gj (gi 0) gv)<|gi 1)<|eFn kg<|gj (gB jq (gi 0)<|eC<|.int 1) gv)
 i8)
 (ie<|AN (gB (m_ false) (gP (f1 jf)<|gj (gi 0) gv)<|gi 1)<|gP (f1 uS)<|gj (jX [none] (j5<|zE (gi 0) (j7<|eC<|.int 1) j6) (iC 0) kG<|eFn kg<|gj (gi 0) gv) gv)))
abbrev ju:ae->gr->R A:=jc ow oq
meta abbrev p_:aF:=Ow (top 120) 5
meta abbrev m8:ba:=["self", "name", "order"]
meta abbrev pB:ba:=["self"]
abbrev nc:Sm:=
 gM (nM (tX<|sC<|lB "Desk" "past"<|gi 0)
 (mR "TooMany" [])
 i8)
 (gM (ir (Ly HL<|lB "Desk" "past"<|gi 0)<|HV 2<|yp (iC 1)<|yp (iC 2) HC)
 (gM (nM (kh<|gB (BD false) (gi 2)<|eC .non)
 (xX (lB "Desk" "orders"<|gi 0)<|gi 1)
 (ir (gi 2)<|EV (lB "Desk" "orders"<|gi 0)<|gi 1))
 (ie<|eC<|.str<|PySem.Str.ofString "ok")))
abbrev i_:ae->gr->R A:=jc m8 nc
meta abbrev kL:aF:=Ow (top 120) 2
meta abbrev kO:ba:=["self", "name"]
meta abbrev jK:ba:=["self", "name"]
abbrev kK:Sm:=
 gM (qF<|Ql oK (lB "Desk" "past"<|gi 0)<|gj (oX<|gj (gi 1)<|gj (xD zd (lB "Desk" "orders"<|gi 0)<|gj (gi 1) gv) gv) gv)
 (wY "Desk" "past" (gi 0)<|zE (lB "Desk" "past"<|gi 0) (j7<|BI vV<|eC<|.int 20) j6)
abbrev ig:ae->gr->R A:=jc kO kK
meta abbrev rA:aF:=Ow (top 120) 3
meta abbrev rf:ba:=["self", "name", "order"]
meta abbrev qH:ba:=["self", "name", "order"]
abbrev rD:Sm:=
 gM (nM (qp (kh<|gB (vL true) (gi 1)<|lB "Desk" "orders"<|gi 0)<|kh<|gB OX (gP (f1 EC)<|gj (lB "Desk" "orders"<|gi 0) gv)<|eC<|.int 40)
 (mR "TooMany" [])
 i8)
 (gM (qF<|jj "Desk" "remember" ig (gi 0)<|gj (gi 1) gv)
 (gM (ir (gi 2)<|EV (lB "Desk" "orders"<|gi 0)<|gi 1)
 (ie<|eC<|.str<|PySem.Str.ofString "ok")))
abbrev iN:ae->gr->R A:=jc rf rD
meta abbrev ny:aF:=top 101
meta abbrev nG:ba:=["text"]
meta abbrev nj:ba:=["text"]
abbrev nu:Sm:=
 gM (nM (M9 (tX<|kh<|Il FH FH (eC<|.int 1) (gP (f1 jf)<|gj (gi 0) gv)<|eC<|.int 30)<|tX<|sC<|gP (f1 uS)<|gj (jX [none] (j5<|gi 0) (iC 0) kG<|gB BQ (gi 0)<|eC<|.str<|PySem.Str.ofString "0123456789") gv)
 (mR "NoText" [])
 i8)
 (gM (nM (qp (sC<|CH yJ (gi 0)<|gj (eC<|.str<|PySem.Str.ofString "0") gv)<|kh<|gB (m_ true) (gi 0)<|eC<|.str<|PySem.Str.ofString "0")
 (mR "NoText" [])
 i8)
 (ie<|gP (f1 wG)<|gj (gi 0) gv))
abbrev jm:ae->gr->R A:=jc nG nu
meta abbrev lG:aF:=top 102
meta abbrev lE:ba:=["text"]
meta abbrev j0:ba:=["text"]
abbrev lZ:Sm:=
 ie (nF [none] (j5<|CH qN (gi 0)<|gj (eC<|.str<|PySem.Str.ofString " ") gv) (iC 0) kG<|nZ jm<|gj (gi 0) gv)
abbrev iM:ae->gr->R A:=jc lE lZ
meta abbrev rG:aF:=top 11
meta abbrev qJ:ba:=["thing"]
meta abbrev oN:ba:=["thing"]
abbrev qZ:Sm:=
 ie (AN (gP (f2 Fy)<|gj (gi 0)<|gj (eC<|.ty "int") gv)<|NC<|gP (f2 Fy)<|gj (gi 0)<|gj (eC<|.ty "bool") gv)
abbrev jt:ae->gr->R A:=jc qJ qZ
meta abbrev qO:aF:=top 12
meta abbrev qR:ba:=["thing"]
meta abbrev qK:ba:=["thing"]
abbrev qQ:Sm:=
 gM (nM (M9 (tX<|sC<|gP (f2 Fy)<|gj (gi 0)<|gj (eC<|.ty "tuple") gv)<|M9 (kh<|gB Qh (gP (f1 jf)<|gj (gi 0) gv)<|eC<|.int 1)<|kh<|gB Bg (gP (f1 jf)<|gj (gi 0) gv)<|eC<|.int 20)
 (ie<|eC<|.bl false)
 i8)
 (gM (nM (tX<|sC<|gP (f1 uS)<|gj (jX [none] (j5<|gi 0) (iC 0) kG<|eFn jt<|gj (gi 0) gv) gv)
 (ie<|eC<|.bl false)
 i8)
 (ie<|gB (m_ false) (gP (f1 Cf)<|gj (gi 0) gv)<|gP (f1 pM)<|gj (gP (f2 sL)<|gj (eC<|.int 1)<|gj (gB iF (gP (f1 jf)<|gj (gi 0) gv)<|eC<|.int 1) gv) gv))
abbrev lY:ae->gr->R A:=jc qR qQ
meta abbrev nX:aF:=top 103
meta abbrev n9:ba:=["text", "order"]
meta abbrev oR:ba:=["text"]
abbrev oh:Sm:=
 gM (ir (gP (f1 mK)<|gj (nZ iM<|gj (gi 0) gv) gv)<|iC 1)
 (gM (nM (tX<|sC<|eFn lY<|gj (gi 1) gv)
 (mR "NoText" [])
 i8)
 (ie<|gi 1))
abbrev iT:ae->gr->R A:=jc n9 oh
meta abbrev nk:aF:=top 15
meta abbrev nA:ba:=["n", "thing"]
meta abbrev kD:ba:=["n", "thing"]
abbrev nq:Sm:=
 ie (AN (eFn jt<|gj (gi 1) gv)<|Il FH Qh (eC<|.int 1) (gi 1)<|gi 0)
abbrev iJ:ae->gr->R A:=jc nA nq
meta abbrev sW:aF:=top 32
meta abbrev uf:ba:=["n", "thing"]
meta abbrev sR:ba:=["n", "thing"]
abbrev tZ:Sm:=
 gM (nM (M9 (tX<|sC<|gP (f2 Fy)<|gj (gi 1)<|gj (eC<|.ty "list") gv)<|kh<|gB Bg (gP (f1 jf)<|gj (gi 1) gv)<|eC<|.int 200)
 (ie<|eC<|.bl false)
 i8)
 (ie<|gP (f1 uS)<|gj (jX [none,some 0] (j5<|gi 1) (iC 0) kG<|eFn iJ<|gj (gi 1)<|gj (gi 0) gv) gv)
abbrev nL:ae->gr->R A:=jc uf tZ
meta abbrev oZ:aF:=top 104
meta abbrev pX:ba:=["text", "word"]
meta abbrev qb:ba:=["text"]
abbrev pV:Sm:=
 gM (ir (Qj (kh<|gB (m_ false) (gi 0)<|eC<|.str<|PySem.Str.ofString "-") (mG gv)<|nZ iM<|gj (gi 0) gv)<|iC 1)
 (gM (nM (tX<|sC<|eFn nL<|gj (eC<|.int 20)<|gj (gi 1) gv)
 (mR "NoText" [])
 i8)
 (ie<|gi 1))
abbrev jW:ae->gr->R A:=jc pX pV
meta abbrev jN:aF:=top 16
meta abbrev jR:ba:=["order", "i", "j", "things"]
meta abbrev jO:ba:=["order", "i", "j"]
abbrev jQ:Sm:=
 gM (ir (gP (f1 pM)<|gj (gi 0) gv)<|iC 3)
 (gM (ir (oX<|gj (gB jq (gi 3)<|gB aSub (gi 2)<|eC<|.int 1)<|gj (gB jq (gi 3)<|gB aSub (gi 1)<|eC<|.int 1) gv)<|HV 2<|yp (JO (gi 3)<|gB aSub (gi 1)<|eC<|.int 1)<|yp (JO (gi 3)<|gB aSub (gi 2)<|eC<|.int 1) HC)
 (ie<|gP (f1 mK)<|gj (gi 3) gv))
abbrev iO:ae->gr->R A:=jc jR jQ
meta abbrev qc:aF:=top 17
meta abbrev pI:ba:=["order", "k"]
meta abbrev o_:ba:=["order", "k"]
abbrev pU:Sm:=
 gM (nM (tX<|sC<|eFn iJ<|gj (gP (f1 jf)<|gj (gi 0) gv)<|gj (gi 1) gv)
 (mR "NoWord" [.inl "no exchange of ",.inr<|gP (f1 jf)<|gj (gi 0) gv,.inl " things"])
 i8)
 (ie<|eFn iO<|gj (gi 0)<|gj (gi 1)<|gj (gB iF (gi 1)<|eC<|.int 1) gv)
abbrev jU:ae->gr->R A:=jc pI pU
meta abbrev wB:aF:=top 114
meta abbrev vM:ba:=["order", "word", "k"]
meta abbrev vU:ba:=["order", "word"]
abbrev Bm:Ic:=
 j5 (gi 1)
abbrev vz:Sm:=
 ir (nZ jU<|gj (gi 0)<|gj (gi 2) gv) (iC 0)
abbrev wg:Sm:=
 gM (qu Bm (iC 2)
 vz)
 (ie<|gi 0)
abbrev l9:ae->gr->R A:=jc vM wg
meta abbrev n5:aF:=Ow (top 120) 1
meta abbrev lu:ba:=["self", "name"]
meta abbrev lg:ba:=["self", "name"]
abbrev k_:Sm:=
 gM (nM (kh<|gB (vL true) (gi 1)<|lB "Desk" "orders"<|gi 0)
 (yY "NoName"<|Qp [.inl "nothing is kept by ",.inr<|gi 1])
 i8)
 (ie<|gB sf (lB "Desk" "orders"<|gi 0)<|gi 1)
abbrev gQ:ae->gr->R A:=jc lu k_
meta abbrev pQ:aF:=Ow (top 120) 4
meta abbrev qa:ba:=["self", "name"]
meta abbrev p7:ba:=["self", "name"]
abbrev o8:Sm:=
 gM (qF<|jj "Desk" "named" gQ (gi 0)<|gj (gi 1) gv)
 (gM (qF<|jj "Desk" "remember" ig (gi 0)<|gj (gi 1) gv)
 (gM (xX (lB "Desk" "orders"<|gi 0)<|gi 1)
 (ie<|eC<|.str<|PySem.Str.ofString "ok")))
abbrev jx:ae->gr->R A:=jc qa o8
meta abbrev lQ:aF:=top 94
meta abbrev mw:ba:=["numbers"]
meta abbrev mH:ba:=["numbers"]
abbrev lO:Sm:=
 ie (Qj (sC<|gi 0) (CH nV (eC<|.str<|PySem.Str.ofString " ")<|gj (jX [none] (j5<|gi 0) (iC 0) kG<|gP (f1 ya)<|gj (gi 0) gv) gv)<|eC<|.str<|PySem.Str.ofString "-")
abbrev iL:ae->gr->R A:=jc mw lO
meta abbrev oE:aF:=top 95
meta abbrev om:ba:=["order"]
meta abbrev oJ:ba:=["order"]
abbrev oi:Sm:=
 ie (eFn iL<|gj (gi 0) gv)
abbrev jZ:ae->gr->R A:=jc om oi
meta abbrev lX:aF:=top 118
meta abbrev l_:ba:=["kind", "order", "first", "second"]
meta abbrev lJ:ba:=["kind", "order"]
abbrev mq:Sm:=
 gM (nM (kh<|gB (m_ false) (gi 0)<|eC<|.str<|PySem.Str.ofString "show")
 (ie<|eFn jZ<|gj (gi 1) gv)
 i8)
 (gM (Ov)
 (gM (Ov)
 (gM (Ov)
 (Ov))))
abbrev iZ:ae->gr->R A:=jc l_ mq
meta abbrev rm:aF:=Ow (top 120) 6
meta abbrev rK:ba:=["self", "row", "words", "kind", "word", "orders"]
meta abbrev oM:ba:=["self", "row"]
abbrev rH:Sm:=
 gM (ir (CH qN (gi 1)<|gj (eC<|.str<|PySem.Str.ofString " ") gv)<|iC 2)
 (gM (nM (tX<|sC<|eFn ju<|gj (gi 2) gv)
 (mR "NoRow" [])
 i8)
 (gM (ir (gB jq (gi 2)<|eC<|.int 0)<|iC 3)
 (gM (nM (kh<|gB (m_ false) (gi 3)<|eC<|.str<|PySem.Str.ofString "undo")
 (ie<|jj "Desk" "undo" i_ (gi 0) gv)
 i8)
 (gM (nM (kh<|gB (m_ false) (gi 3)<|eC<|.str<|PySem.Str.ofString "keep")
 (ie<|jj "Desk" "put" iN (gi 0)<|gj (gB jq (gi 2)<|eC<|.int 1)<|gj (nZ iT<|gj (CH nV (eC<|.str<|PySem.Str.ofString " ")<|gj (zE (gi 2) (j7<|eC<|.int 2) j6) gv) gv) gv)
 i8)
 (gM (nM (kh<|gB (m_ false) (gi 3)<|eC<|.str<|PySem.Str.ofString "lead")
 (gM (ir (nZ jW<|gj (CH nV (eC<|.str<|PySem.Str.ofString " ")<|gj (zE (gi 2) (j7<|eC<|.int 2) j6) gv) gv)<|iC 4)
 (ie<|jj "Desk" "put" iN (gi 0)<|gj (gB jq (gi 2)<|eC<|.int 1)<|gj (nZ l9<|gj (jj "Desk" "named" gQ (gi 0)<|gj (gB jq (gi 2)<|eC<|.int 1) gv)<|gj (gi 4) gv) gv))
 i8)
 (gM (nM (kh<|gB (m_ false) (gi 3)<|eC<|.str<|PySem.Str.ofString "drop")
 (ie<|jj "Desk" "drop" jx (gi 0)<|gj (gB jq (gi 2)<|eC<|.int 1) gv)
 i8)
 (gM (nM (kh<|gB (m_ false) (gi 3)<|eC<|.str<|PySem.Str.ofString "back")
 (Ov)
 i8)
 (gM (ir (nF [none,some 0] (j5<|zE (gi 2) (j7<|eC<|.int 1) j6) (iC 0) kG<|jj "Desk" "named" gQ (gi 1)<|gj (gi 0) gv)<|iC 5)
 (ie<|Qj (kh<|gB (m_ false) (gP (f1 jf)<|gj (gi 5) gv)<|eC<|.int 1) (nZ iZ<|gj (gi 3)<|gj (gB jq (gi 5)<|eC<|.int 0) gv)<|SJ)))))))))
abbrev gY:ae->gr->R A:=jc rK rH
meta abbrev qM:aF:=top 128
meta abbrev qY:ba:=["_law_desk", "_law_row_here", "e"]
meta abbrev qT:ba:=["_law_desk", "_law_row_here"]
abbrev qX:Sm:=
 AJ 2 3 ["NoPair", "NoWord", "NoNumber", "TooMany", "NoText", "NoName", "NoRow"] (ie<|jj "Desk" "say" gY (gi 0)<|gj (gi 1) gv)
 (ie<|oX<|gj (eC<|.str<|PySem.Str.ofString "NoName")<|gj (Ak (Mp [("NoPair",false),("NoWord",false),("NoNumber",false),("TooMany",false),("NoText",false),("NoName",true),("NoRow",false)])<|gi 2) gv)
abbrev lW:ae->gr->R A:=jc qY qX
meta abbrev oY:aF:=top 129
meta abbrev pK:ba:=["_law_desk", "_law_names_here", "_law_kept", "_law_name", "_law_due"]
meta abbrev p5:ba:=["_law_desk", "_law_names_here", "_law_kept"]
abbrev xh:Ic:=
 j5 (gi 1)
abbrev qz:Sm:=
 gM (ir (oX<|gj (eC<|.str<|PySem.Str.ofString "NoName")<|gj (eC<|.bl true) gv)<|iC 4)
 (gM (nM (kh<|gB (vL false) (gi 3)<|gi 2)
 (ir (eFn jb<|gj (gB sf (gi 2)<|gi 3) gv)<|iC 4)
 i8)
 (nM (kh<|gB (m_ true) (eFn lW<|gj (gi 0)<|gj (gB iF (eC<|.str<|PySem.Str.ofString "show ")<|gi 3) gv)<|gi 4)
 (ie<|eC<|.bl false)
 i8))
abbrev pN:Sm:=
 gM (qu xh (iC 3)
 qz)
 (ie<|eC<|.bl true)
abbrev jV:ae->gr->R A:=jc pK pN
meta abbrev IQ:aF:=top 131
meta abbrev GZ:ba:=["_law_script", "_law_desks", "_law_names_here", "_law_rows", "_law_k", "_law_bag_here", "_law_which", "_law_row_here", "_law_desk", "_law_states"]
meta abbrev Nn:ba:=["_law_script"]
abbrev zj:Ic:=
 CL (gi 1) (gi 3)
abbrev qj:Sm:=
 nM (tX<|sC<|eFn jV<|gj (gi 8)<|gj (gi 2)<|gj (gB jq (gi 9)<|BI vV<|eC<|.int 1) gv)
 (ie<|eC<|.bl false)
 i8
abbrev DG:Ic:=
 uL (gP (f2 DR)<|gj (eC<|.int 1)<|gj (gP (f2 CP)<|gj (eC<|.int 20)<|gj (gP (f1 jf)<|gj (gi 0) gv) gv) gv)
abbrev sJ:Sm:=
 gM (ir (eFn lC<|gj (gi 0)<|gj (gi 4) gv)<|iC 5)
 (gM (ir (eFn gG<|gj (gi 5)<|gj (eC<|.int 2) gv)<|iC 6)
 (gM (ir (eFn kq<|gj (gi 5)<|gj (gi 2)<|gj (gB jq (gi 3)<|gi 6) gv)<|HV 2<|yp (iC 7)<|yp (JO (gi 3)<|gi 6) HC)
 (gM (nM (kh<|gB (m_ true) (jj "Desk" "say" gY (gB jq (gi 1)<|gi 6)<|gj (gi 7) gv)<|eC<|.str<|PySem.Str.ofString "ok")
 (ie<|eC<|.bl false)
 i8)
 (qu zj (HV 2<|yp (iC 8)<|yp (iC 9) HC)
 qj))))
abbrev Hj:Sm:=
 gM (ir (mG<|gj (rT "Desk" gZ)<|gj (rT "Desk" gZ) gv)<|iC 1)
 (gM (ir (eFn kF<|gj (eFn lC<|gj (gi 0)<|gj (eC<|.int 0) gv)<|gj (eC<|.int 3) gv)<|iC 2)
 (gM (ir (mG<|gj (mG<|gj (nE) gv)<|gj (mG<|gj (nE) gv) gv)<|iC 3)
 (gM (qu DG (iC 4)
 sJ)
 (ie<|eFn jV<|gj (rT "Desk" gZ)<|gj (gi 2)<|gj (nE) gv))))
abbrev yt:ae->gr->R A:=jc GZ Hj
section
variable {P:ah}{w:af}{K:au}{mg:Str->bi}{base:ak}{f:aj}{fd:FuncData}
theorem tw:FnScope kJ oS (gE kQ):=qt rfl rfl rfl ∅
def tH(F:Fun K "__init__" "Desk.__init__" kQ f fd)(J:ClK K "Desk" C_Desk)(j:je K C_Desk "orders")(L:je K C_Desk "past"):FnOk P w K mg base qA 1 f fd oS (su K 1 gZ):=xW (m:=kM) F tw λcdv B outer s H E d=>
 gp (Cd J j (gh 0)<|sE)
 (gA<|Cd J L (gh 0)<|ko gw)
def rV:FnScope m7 jw (gE pS):=qt rfl rfl rfl ∅
def zp(F:Fun K "_law_digit" "_law_digit" pS f fd):FnOk P w K mg base qA 1 f fd jw (su K 2 gG):=xW (m:=mY) F rV λcdv B outer s H E d=>
 gp (iK (g_ (zZ d.units) (iD (gh 0) gC) gC)
 (gp (gW (i:=2) rV.nd<|gJ wz (iD (gh 0) gC)<|gh 1)
 (gp (mE (gJ zl (iD (gh 0) gC)<|gh 1)<|oO (gh 0) gC)
 (gA<|gR<|gh 2)))
 gX)
 (gp (mE (gJ wz (gJ yx (iD (gh 0) gC) gC) gC)<|oO (gh 0) gC)
 (gA<|gR<|gJ wz (gJ zl (gJ wz (gJ yx (iD (gh 0) gC)<|gJ iW (gJ zl (iD (gh 0) gC) gC) gC) gC) gC)<|gh 1))
def iz:FnScope pD pO (gE pJ):=qt rfl rfl rfl ∅
def yF(F:Fun K "_law_names" "_law_names" pJ f fd)(J:mg "range" = none)(j:rL P w K mg base 1 "_law_digit" jw gG):FnOk P w K mg base qA 2 f fd pO (su K 2 kF):=xW (m:=pT) F iz λcdv B outer s H E d=>
 gp (gW (i:=2) iz.nd iu)
 (gp (gW (i:=3) iz.nd<|wD j d (gh 0) gC)
 (gp (gW (i:=4) iz.nd<|wD j d (gh 0) gC)
 (gp (gW (i:=5) iz.nd<|ko<|gk (iD (gh 2)<|gh 4) gw)
 (gp (rE c6 rfl (FA J gC<|gh 1) (iE (i:=6) iz.nd)
 (gp (gW (i:=7) iz.nd<|gJ iW (iD (gh 2)<|gJ wz (gJ iW (gh 4)<|gh 6) gC)<|iD (gh 2)<|gJ zl (gJ iW (gh 4)<|gh 6) gC)
 (gp (gW (i:=8) iz.nd iu)
 (gp (rE c6 rfl (tW J<|wD j d (gh 0) gC) (iE (i:=9) iz.nd)
 (gA<|gW (i:=8) iz.nd<|gJ iW (gh 8)<|iD (gh 2)<|wD j d (gh 0) gC))
 (gA<|oF<|GN dZ d7 wu (gh 5)<|gk (iD (ko<|gk (gJ iW (gh 8)<|gh 7)<|gk (gJ iW (gh 7)<|gh 8) gw)<|gh 3) gw)))))
 (gA<|gR<|gh 5)))))
def oG:FnScope tR tY (gE uy):=qt rfl rfl rfl ∅
def Bh(F:Fun K "_law_bag" "_law_bag" uy f fd)(j:mg "len" = none)(J:mg "abs" = none)(L:mg "int" = none):FnOk P w K mg base qA 1 f fd tY (su K 2 lC):=xW (m:=tB) F oG λcdv B outer s H E d=>
 gp (gW (i:=2) oG.nd gC)
 (gp (iK (g_ (Of d.units) (gh 1)<|gS j9 j jd<|gk (gh 0) gw)
 (gA<|gW (i:=2) oG.nd<|gS QW J NS<|gk (iD (gh 0)<|gh 1) gw)
 gX)
 (gp (gW (i:=3) oG.nd<|gJ iW gC<|gJ wz (gJ iW (gJ iW (gJ iW (gJ wz (gh 2) gC)<|gJ yx (gJ yx gC<|gh 1)<|gh 1)<|gJ yx gC<|gh 1) gC) gC)
 (gA<|gR<|ko<|gk (gJ yx (gh 2)<|iy Kg L Bs<|gk (sY Rm (gh 2)<|gJ Qq gC gC) gw)<|gk (gh 3) gw)))
def lP:FnScope uv tM (gE tu):=qt rfl rfl rfl ∅
def Cg(F:Fun K "_law_any" "_law_any" tu f fd)(J:mg "list" = none)(L:mg "range" = none)(j:mg "len" = none)(U:mg "tuple" = none)(Z:rL P w K mg base 1 "_law_digit" jw gG):FnOk P w K mg base qA 2 f fd tM (su K 2 nU):=xW (m:=uz) F lP λcdv B outer s H E d=>
 gp (gW (i:=2) lP.nd<|iy (w9 rfl) J qm<|gk (iy wL L wQ<|gk gC<|gk (gJ iW (gh 1) gC) gw) gw)
 (gp (gW (i:=3) lP.nd<|ko gw)
 (gp (HK 1000000 c6 (g_ (zZ d.units) (gS j9 j jd<|gk (gh 2) gw) gC)
 (gp (gW (i:=4) lP.nd<|wD Z d (gh 0)<|gS j9 j jd<|gk (gh 2) gw)
 (gp (oF<|GN dZ d7 wu (gh 3)<|gk (iD (gh 2)<|gh 4) gw)
 (gA<|gW (i:=2) lP.nd<|gJ iW (uA (gh 2) m9<|mZ<|gh 4)<|uA (gh 2) (mZ<|gJ iW (gh 4) gC) m9))))
 (gA<|gR<|iy (rX rfl) U nO<|gk (gh 3) gw)))
def ja:FnScope pY pW (gE pH):=qt rfl rfl rfl ∅
def yG(F:Fun K "_law_order" "_law_order" pH f fd)(L:mg "list" = none)(J:mg "range" = none)(U:mg "tuple" = none)(j:rL P w K mg base 1 "_law_digit" jw gG)(Z:rL P w K mg base 2 "_law_any" tM nU):FnOk P w K mg base qA 3 f fd pW (su K 2 jT):=xW (m:=pF) F ja λcdv B outer s H E d=>
 gp (gW (i:=2) ja.nd<|wD j d (gh 0) gC)
 (gp (iK (g_ (zZ d.units) (gh 2) gC)
 (gA<|gR<|wD Z d (gh 0)<|gh 1)
 gX)
 (gp (gW (i:=3) ja.nd<|iy (w9 rfl) L qm<|gk (iy wL J wQ<|gk gC<|gk (gJ iW (gh 1) gC) gw) gw)
 (gp (iK (g_ (sj d.units) (gh 2) gC)
 (gA<|gW (i:=3) ja.nd<|PL<|gh 3)
 gX)
 (gp (rE c6 rfl (tW J<|wD j d (gh 0) gC) (iE (i:=4) ja.nd)
 (gp (gW (i:=5) ja.nd<|wD j d (gh 0)<|gh 1)
 (gp (gW (i:=6) ja.nd<|wD j d (gh 0)<|gh 1)
 (gA<|mE (mF<|gk (iD (gh 3)<|gh 6)<|gk (iD (gh 3)<|gh 5) gw)<|sX rfl<|jl (oO (gh 3)<|gh 5)<|jl (oO (gh 3)<|gh 6) qk))))
 (gA<|gR<|iy (rX rfl) U nO<|gk (gh 3) gw)))))
def Af:FnScope q_ nY (gE rj):=qt rfl rfl rfl ∅
def Ah(F:Fun K "_law_text" "_law_text" rj f fd)(j:mg "str" = none):FnOk P w K mg base qA 1 f fd nY (su K 1 jb):=xW (m:=rB) F Af λcdv B outer s H E d=>
 gA (gR<|vR dF dG zc iu<|gk (oQ (N:=["_law_number"]) (cap:=[none]) rfl (rY [] rfl ∅ ∅ ∅ ∅ ∅ (nofun) trivial) (mz<|gh 0) (λ_ _ _ _=>iE (i:=0) (show(["_law_number"]:ba).Nodup by decide +kernel) rfl (Or.inl rfl)<|.inr rfl) (λ_ _ _ _=>k9) λ_ _ _ _=>iy GC j IE<|gk (gh 0) gw) gw)
def kC:FnScope uh sN (gE tU):=qt rfl rfl rfl ∅
def B6(F:Fun K "_law_row" "_law_row" tU f fd)(L:mg "dict" = none)(J:mg "len" = none)(U:mg "list" = none)(Z:mg "tuple" = none)(j:rL P w K mg base 1 "_law_digit" jw gG)(V9:rL P w K mg base 3 "_law_order" pW jT)(VU:rL P w K mg base 1 "_law_text" nY jb):FnOk P w K mg base qA 4 f fd sN (su K 3 kq):=xW (m:=ug) F kC λcdv B outer s H E d=>
 gp (gW (i:=3) kC.nd<|iD (gh 1)<|wD j d (gh 0) gC)
 (gp (gW (i:=4) kC.nd<|wD j d (gh 0) gC)
 (gp (gW (i:=5) kC.nd<|iy Mv L K1<|gk (iD (gh 2)<|yZ gC) gw)
 (gp (iK (AW.at<|we (g_ (sj d.units) (gh 4) gC)<|r6<|g_ (zZ d.units) (gS j9 J jd<|gk (gh 2) gw) gC)
 (gA<|gR<|mF<|gk iu<|gk (uA (gh 2) m9<|mZ<|yZ gC) gw)
 gX)
 (gp (iK (AW.at<|we (g_ (sj d.units) (gh 4) gC)<|r6<|g_ (MK d.units) (gh 3)<|gh 5)
 (gp (oF<|B9 PySem.F.slot_dict_pop PySem.F.type_dict_pop OF (gh 5)<|gk (gh 3) gw)
 (gA<|gR<|mF<|gk (gJ iW iu<|gh 3)<|gk (gJ iW (gh 2)<|ko<|gk (gh 5) gw) gw))
 gX)
 (gp (iK (AW.at<|we (g_ (sj d.units) (gh 4) gC)<|r6<|g_ (zZ d.units) (gS j9 J jd<|gk (B9 cJ PySem.F.type_dict_get (OL d.units) (gh 5)<|gk (gh 3)<|gk (mF gw) gw) gw) gC)
 (gp (gW (i:=6) kC.nd<|iy (w9 rfl) U qm<|gk (zo d.units (gh 5)<|gh 3) gw)
 (gp (gW (i:=7) kC.nd<|gJ iW gC<|wD j d (gh 0)<|gJ vN (gS j9 J jd<|gk (gh 6) gw) gC)
 (gp (mE (mF<|gk (iD (gh 6)<|gh 7)<|gk (iD (gh 6)<|gJ vN (gh 7) gC) gw)<|sX rfl<|jl (oO (gh 6)<|gJ vN (gh 7) gC)<|jl (oO (gh 6)<|gh 7) qk)
 (gp (mE (iy (rX rfl) Z nO<|gk (gh 6) gw)<|vd d.units (gh 5)<|gh 3)
 (gA<|gR<|mF<|gk (MV (ps:=[.inl "lead ",.inr<|gi 3,.inl " ",.inr<|gi 7])<|.txt<|.val (gh 3)<|.txt<|.val (gh 7) .nil)<|gk (gJ iW (gh 2)<|ko<|gk (gh 5) gw) gw)))))
 gX)
 (gp (mE (wD V9 d (gh 0)<|gJ iW gC<|wD j d (gh 0) gC)<|vd d.units (gh 5)<|gh 3)
 (gA<|gR<|mF<|gk (gJ iW (gJ iW (gJ iW iu<|gh 3) iu)<|KD VU d<|zo d.units (gh 5)<|gh 3)<|gk (gJ iW (gh 2)<|ko<|gk (gh 5) gw) gw)))))))
def BE:FnScope s_ sP (gE sZ):=qt rfl rfl rfl ∅
def B8(F:Fun K "is_name" "is_name" sZ f fd)(j:mg "all" = none)(J:mg "len" = none)(L:∃t,mg "SMALL_LETTERS" = some (.str (PySem.Str.ofString "abcdefghijklmnopqrstuvwxyz") t))(U:∃t,mg "MOST_LETTERS" = some (.int 8 t)):FnOk P w K mg base qA 1 f fd sP (su K 1 kg):=xW (m:=t7) F BE λcdv B outer s H E d=>
 gA (gR<|wZ (M1 ID ID gC (gS j9 J jd<|gk (gh 0) gw)<|mJ U.choose_spec)<|vv<|gS (zH rfl) j vZ<|gk (oQ (N:=["sign"]) (cap:=[none]) rfl (rY [] rfl ∅ ∅ ∅ ∅ ∅ (nofun) trivial) (mz<|gh 0) (λ_ _ _ _=>iE (i:=0) (show(["sign"]:ba).Nodup by decide +kernel) rfl (Or.inl rfl)<|.inr rfl) (λ_ _ _ _=>k9) λ_ _ _ _=>sY Nr (gh 0)<|Aj L.choose_spec) gw)
def uG:FnScope ow qL (gE qW):=qt rfl rfl rfl ∅
def zO(F:Fun K "has_form" "has_form" qW f fd)(L:mg "len" = none)(Z:mg "all" = none)(J:∃a,mg "NAMES" = some (.ref a)/\KdS w K a iw)(j:∃a,mg "WITH_NUMBERS" = some (.ref a)/\Qo K a=some (["keep", "lead"]:ba))(U:rL P w K mg base 1 "is_name" sP kg):FnOk P w K mg base qA 2 f fd qL (su K 1 ju):=xW (m:=oq) F uG λcdv B outer s H E d=>
 gp (iK (AW.at<|A_ (Mn J.choose_spec.2 J.choose_spec.1<|iD (gh 0) gC)<|yO<|g_ (RI d.units) iu<|gh 0)
 (gA<|gR rW)
 gX)
 (gp (gW (i:=1) uG.nd<|gJ iW (Oc J.choose_spec.2 J.choose_spec.1<|iD (gh 0) gC) gC)
 (gp (iK (g_ (RI d.units) (iD (gh 0) gC)<|Km j.choose_spec.1 j.choose_spec.2)
 (gA<|gR<|wZ (sY (zZ d.units) (gS j9 L jd<|gk (gh 0) gw)<|gh 1)<|vv<|KD U d<|iD (gh 0) gC)
 gX)
 (gA<|gR<|wZ (sY (sj d.units) (gS j9 L jd<|gk (gh 0) gw)<|gh 1)<|vv<|gS (zH rfl) Z vZ<|gk (oQ (N:=["word"]) (cap:=[none]) rfl (rY [] rfl ∅ ∅ ∅ ∅ ∅ (nofun) trivial) (mz<|uA (gh 0) (mZ gC) m9) (λ_ _ _ _=>iE (i:=0) (show(["word"]:ba).Nodup by decide +kernel) rfl (Or.inl rfl)<|.inr rfl) (λ_ _ _ _=>k9) λ_ _ _ _=>KD U d<|gh 0) gw)))
def ou:FnScope m8 pB (gE p_):=qt rfl rfl rfl ∅
def yD(F:Fun K "undo" "Desk.undo" p_ f fd)(j:ClK K "Desk" C_Desk)(L:je K C_Desk "past")(J:je K C_Desk "orders")(Z:ExcK K U "TooMany" C_TooMany):FnOk P w K mg base (uK P w) 1 f fd pB (zF K 1 i_):=fnX (m:=nc) F ou λcdv B outer s H E d=>
 gp (iK (mL<|kP<|ku j L<|gh 0)
 (gA<|j_ Z.n Z.q d.hd)
 gX)
 (gp (mE (PN PySem.F.slot_list_pop PySem.F.type_list_pop RC<|ku j L<|gh 0)<|sX rfl<|jl (iE (i:=1) ou.nd)<|jl (iE (i:=2) ou.nd) qk)
 (gp (iK (g_ TM (gh 2)<|OU)
 (gA<|C5 (ku j J<|gh 0)<|gh 1)
 (gA<|mE (gh 2)<|vd d.units (ku j J<|gh 0)<|gh 1))
 (gA<|gR iu)))
def ux:FnScope kO jK (gE kL):=qt rfl rfl rfl ∅
def tF(F:Fun K "remember" "Desk.remember" kL f fd)(j:ClK K "Desk" C_Desk)(J:je K C_Desk "past")(L:je K C_Desk "orders")(U:∃t,mg "MOST_ROWS_BACK" = some (.int 20 t)):FnOk P w K mg base (uK P w) 1 f fd jK (zF K 2 ig):=fnX (m:=kK) F ux λcdv B outer s H E d=>
 gp (oF<|GN dZ d7 wu (ku j J<|gh 0)<|gk (mF<|gk (gh 1)<|gk (B9 cJ PySem.F.type_dict_get (Lk d.units) (ku j L<|gh 0)<|gk (gh 1) gw) gw) gw)
 (gA<|Cd j J (gh 0)<|uA (ku j J<|gh 0) (mZ<|yZ<|mJ U.choose_spec) m9)
def AK:FnScope rf qH (gE rA):=qt rfl rfl rfl ∅
def An(F:Fun K "put" "Desk.put" rA f fd)(J:ClK K "Desk" C_Desk)(j:je K C_Desk "orders")(L:ExcK K U "TooMany" C_TooMany)(Z:mg "len" = none)(Wc:∃t,mg "MOST_NAMES" = some (.int 40 t))(VV:FN P w K mg base 1 C_Desk "remember" jK ig):FnOk P w K mg base (uK P w) 2 f fd qH (zF K 3 iN):=fnX (m:=rD) F AK λcdv B outer s H E d=>
 gp (iK (AW.at<|we (g_ (Ao d.units) (gh 1)<|ku J j<|gh 0)<|r6<|g_ Rm (gS Py Z jd<|gk (ku J j<|gh 0) gw)<|mJ Wc.choose_spec)
 (gA<|j_ L.n L.q d.hd)
 gX)
 (gp (oF<|nB J VV (d.mono ⋯) (gh 0) (gk (gh 1) gw)<|jG<|h_ jh)
 (gp (mE (gh 2)<|vd d.units (ku J j<|gh 0)<|gh 1)
 (gA<|gR iu)))
def vI:FnScope nG nj (gE ny):=qt rfl rfl rfl ∅
def wR(F:Fun K "read_number" "read_number" ny f fd)(j:ExcK K U "NoText" C_NoText)(J:mg "all" = none)(L:mg "len" = none)(Z:mg "int" = none)(We:∃t,mg "FIGURES" = some (.str (PySem.Str.ofString "0123456789") t))(Wf:∃t,mg "MOST_FIGURES" = some (.int 30 t)):FnOk P w K mg base (uK P w) 1 f fd nj (zF K 1 jm):=fnX (m:=nu) F vI λcdv B outer s H E d=>
 gp (iK (AW.at<|A_ (mL<|QU ID ID gC (gS j9 L jd<|gk (gh 0) gw)<|mJ Wf.choose_spec)<|yO<|mL<|kP<|gS (zH rfl) J vZ<|gk (oQ (N:=["sign"]) (cap:=[none]) rfl (rY [] rfl ∅ ∅ ∅ ∅ ∅ (nofun) trivial) (mz<|gh 0) (λ_ _ _ _=>iE (i:=0) (show(["sign"]:ba).Nodup by decide +kernel) rfl (Or.inl rfl)<|.inr rfl) (λ_ _ _ _=>k9) λ_ _ _ _=>sY Nr (gh 0)<|Aj We.choose_spec) gw)
 (gA<|j_ j.n j.q d.hd)
 gX)
 (gp (iK (AW.at<|we (kP<|vR PySem.F.slot_str_startswith PySem.F.type_str_startswith GI (gh 0)<|gk iu gw)<|r6<|g_ (PJ d.units) (gh 0) iu)
 (gA<|j_ j.n j.q d.hd)
 gX)
 (gA<|gR<|iy Kg Z Bs<|gk (gh 0) gw))
def uR:FnScope lE j0 (gE lG):=qt rfl rfl rfl ∅
def uP(F:Fun K "read_numbers" "read_numbers" lG f fd)(j:FL P w K mg base 1 "read_number" nj jm):FnOk P w K mg base (uK P w) 2 f fd j0 (zF K 1 iM):=fnX (m:=lZ) F uR λcdv B outer s H E d=>
 gA (gR<|Ks (N:=["part"]) (cap:=[none]) rfl (rY [] rfl ∅ ∅ ∅ ∅ ∅ (nofun) trivial) (mz<|vR PySem.F.slot_str_split PySem.F.type_str_split m_split (gh 0)<|gk iu gw) (λ_ _ _ _=>iE (i:=0) (show(["part"]:ba).Nodup by decide +kernel) rfl (Or.inl rfl)<|.inr rfl) (λ_ _ _ _=>k9) λ_ _ _ _ _ _=>RK j d<|gh 0)
def zK:FnScope qJ oN (gE rG):=qt rfl rfl rfl ∅
def As(F:Fun K "is_whole" "is_whole" rG f fd)(j:mg "isinstance" = none)(J:mg "bool" = none)(L:mg "int" = none):FnOk P w K mg base qA 1 f fd oN (su K 1 jt):=xW (m:=qZ) F zK λcdv B outer s H E d=>
 gA (gR<|wZ (gS C8 j jF<|gk (gh 0)<|gk (DY L Bs) gw)<|vv<|PD<|gS C8 j jF<|gk (gh 0)<|gk (DY J Lr) gw)
def Ag:FnScope qR qK (gE qO):=qt rfl rfl rfl ∅
def A4(F:Fun K "is_order" "is_order" qO f fd)(j:mg "len" = none)(J:mg "isinstance" = none)(L:mg "tuple" = none)(U:mg "all" = none)(Z:mg "sorted" = none)(VF:mg "list" = none)(VH:mg "range" = none)(VW:∃t,mg "MOST_THINGS_orders" = some (.int 20 t))(VX:rL P w K mg base 1 "is_whole" oN jt):FnOk P w K mg base qA 2 f fd qK (su K 1 lY):=xW (m:=qQ) F Ag λcdv B outer s H E d=>
 gp (iK (AW.at<|A_ (mL<|kP<|gS C8 J jF<|gk (gh 0)<|gk (DY L nO) gw)<|A_ (g_ (Of d.units) (gS j9 j jd<|gk (gh 0) gw) gC)<|yO<|g_ (zZ d.units) (gS j9 j jd<|gk (gh 0) gw)<|mJ VW.choose_spec)
 (gA<|gR rW)
 gX)
 (gp (iK (mL<|kP<|gS (zH rfl) U vZ<|gk (oQ (N:=["part"]) (cap:=[none]) rfl (rY [] rfl ∅ ∅ ∅ ∅ ∅ (nofun) trivial) (mz<|gh 0) (λ_ _ _ _=>iE (i:=0) (show(["part"]:ba).Nodup by decide +kernel) rfl (Or.inl rfl)<|.inr rfl) (λ_ _ _ _=>k9) λ_ _ _ _=>KD VX d<|gh 0) gw)
 (gA<|gR rW)
 gX)
 (gA<|gR<|sY (sj d.units) (gS LS Z Fx<|gk (gh 0) gw)<|iy (w9 rfl) VF qm<|gk (iy wL VH wQ<|gk gC<|gk (gJ iW (gS j9 j jd<|gk (gh 0) gw) gC) gw) gw))
def qB:FnScope n9 oR (gE nX):=qt rfl rfl rfl ∅
def xq(F:Fun K "read_order" "read_order" nX f fd)(j:ExcK K U "NoText" C_NoText)(J:mg "tuple" = none)(L:FL P w K mg base 2 "read_numbers" j0 iM)(Z:rL P w K mg base 2 "is_order" qK lY):FnOk P w K mg base (uK P w) 3 f fd oR (zF K 1 iT):=fnX (m:=oh) F qB λcdv B outer s H E d=>
 gp (gW (i:=1) qB.nd<|iy (rX rfl) J nO<|gk (RK L d<|gh 0) gw)
 (gp (iK (mL<|kP<|KD Z d<|gh 1)
 (gA<|j_ j.n j.q d.hd)
 gX)
 (gA<|gR<|gh 1))
def vE:FnScope nA kD (gE nk):=qt rfl rfl rfl ∅
def wH(F:Fun K "is_exchange" "is_exchange" nk f fd)(j:rL P w K mg base 1 "is_whole" oN jt):FnOk P w K mg base qA 2 f fd kD (su K 2 iJ):=xW (m:=nq) F vE λcdv B outer s H E d=>
 gA (gR<|wZ (KD j d<|gh 1)<|vv<|M1 ID (Of d.units) gC (gh 1)<|gh 0)
def Cm:FnScope uf sR (gE sW):=qt rfl rfl rfl ∅
def BG(F:Fun K "is_word" "is_word" sW f fd)(j:mg "len" = none)(J:mg "isinstance" = none)(L:mg "list" = none)(U:mg "all" = none)(Z:∃t,mg "MOST_NUMBERS" = some (.int 200 t))(VZ:rL P w K mg base 2 "is_exchange" kD iJ):FnOk P w K mg base qA 3 f fd sR (su K 2 nL):=xW (m:=tZ) F Cm λcdv B outer s H E d=>
 gp (iK (AW.at<|A_ (mL<|kP<|gS C8 J jF<|gk (gh 1)<|gk (DY L qm) gw)<|yO<|g_ (zZ d.units) (gS j9 j jd<|gk (gh 1) gw)<|mJ Z.choose_spec)
 (gA<|gR rW)
 gX)
 (gA<|gR<|gS (zH rfl) U vZ<|gk (oQ (N:=["part", "n"]) (cap:=[none,some 0]) rfl (rY ["n"] rfl ∅ ∅ ∅ ∅ ∅ (bA.mpr ⟨by first|exact Or.inl rfl|exact Or.inr rfl,(nofun)⟩) ⟨rfl,by decide +kernel,trivial⟩) (mz<|gh 1) (λ_ _ _ _=>iE (i:=0) (show(["part", "n"]:ba).Nodup by decide +kernel) rfl (Or.inl rfl)<|.inr rfl) (λ_ _ _ _=>k9) λ_ _ _ _=>wD VZ d (gh 1)<|gh 0) gw)
def sI:FnScope pX qb (gE oZ):=qt rfl rfl rfl ∅
def yH(F:Fun K "read_word" "read_word" oZ f fd)(j:ExcK K U "NoText" C_NoText)(J:∃t,mg "MOST_THINGS_orders" = some (.int 20 t))(L:FL P w K mg base 2 "read_numbers" j0 iM)(Z:rL P w K mg base 3 "is_word" sR nL):FnOk P w K mg base (uK P w) 4 f fd qb (zF K 1 jW):=fnX (m:=pV) F sI λcdv B outer s H E d=>
 gp (gW (i:=1) sI.nd<|Hw (g_ (sj d.units) (gh 0) iu) (ko gw)<|RK L d<|gh 0)
 (gp (iK (mL<|kP<|wD Z d (mJ J.choose_spec)<|gh 1)
 (gA<|j_ j.n j.q d.hd)
 gX)
 (gA<|gR<|gh 1))
def kR:FnScope jR jO (gE jN):=qt rfl rfl rfl ∅
def qq(F:Fun K "exchanged_places" "exchanged_places" jN f fd)(j:mg "list" = none)(J:mg "tuple" = none):FnOk P w K mg base qA 1 f fd jO (su K 3 iO):=xW (m:=jQ) F kR λcdv B outer s H E d=>
 gp (gW (i:=3) kR.nd<|iy (w9 rfl) j qm<|gk (gh 0) gw)
 (gp (mE (mF<|gk (iD (gh 3)<|gJ vN (gh 2) gC)<|gk (iD (gh 3)<|gJ vN (gh 1) gC) gw)<|sX rfl<|jl (oO (gh 3)<|gJ vN (gh 1) gC)<|jl (oO (gh 3)<|gJ vN (gh 2) gC) qk)
 (gA<|gR<|iy (rX rfl) J nO<|gk (gh 3) gw))
def yN:FnScope pI o_ (gE qc):=qt rfl rfl rfl ∅
def zh(F:Fun K "exchanged" "exchanged" qc f fd)(j:ExcK K U "NoWord" C_NoWord)(J:mg "len" = none)(L:rL P w K mg base 2 "is_exchange" kD iJ)(Z:rL P w K mg base 1 "exchanged_places" jO iO):FnOk P w K mg base (uK P w) 3 f fd o_ (zF K 2 jU):=fnX (m:=pU) F yN λcdv B outer s H E d=>
 gp (iK (mL<|kP<|wD L d (gS j9 J jd<|gk (gh 0) gw)<|gh 1)
 (gA<|EJ (ps:=[.inl "no exchange of ",.inr<|gP (f1 jf)<|gj (gi 0) gv,.inl " things"]) j.n j.q d.hd<|.txt<|.val (gS j9 J jd<|gk (gh 0) gw)<|.txt .nil)
 gX)
 (gA<|gR<|Sw Z d (gh 0) (gh 1)<|gJ iW (gh 1) gC)
def tN:FnScope vM vU (gE wB):=qt rfl rfl rfl ∅
def EN(F:Fun K "led_on" "led_on" wB f fd)(j:FL P w K mg base 3 "exchanged" o_ jU):FnOk P w K mg base (uK P w) 4 f fd vU (zF K 2 l9):=fnX (m:=wg) F tN λcdv B outer s H E d=>
 gp (rE PassesOwn.leaving rfl (mz<|gh 1) (iE (i:=2) tN.nd)
 (gA<|gW (i:=0) tN.nd<|SO j d (gh 0)<|gh 2))
 (gA<|gR<|gh 0)
def xF:FnScope lu lg (gE n5):=qt rfl rfl rfl ∅
def xj(F:Fun K "named" "Desk.named" n5 f fd)(J:ClK K "Desk" C_Desk)(j:je K C_Desk "orders")(L:ExcK K U "NoName" C_NoName):FnOk P w K mg base (uK P w) 1 f fd lg (zF K 2 gQ):=fnX (m:=k_) F xF λcdv B outer s H E d=>
 gp (iK (g_ (Ao d.units) (gh 1)<|ku J j<|gh 0)
 (gA<|Ft L.n L.q d.hd<|MV (ps:=[.inl "nothing is kept by ",.inr<|gi 1])<|.txt<|.val (gh 1) .nil)
 gX)
 (gA<|gR<|zo d.units (ku J j<|gh 0)<|gh 1)
def yP:FnScope qa p7 (gE pQ):=qt rfl rfl rfl ∅
def ze(F:Fun K "drop" "Desk.drop" pQ f fd)(j:ClK K "Desk" C_Desk)(J:je K C_Desk "orders")(L:FN P w K mg base 1 C_Desk "named" lg gQ)(U:FN P w K mg base 1 C_Desk "remember" jK ig):FnOk P w K mg base (uK P w) 2 f fd p7 (zF K 2 jx):=fnX (m:=o8) F yP λcdv B outer s H E d=>
 gp (oF<|nB j L (d.mono ⋯) (gh 0) (gk (gh 1) gw)<|jG<|h_ jh)
 (gp (oF<|nB j U (d.mono ⋯) (gh 0) (gk (gh 1) gw)<|jG<|h_ jh)
 (gp (C5 (ku j J<|gh 0)<|gh 1)
 (gA<|gR iu)))
def uU:FnScope mw mH (gE lQ):=qt rfl rfl rfl ∅
def uY(F:Fun K "show_numbers" "show_numbers" lQ f fd)(j:mg "str" = none):FnOk P w K mg base qA 1 f fd mH (su K 1 iL):=xW (m:=lO) F uU λcdv B outer s H E d=>
 gA (gR<|Hw (kP<|gh 0) (vR dF dG zc iu<|gk (oQ (N:=["number"]) (cap:=[none]) rfl (rY [] rfl ∅ ∅ ∅ ∅ ∅ (nofun) trivial) (mz<|gh 0) (λ_ _ _ _=>iE (i:=0) (show(["number"]:ba).Nodup by decide +kernel) rfl (Or.inl rfl)<|.inr rfl) (λ_ _ _ _=>k9) λ_ _ _ _=>iy GC j IE<|gk (gh 0) gw) gw) iu)
def xC:FnScope om oJ (gE oE):=qt rfl rfl rfl ∅
def xy(F:Fun K "show_order" "show_order" oE f fd)(j:rL P w K mg base 1 "show_numbers" mH iL):FnOk P w K mg base qA 2 f fd oJ (su K 1 jZ):=xW (m:=oi) F xC λcdv B outer s H E d=>
 gA (gR<|KD j d<|gh 0)
def uT:FnScope l_ lJ (gE lX):=qt rfl rfl rfl ∅
def uO(F:Fun K "asked_of_one" "asked_of_one" lX f fd)(j:rL P w K mg base 2 "show_order" oJ jZ):FnOk P w K mg base (uK P w) 3 f fd lJ (zF K 2 iZ):=fnX (m:=mq) F uT λcdv B outer s H E d=>
 gp (iK (g_ (sj d.units) (gh 0) iu)
 (gA<|gR<|KD j d<|gh 1)
 gX)
 (gp (Be)
 (gp (Be)
 (gp (Be)
 (gA<|Be))))
def kE:FnScope rK oM (gE rm):=qt rfl rfl rfl ∅
def zV(F:Fun K "say" "Desk.say" rm f fd)(j:ClK K "Desk" C_Desk)(J:ExcK K U "NoRow" C_NoRow)(VC:mg "len" = none)(Wr:rL P w K mg base 2 "has_form" qL ju)(Ws:FN P w K mg base 1 C_Desk "undo" pB i_)(L:FN P w K mg base 2 C_Desk "put" qH iN)(Wt:FL P w K mg base 3 "read_order" oR iT)(Wu:FL P w K mg base 4 "read_word" qb jW)(Wv:FL P w K mg base 4 "led_on" vU l9)(Z:FN P w K mg base 1 C_Desk "named" lg gQ)(Ww:FN P w K mg base 2 C_Desk "drop" p7 jx)(Wx:FL P w K mg base 3 "asked_of_one" lJ iZ):FnOk P w K mg base (uK P w) 5 f fd oM (zF K 2 gY):=fnX (m:=rH) F kE λcdv B outer s H E d=>
 gp (gW (i:=2) kE.nd<|vR PySem.F.slot_str_split PySem.F.type_str_split m_split (gh 1)<|gk iu gw)
 (gp (iK (mL<|kP<|KD Wr d<|gh 2)
 (gA<|j_ J.n J.q d.hd)
 gX)
 (gp (gW (i:=3) kE.nd<|iD (gh 2) gC)
 (gp (iK (g_ (sj d.units) (gh 3) iu)
 (gA<|gR<|Lh j Ws (d.mono ⋯)<|gh 0)
 gX)
 (gp (iK (g_ (sj d.units) (gh 3) iu)
 (gA<|gR<|nB j L (d.mono ⋯) (gh 0) (gk (iD (gh 2) gC)<|gk (RK Wt d<|vR dF dG zc iu<|gk (uA (gh 2) (mZ gC) m9) gw) gw)<|jG<|h_<|h_ jh)
 gX)
 (gp (iK (g_ (sj d.units) (gh 3) iu)
 (gp (gW (i:=4) kE.nd<|RK Wu d<|vR dF dG zc iu<|gk (uA (gh 2) (mZ gC) m9) gw)
 (gA<|gR<|nB j L (d.mono ⋯) (gh 0) (gk (iD (gh 2) gC)<|gk (SO Wv d (nB j Z (d.mono ⋯) (gh 0) (gk (iD (gh 2) gC) gw)<|jG<|h_ jh)<|gh 4) gw)<|jG<|h_<|h_ jh))
 gX)
 (gp (iK (g_ (sj d.units) (gh 3) iu)
 (gA<|gR<|nB j Ww (d.mono ⋯) (gh 0) (gk (iD (gh 2) gC) gw)<|jG<|h_ jh)
 gX)
 (gp (iK (g_ (sj d.units) (gh 3) iu)
 (gA<|Be)
 gX)
 (gp (JC (i:=5) (N:=["name", "self"]) (cap:=[none,some 0]) kE.nd rfl (rY ["self"] rfl ∅ ∅ ∅ ∅ ∅ (bA.mpr ⟨by first|exact Or.inl rfl|exact Or.inr rfl,(nofun)⟩) ⟨rfl,by decide +kernel,trivial⟩) (mz<|uA (gh 2) (mZ gC) m9) (λ_ _ _ _=>iE (i:=0) (show(["name", "self"]:ba).Nodup by decide +kernel) rfl (Or.inl rfl)<|.inr rfl) (λ_ _ _ _=>k9) λ_ _ _ _ _ _=>nB j Z (d.mono ⋯) (gh 1) (gk (gh 0) gw)<|jG<|h_ jh)
 (gA<|gR<|Hw (g_ (sj d.units) (gS j9 VC jd<|gk (gh 5) gw) gC) (SO Wx d (gh 3)<|iD (gh 5) gC)<|RB)))))))))
def uF:FnScope qY qT (gE qM):=qt rfl rfl rfl ∅
def Bb(F:Fun K "_law_said" "_law_said" qM f fd)(c_Desk:ClK K "Desk" C_Desk)(hU:w_ K "UnderError" U)(mU:L2.mroIn K U=some Mx)(VO:ExcK K U "NoRow" C_NoRow)(VM:ExcK K U "NoName" C_NoName)(VE:ExcK K U "NoText" C_NoText)(VJ:ExcK K U "TooMany" C_TooMany)(VR:ExcK K U "NoNumber" C_NoNumber)(VN:ExcK K U "NoWord" C_NoWord)(VS:ExcK K U "NoPair" C_NoPair)(Wy:mg "NoName" = some (.ref C_NoName))(k_NoRow_NoName:PySem.W.kitOne K (.ref C_NoRow) (.ref C_NoName)=some false)(L:PySem.W.kitOne K (.ref C_NoName) (.ref C_NoName)=some true)(Z:PySem.W.kitOne K (.ref C_NoText) (.ref C_NoName)=some false)(J:PySem.W.kitOne K (.ref C_TooMany) (.ref C_NoName)=some false)(j:PySem.W.kitOne K (.ref C_NoNumber) (.ref C_NoName)=some false)(k_NoWord_NoName:PySem.W.kitOne K (.ref C_NoWord) (.ref C_NoName)=some false)(k_NoPair_NoName:PySem.W.kitOne K (.ref C_NoPair) (.ref C_NoName)=some false)(VL:mg "isinstance" = none)(V0:FN P w K mg base 5 C_Desk "say" oM gY):FnOk P w K mg base qA 6 f fd qT (su K 2 lW):=xW (m:=qX) F uF λcdv B outer s H E d=>
 gA (by(refine O7 (i:=2) (cs:=["NoPair", "NoWord", "NoNumber", "TooMany", "NoText", "NoName", "NoRow"]) ?hb ?hh uF.nd hU mU<|bA.mpr ⟨⟨_,VS.n,VS.r⟩,(bA.mpr ⟨⟨_,VN.n,VN.r⟩,(bA.mpr ⟨⟨_,VR.n,VR.r⟩,(bA.mpr ⟨⟨_,VJ.n,VJ.r⟩,(bA.mpr ⟨⟨_,VE.n,VE.r⟩,(bA.mpr ⟨⟨_,VM.n,VM.r⟩,(bA.mpr ⟨⟨_,VO.n,VO.r⟩,(nofun)⟩)⟩)⟩)⟩)⟩)⟩)⟩;(case hb=>exact(λ_ _=>gA<|gR<|nB c_Desk V0 (d.mono ⋯) (gh 0) (gk (gh 1) gw)<|jG<|h_ jh));(case hh=>exact(λ_ _ _ _ g=>gA<|gR<|mF<|gk iu<|gk (Pd Wy (tb:=[("NoPair",false),("NoWord",false),("NoNumber",false),("TooMany",false),("NoText",false),("NoName",true),("NoRow",false)]) (bA.mpr ⟨⟨_,VS.n,VS.x,VS.cl,k_NoPair_NoName⟩,(bA.mpr ⟨⟨_,VN.n,VN.x,VN.cl,k_NoWord_NoName⟩,(bA.mpr ⟨⟨_,VR.n,VR.x,VR.cl,j⟩,(bA.mpr ⟨⟨_,VJ.n,VJ.x,VJ.cl,J⟩,(bA.mpr ⟨⟨_,VE.n,VE.x,VE.cl,Z⟩,(bA.mpr ⟨⟨_,VM.n,VM.x,VM.cl,L⟩,(bA.mpr ⟨⟨_,VO.n,VO.x,VO.cl,k_NoRow_NoName⟩,(nofun)⟩)⟩)⟩)⟩)⟩)⟩)⟩) (gh 2) VL) gw))))
def kY:FnScope pK p5 (gE oY):=qt rfl rfl rfl ∅
def zq(F:Fun K "_law_shows" "_law_shows" oY f fd)(j:rL P w K mg base 1 "_law_text" nY jb)(J:rL P w K mg base 6 "_law_said" qT lW):FnOk P w K mg base qA 7 f fd p5 (su K 3 jV):=xW (m:=pN) F kY λcdv B outer s H E d=>
 gp (rE c6 rfl (mz<|gh 1) (iE (i:=3) kY.nd)
 (gp (gW (i:=4) kY.nd<|mF<|gk iu<|gk rW gw)
 (gp (iK (g_ (MK d.units) (gh 3)<|gh 2)
 (gA<|gW (i:=4) kY.nd<|KD j d<|zo d.units (gh 2)<|gh 3)
 gX)
 (gA (iK (g_ (PJ d.units) (wD J d (gh 0)<|gJ iW iu<|gh 3)<|gh 4)
 (gA<|gR rW)
 gX)))))
 (gA<|gR rW)
def nH:FnScope GZ Nn (gE IQ):=qt rfl rfl rfl ∅
set_option smartUnfolding false in
theorem OC(F:Fun K "law" "law" IQ f fd)(j:ClK K "Desk" C_Desk)(J:mg "Desk" = some (.ref C_Desk))(VH:mg "range" = none)(WA:mg "max" = none)(WB:mg "min" = none)(VC:mg "len" = none)(WC:mg "zip" = none)(L:To P w K mg base 1 C_Desk gZ)(WD:rL P w K mg base 2 "_law_names" pO kF)(U:rL P w K mg base 1 "_law_bag" tY lC)(VD:rL P w K mg base 1 "_law_digit" jw gG)(WE:rL P w K mg base 4 "_law_row" sN kq)(V0:FN P w K mg base 5 C_Desk "say" oM gY)(Z:rL P w K mg base 7 "_law_shows" p5 jV):FnOk P w K mg base qA 8 f fd Nn (su K 1 yt):=xW (m:=Hj) F nH λcdv B outer s H E d=>
 gp (gW (i:=1) nH.nd<|ko<|gk (zg j L (d.mono ⋯) J)<|gk (zg j L (d.mono ⋯) J) gw)
 (gp (gW (i:=2) nH.nd<|wD WD d (wD U d (gh 0) gC) gC)
 (gp (gW (i:=3) nH.nd<|ko<|gk (ko<|gk (sE) gw)<|gk (ko<|gk (sE) gw) gw)
 (gp (rE c6 rfl (tW VH<|gS (Pg rfl) WA NP<|gk gC<|gk (gS (NH rfl) WB P1<|gk gC<|gk (gS j9 VC jd<|gk (gh 0) gw) gw) gw) (iE (i:=4) nH.nd)
 (gp (gW (i:=5) nH.nd<|wD U d (gh 0)<|gh 4)
 (gp (gW (i:=6) nH.nd<|wD VD d (gh 5) gC)
 (gp (mE (Sw WE d (gh 5) (gh 2)<|iD (gh 3)<|gh 6)<|sX rfl<|jl (iE (i:=7) nH.nd)<|jl (oO (gh 3)<|gh 6) qk)
 (gp (iK (g_ (PJ d.units) (nB j V0 (d.mono ⋯) (iD (gh 1)<|gh 6) (gk (gh 7) gw)<|jG<|h_ jh) iu)
 (gA<|gR rW)
 gX)
 (gA (rE c6 rfl (N8 WC (gh 1)<|gh 3) (sX rfl<|jl (iE (i:=8) nH.nd)<|jl (iE (i:=9) nH.nd) qk)
 (gA (iK (mL<|kP<|Sw Z d (gh 8) (gh 2)<|iD (gh 9)<|yZ gC)
 (gA<|gR rW)
 gX)))))))))
 (gA<|gR<|Sw Z d (zg j L (d.mono ⋯) J) (gh 2)<|sE))))
end
end K88
namespace Tx
open PySem
def mX(a b:Str):(a++b).length=a.length+b.length:=by
 show(a.cps++b.cps).size=_;rw[Array.size_append];rfl
theorem pP(j:Str):∀(l:ba),(∀x∈l,x.length<=B)->(Str.join j l).length<=l.length * (B+j.length)
 | [],_=>er _
 | [x],h=>by
  have:=h x<|aZ ..;show x.length<=1 * _
  lia
 | x::y::l,h=>by
  have h1:=h x<|aZ ..;have f:=pP j (y::l) λz d=>h z<|aW _ d;show(x++j++Str.join j (y::l)).length<=_;rw[mX,mX,show(x::y::l).length * (B+j.length)=(y::l).length * (B+j.length)+(B+j.length)by rw[bq,succ_mul]]
  lia
def A1(j:Str):∀(l:ba),l≠[]->(∀x∈l,0<x.length)->0<(Str.join j l).length
 | [],h,_=>absurd rfl h
 | [x],_,h=>h x (aZ ..)
 | x::y::l,_,h=>by
  have h1:=h x<|aZ ..;show 0<(x++j++Str.join j (y::l)).length;rw[mX,mX];lia
abbrev tx (i:Int):Str:=Str.ofString<|toString i
def GR{i:Int}(h:0<=i):0<(tx i).length:=by
 obtain⟨m,rfl⟩:=Int.eq_ofNat_of_zero_le h;unfold tx;rw[show((m:Nat):Int)=Int.ofNat m from rfl,PyProof.Rows.text_ofNat];have:=PyProof.Rows.tDigits_len_ge 10 m;show 0<(List.toArray _).size;rw[aN,aH];lia
def EU{i:Int}(h0:0<=i)(h:i<=1000000000):i.natAbs.log2<1920:=by
 have:i.natAbs<2 ^ 30:=()
 by_cases d:i.natAbs=0
 ·rw[d];decide
 ·rw[log2_lt d];exact aY ‹i.natAbs<2 ^ 30› (Nat.pow_le_pow_right ⋯ ⋯)
theorem B3:∀(l:ba),(∀x∈l,x.length<=B)->(l.map (·.length)).sum<=l.length * B
 | [],_=>er _
 | x::l,h=>by
  have h1:=h x<|aZ ..;have f:=B3 l λz d=>h z<|aW _ d;rw[bf,List.sum_cons,bq,succ_mul];lia
def LF{a:Str}:(a == (Str.ofString ""))=decide (a.length=0):=by
 have e0:Str.ofString "" = Str.empty:=by decide
 by_cases h:a.length=0
 ·have:a=Str.empty:=by
   obtain⟨c⟩:=a;show(⟨c⟩:Str)=⟨#[]⟩;have:c=#[]:=Array.eq_empty_of_size_eq_zero h;rw[this]
  rw[this,e0,show decide (Str.empty.length=0)=true from rfl];simp
 ·rw[bE h,bN];intro z;rw[z,e0]at h;exact h rfl
end Tx
namespace Sp
open PySem L2
open Builtin.Str (occurrences partsBetween strSub subAt)
open StrLaws (occBody partsFrom)
abbrev P (x:Str)(c i:Nat):Bool:=decide<|x.cps.toList[i]?=some c
def RQ(x:Str)(c i:Nat):subAt x ⟨#[c]⟩ i=true ↔ x.cps.toList[i]?=some c:=by
 rw[StrLaws.subAt_eq];exact StrLaws.take1_drop
def Ax(c:Nat):(⟨#[c]⟩:Str).length=1:=rfl
def size_eq(x:Str):x.length=x.cps.toList.length:=by rw[cA];rfl
theorem BR(x:Str)(c:Nat):∀(k a:Nat) (st:Array Nat×Nat),a+k=x.length+1->st.1.size<=a->st.2<=a ->
  (forIn (List.range' a k) st<|occBody x ⟨#[c]⟩ x.length<|x.length+1).run.fst.toList=st.1.toList++(List.range' a k).filter (P x c)
 | 0,a,st,_,_,_=>by
  show st.1.toList=st.1.toList++[];rw[bX]
 | k+1,a,st,h,h1,h2=>by
  rw[dg,List.forIn_cons];unfold occBody;by_cases q:x.cps.toList[a]?=some c
  ·have d:a<x.length:=by
    rw[size_eq];exact(aI.mp q).1
   have hp:P x c a=true:=bB q;rw[aR ⟨⟨⟨(),h2⟩,by rw[Ax];lia⟩,(RQ x c a).mpr q⟩,cN hp];have:=BR x c k (a+1) (st.1.push a,a+1) () (by dsimp[Array.size_push];lia)<|aJ _;rw[Array.toList_push]at this;show(forIn (List.range' (a+1) k) (st.1.push a,a+(⟨#[c]⟩:Str).length)<|occBody x ⟨#[c]⟩ x.length<|x.length+1).run.fst.toList=_;rw[Ax,this,bL];rfl
  ·have hp:¬P x c a=true:=λz=>q<|dM z;rw[aO λz=>q<|(RQ x c a).mp z.2,cG hp];exact BR x c k (a+1) (st.1,st.2) () (show st.1.size<=a+1 by lia)<|show st.2<=a+1 by lia
def Td(x:Str)(c:Nat):occurrences x ⟨#[c]⟩ 0 x.length (x.length+1)=(List.range' 0<|x.length+1).filter (P x c):=by
 rw[StrLaws.occ_eq];exact BR x c (x.length+1) 0 (#[],0) () (aJ _)<|aJ _
abbrev mj (c:Nat):ar->ar->List (ar)
 | cur,[]=>[cur]
 | cur,d::ds=>if d=c then cur::mj c [] ds else mj c (cur++[d]) ds
abbrev mk (l:ar):Str:=⟨l.toArray⟩
def Fb(x:Str):mk x.cps.toList=x:=rfl
def Bj(x:Str)(i j:Nat):strSub x i j=mk ((x.cps.toList.drop i).take<|j-i):=by
 rw[<- StrLaws.strSub_toList];rfl
theorem wA(x:Str)(c:Nat):∀(k a i:Nat),i+k=x.length->a<=i->partsFrom x 1 a ((List.range' i<|k+1).filter<|P x c)=(mj c ((x.cps.toList.drop a).take<|i-a)<|x.cps.toList.drop i).map mk
 | 0,a,i,h,ha=>by
  have hp:¬P x c i=true:=λz=>by
   have:=(aI.mp<|dM z).1;rw[<- size_eq]at this
   lia
  rw[dg,cG hp,List.drop_eq_nil_of_le<|show x.cps.toList.length<=i by rw[<- size_eq];lia];show[strSub x a x.length]=[mk _];rw[Bj,show i=x.length by lia]
 | k+1,a,i,h,ha=>by
  have hi:i<x.cps.toList.length:=by rw[<- size_eq];lia
  rw[dg,List.drop_eq_getElem_cons hi];by_cases q:x.cps.toList[i]=c
  ·have hp:P x c i=true:=bB (by rw[aL hi,q]);rw[cN hp];show strSub x a i::partsFrom x 1 (i+1) ((List.range' (i+1)<|k+1).filter<|P x c)=(if x.cps.toList[i]=c then _ else _:List<|ar).map mk;rw[aR q,wA x c k (i+1) (i+1) ()<|aJ _,bf,Bj,sub_self,List.take_zero]
  ·have hp:¬P x c i=true:=λz=>by
    have z:=dM z;rw[aL hi]at z;exact q<|aQ z
   rw[cG hp,wA x c k a (i+1) () ()];show _=(if x.cps.toList[i]=c then _ else mj c _ _:List<|ar).map mk;rw[aO q];congr 2;rw[show i+1-a=(i-a)+1 by lia,List.take_add_one,List.getElem?_drop,show a+(i-a)=i by lia,aL hi];rfl
def Rt(x:Str){c:Nat}(h:c<256):¬Builtin.Str.strKind x<Builtin.Str.strKind ⟨#[c]⟩:=by
 have:Builtin.Str.strKind ⟨#[c]⟩=1:=by
  unfold Builtin.Str.strKind;rw[aR<|by simp;exact h]
 rw[this];unfold Builtin.Str.strKind;split
 ·lia
 ·split<;>lia
def Gh(x:Str){c:Nat}(hc:c<256)(h:1<=x.length):Txt.split x ⟨#[c]⟩=(mj c [] x.cps.toList).map mk:=by
 have e0:=wA x c x.length 0 0 ()<|aJ _;rw[f_,sub_self,List.take_zero]at e0;unfold Txt.split;rw[aO<|by rw[f7,dJ,dJ];exact λz=>z.elim (λz=>by rw[Ax]at z;lia)<|Rt x hc,Td,<- e0,StrLaws.partsBetween_eq,Ax];split
 ·rename_i z;rw[List.isEmpty_iff]at z;rw[z];show[x]=[strSub x 0 x.length];rw[Bj,f_,cQ<|by rw[<- size_eq];lia,Fb]
 ·rfl
theorem rF(c:Nat):∀(a cur r:ar),c∉a->mj c cur (a++r)=mj c (cur++a) r
 | [],cur,r,_=>by rw[bX];rfl
 | d::a,cur,r,h=>by
  show(if d=c then _ else mj c (cur++[d]) (a++r))=_;rw[aO λz=>h<|by rw[z];exact aZ ..,rF c a _ r λz=>h<|aW _ z,bL];rfl
def sS(a b:Str):(a++b).cps.toList=a.cps.toList++b.cps.toList:=Array.toList_append
theorem kr(c:Nat):∀(a:Str) (rest:ba),(Str.join ⟨#[c]⟩ (a::rest)).cps.toList=a.cps.toList++rest.flatMap λt=>c::t.cps.toList
 | a,[]=>(bX _).symm
 | a,b::rest=>by
  show(a++⟨#[c]⟩++Str.join ⟨#[c]⟩ (b::rest)).cps.toList=_;rw[sS,sS,kr c b rest,bL];rfl
theorem uC(c:Nat):∀(a:Str) (rest:ba),c∉a.cps.toList->(∀t∈rest,c∉t.cps.toList)->mj c [] (a.cps.toList++rest.flatMap λt=>c::t.cps.toList)=(a::rest).map λt=>t.cps.toList
 | a,[],h,_=>by
  rw[rF c _ _ _ h];rfl
 | a,b::rest,h,h'=>by
  rw[rF c _ _ _ h];show mj c ([]++a.cps.toList) (c::(b.cps.toList++rest.flatMap λt=>c::t.cps.toList))=_;show(if c=c then([]++a.cps.toList)::mj c [] _ else _)=_;rw[aR rfl,uC c b rest (h' b<|aZ ..) λt d=>h' t<|aW _ d];rfl
def vF{l:ba}{c:Nat}(hc:c<256)(j:l≠[])(h:∀t∈l,c∉t.cps.toList)(J:1<=(Str.join ⟨#[c]⟩ l).length):Txt.split (Str.join ⟨#[c]⟩ l) ⟨#[c]⟩=l:=by
 rw[Gh _ hc J]
 cases l with
 | nil=>exact absurd rfl j
 | cons a rest=>
  rw[kr,uC c a rest (h a<|aZ ..) λt d=>h t<|aW _ d,cM];exact List.map_id _
def small:∀i:Nat,i<21->((Tx.tx (i:Int)).cps.toList.all λc=>decide (48<=c) && decide (c<=57))=true/\1<=(Tx.tx (i:Int)).length/\(Tx.tx (i:Int)).length<=2/\(0<i->subAt (Tx.tx (i:Int)) "0" 0=false):=by decide +kernel
def Tz:∀c:Nat,c<58->48<=c->(occurrences (Str.ofString "0123456789") ⟨#[c]⟩ 0 (Str.ofString "0123456789").length 1).isEmpty=false:=by decide +kernel
end Sp
namespace Sy
open Tb
abbrev hd (T:List<|am)(y:Int):am:=match T with
 | []=>[y]
 | u::_=>if fg u y=u.length then u++[y]else u.set (fg u y) y
abbrev plain (T:List<|am):am:=T.reverse.flatten
end Sy
namespace K88
open PySem L2 Am
abbrev rO (S:gr)(b:Nat):Prop:=∃g st:Int,gn S b=some [.int g,.int st]/\0<=g/\0<=st/\st<4294967296
def rO.kp{c:Nat->Prop}(h:rO S b)(k:Kp c S S')(hb:¬c b):rO S' b:=by
 obtain⟨g,st,e,q⟩:=h;exact⟨g,st,k.lst b _ hb e,q⟩
def DC{S:gr}{ns:am}{k:Int}(h0:0<=k)(h1:k<=100):∃S',lC [.frz<|ns.map .int,.int k] S=.ok (.ref S.length) S'/\rO S' S.length/\iX S S':=by
 have e3:LW (.int 10) (.int 18)=λS=>R.ok (.int 1000000000000000000) S:=by
  funext S;exact jo ⟨by decide,by decide,by decide⟩
 have f:∀d:Int,0<=d->∃S',((RS.seq (.nx [A.frz<|ns.map .int,.int k,.int d,.unb] S) (gM (ir (gB iF (eC<|.int 1)<|gB sF (gB iF (gB iF (gB iF (gB sF (gi 2)<|eC<|.int 2147483647)<|gB p6 (gB p6 (eC<|.int 7919)<|gi 1)<|gi 1)<|gB p6 (eC<|.int 17)<|gi 1)<|eC<|.int 3)<|eC<|.int 2147483646)<|iC 3)
   (ie<|mG<|gj (gB p6 (gi 2)<|gP (f1 wG)<|gj (gB OX (gi 2)<|gB LW (eC<|.int 10)<|eC<|.int 18)<|gv)<|gj (gi 3)<|gv))).end=.ok (.ref S.length) S')/\rO S' S.length/\iX S S':=by
  intro d hc;have j:sF (.int d) (.int 2147483647)=λS=>R.ok (.int<|d % 2147483647) S:=by funext S;exact v_ ⋯
  have F:∀x:Int,sF (.int x) (.int 2147483646)=λS=>R.ok (.int<|x % 2147483646) S:=λx=>by funext S;exact v_ ⋯
  have p:∀x:Int,p6 (.int 7919) (.int x)=λS=>R.ok (.int<|7919 * x) S:=λx=>by funext S;exact Du ⋯ ⋯
  have m:p6 (.int<|7919 * k) (.int k)=λS=>R.ok (.int<|7919 * k * k) S:=by funext S;exact mul_r (by omega) (by omega)
  have K:∀x:Int,p6 (.int 17) (.int x)=λS=>R.ok (.int<|17 * x) S:=λx=>by funext S;exact Du ⋯ ⋯
  have C:∀b:Bool,p6 (.int d) (.int<|if b=true then 1 else 0)=λS=>R.ok (.int<|d * (if b=true then 1 else 0)) S:=λb=>by
   funext S
   refine mul_r ?_ ?_<;>cases b<;>decide
  have J:0<=1+(d % 2147483647+7919 * k * k+17 * k+3) % 2147483646:=by
   have:=fu (d % 2147483647+7919 * k * k+17 * k+3) (show(2147483646:Int)≠0 by decide);omega
  have L:1+(d % 2147483647+7919 * k * k+17 * k+3) % 2147483646<4294967296:=by
   have:=eo (d % 2147483647+7919 * k * k+17 * k+3) (show(0:Int)<2147483646 by decide);omega
  refine⟨S++[.lst [.int<|d * (if decide (1000000000000000000<=d)=true then 1 else 0),.int<|1+(d % 2147483647+7919 * k * k+17 * k+3) % 2147483646]],?_,⟨_,_,gK,?_,J,L⟩,Kp.refl.lay⟩
  ·dsimp[gV,bools,j,F,p,m,K,e3,C]
  ·refine Int.mul_nonneg hc ?_;split<;>decide
 have G:∀x:Int,0<=(if x<0 then -x else x):=by intro x;split<;>omega
 unfold lC tB tR;dsimp[gV,bools,iR,Nat.reduceAdd,Nat.reduceSub,aH];by_cases g:k<(ns.length:Int)
 ·have hn:k.toNat<ns.length:=by omega
  have B:lH (ns.map A.int) k=some (.int ns[k.toNat]):=r_ (k:=k.toNat) (by omega)<|aL hn;rw[bB g];dsimp[gV,bools,B];exact f _<|G _
 ·rw[bE g];dsimp[gV,bools];exact f 0<|Int.le_refl 0
def digit{m:Int}(h:rO S b)(h1:1<=m)(U:m<1073741824):∃d S',gG [.ref b,.int m] S=.ok (.int d) S'/\0<=d/\d<m/\rO S' b/\Kp (·=b) S S':=by
 obtain⟨g,st,p,hg,hs,B⟩:=h;have C:=iA p;have F:ve 2 0=some 0:=oH rfl ⋯;have G:ve 2 1=some 1:=oH rfl ⋯;have j:∀d g' f:Int,0<=d->d<m->0<=g'->0<=f->f<4294967296->gG [.ref b,.int m] S=.ok (.int d) (S.set b<|.lst [.int g',.int f])->∃d S',gG [.ref b,.int m] S=.ok (.int d) S'/\0<=d/\d<m/\rO S' b/\Kp (·=b) S S':=
  λd g' f N O K J L e=>⟨d,_,e,N,O,⟨g',f,jy C,K,J,L⟩,Kp.refl.set<|.inl rfl⟩
 by_cases k:0<g
 ·refine j (g % m) (g / m) st (fu _<|by omega) (eo _<|by omega) (Int.ediv_nonneg hg<|by omega) hs B ?_;unfold gG mY m7;rw[vp];simp[p,Hr,Hz,k,v_<|show 0<m by omega,yC (show 0<m by omega) U,F]
 ·have:g=0:=by omega
  subst this;have e1:0<=st * 48271 % 2147483647:=fu _ ⋯;have e2:st * 48271 % 2147483647<2147483647:=eo _ ⋯;refine j ((st * 48271 % 2147483647) * ((st * 48271 % 2147483647) / 65536+9) % 2147483629 / 32 % m) 0 (st * 48271 % 2147483647) (fu _<|by omega) (eo _<|by omega) ⋯ e1 (by omega) ?_;unfold gG mY m7;rw[vp];simp[p,Hr,Hz,v_<|show 0<m by omega,F,G,Du (show -18446744073709551616<st by omega)<|by omega,v_<|show(0:Int)<2147483647 by decide,jy C,yC (show(0:Int)<65536 by decide) ⋯,Du (show -18446744073709551616<st * 48271 % 2147483647 by omega)<|by omega,v_<|show(0:Int)<2147483629 by decide,yC (show(0:Int)<32 by decide) ⋯]
theorem wF:∀(l:am) (j:Nat) (h:j<l.length),(l[j]::l.eraseIdx j).Perm l
 | x::l,0,_=>dP _
 | x::l,j+1,h=>(List.Perm.swap x _ _).trans<|List.Perm.cons x<|wF l j<|Nat.lt_of_succ_lt_succ h
def Fi{J fs:am}{j:Nat}(h:j<J.length):((fs++[J[j]])++J.eraseIdx j).Perm (fs++J):=by
 rw[bL];refine List.Perm.append_left fs ?_
 skip
 exact wF J j h
def OV{n:Int}(h:rO S b)(h1:1<=n)(h2:n<=20):∃(xs:am) (S':gr),nU [.ref b,.int n] S=.ok (.tup<|xs.map .int) S'/\xs.Perm (iV 1<|n+1)/\rO S' b/\Kp (·=b) S S':=by
 have hbS:b<S.length:=by obtain⟨_,_,e,_⟩:=h;exact iA e
 unfold nU uz uv;dsimp[gV,bools,iR,Nat.reduceAdd,Nat.reduceSub,uq<|vY (show(-1000000:Int)<=1 by decide) ⋯ (show -1000000<=n+1 by omega) (by omega) (by omega),aU];have T:=vP (t:=pq) (c:=qd)
  (λτ S1=>∃(L:Nat) (x4:A) (f fs:am),τ=[.ref b,.int n,.ref L,.ref<|S.length+1,x4]/\gn S1 L=some (f.map .int)/\gn S1 (S.length+1)=some (fs.map .int)/\L≠S.length+1/\S.length<=L/\(fs++f).Perm (iV 1<|n+1)/\rO S1 b/\Kp (·=b) S S1)
  (λτ S1=>match τ with
   | [_,_,.ref L,_,_]=>((gn S1 L).getD []).length
   | _=>0)
  (λr=>∃(xs:am) (S':gr),RS.end (RS.seq r<|ie<|gP (f1 mK)<|gj (gi 3) gv)=.ok (.tup<|xs.map .int) S'/\xs.Perm (iV 1<|n+1)/\rO S' b/\Kp (·=b) S S') ?_ 1000000
 ·refine T _ _ ⟨S.length,.unb,iV 1<|n+1,[],rfl,?_,?_,by omega,aJ _,dP _,h.kp (c:=λ_=>False) (Kp.refl.lay.lay) λz=>z,Kp.refl.lay.lay⟩ ?_
  ·exact jL gK
  ·have:gn (S++[.lst<|(iV 1<|n+1).map .int]++[.lst []]) (S++[O.lst<|(iV 1<|n+1).map .int]).length=some []:=gK;simpa using this
  ·show((gn _ S.length).getD []).length<_;rw[jL gK,cS,aH,kI];omega
 ·rintro τ S1 ⟨L,x4,f,fs,rfl,U,hF,P,hLS,hp,hb,hk⟩;have hlen:f.length<=20:=by
   have:=hp.length_eq;rw[aU,kI]at this;omega
  unfold pq qd;dsimp[gV,bools,U,aH];by_cases h0:f=[]
  ·subst h0;left;refine⟨S1,rfl,fs,S1,?_,by simpa using hp,hb,hk⟩;dsimp[gV,bools,hF]
  ·right;have hpos:0<f.length:=List.length_pos_iff.mpr h0;refine⟨S1,by rw[bB<|by omega],.inl ?_⟩;obtain⟨d,p,e2,d0,d1,V,B⟩:=digit (m:=(f.length:Int)) hb (by omega) (by omega);have Z:¬L=b:=by omega
   have C:=B.lst L _ Z U;have G:=B.lst (S.length+1) _ (by omega) hF;have hd:d.toNat<f.length:=by omega
   have ha:lH (f.map A.int) d=some (.int f[d.toNat]):=r_ (k:=d.toNat) (by omega)<|aL hd;have lF:=iA G;have lL:=iA C;have hfl:fs.length<=20:=by
    have:=hp.length_eq;rw[aU,kI]at this;omega
   have J:gn (p.set (S.length+1)<|.lst<|fs.map .int++[.int f[d.toNat]]) L=some (f.map .int):=by rw[lK<|bM P];exact C
   have Y:mQ (f.map A.int) none (some d)=(f.take d.toNat).map .int:=by
    have:=E7 (f.map A.int) d.toNat (by rw[aH];exact hd);rw[show((d.toNat:Nat):Int)=d by omega]at this;rw[this,List.map_take]
   have N:mQ (f.map A.int) (some<|d+1) none=(f.drop<|d.toNat+1).map .int:=by
    have:=qo (f.map A.int) d.toNat (by rw[aH];exact hd);rw[show((d.toNat:Nat):Int)=d by omega]at this;rw[this,map_drop]
   dsimp[gV,bools,U,aH,e2,G,C,ha,RN<|show(fs.length)<16777216 by omega,J,Y,N];have g1:gn (p.set (S.length+1) (.lst<|fs.map .int++[.int f[d.toNat]])++[.lst<|(f.take d.toNat).map .int]) L=some (f.map .int):=jL J;dsimp[gV,bools,g1,N];have F:=MF (S:=p.set (S.length+1) (.lst<|fs.map .int++[.int f[d.toNat]])++[.lst<|(f.take d.toNat).map .int]++[.lst<|(f.drop<|d.toNat+1).map .int]) (jL gK) gK (by rw[aH,aH,eY,dS];omega);rw[F];dsimp[gV,bools];have K:(f.take d.toNat).map A.int++(f.drop<|d.toNat+1).map A.int=(f.eraseIdx d.toNat).map .int:=by rw[<- bZ,<- List.eraseIdx_eq_take_drop_succ]
   rw[K];have j:(p.set (S.length+1) (.lst<|fs.map .int++[.int f[d.toNat]])++[O.lst<|(f.take d.toNat).map .int]++[O.lst<|(f.drop<|d.toNat+1).map .int]).length=p.length+2:=by simp
   have k3:Kp (·=b) S (p.set (S.length+1)<|.lst<|fs.map .int++[.int f[d.toNat]]):=(hk.trans B).set (.inr<|by omega);have b3:rO (p.set (S.length+1)<|.lst<|fs.map .int++[.int f[d.toNat]]) b:=by
    obtain⟨g,st,e,q⟩:=V;exact⟨g,st,by rw[lK<|by omega];exact e,q⟩
   refine⟨_,_,rfl,⟨_,_,f.eraseIdx d.toNat,fs++[f[d.toNat]],rfl,gK,?_,?_,?_,?_,b3.kp (c:=λ_=>False) Kp.refl.lay.lay.lay λz=>z,k3.lay.lay.lay⟩,?_⟩
   ·rw[bZ];exact jL (jL<|jL<|jy<|by omega)
   ·rw[j];omega
   ·rw[j];omega
   ·exact(Fi hd).trans hp
   ·dsimp[gK,cS,aH,List.length_eraseIdx_of_lt hd];omega
def HP{xs:am}{i j:Nat}{x y:Int}(hi:xs[i]?=some x)(J:xs[j]?=some y):((xs.set i y).set j x).Perm xs:=by
 obtain⟨g,d⟩:=aI.mp hi;obtain⟨k,f⟩:=aI.mp J;subst d f;exact List.set_set_perm g k
def Ku{n:Int}(h:rO S b)(h1:1<=n)(h2:n<=20):∃(xs:am) (S':gr),jT [.ref b,.int n] S=.ok (.tup<|xs.map .int) S'/\xs.Perm (iV 1<|n+1)/\rO S' b/\Kp (·=b) S S':=by
 unfold jT pF pY;obtain⟨d,S1,e1,d0,d1,U,f⟩:=digit (m:=4) h ⋯ ⋯;dsimp[gV,bools,iR,Nat.reduceAdd,Nat.reduceSub,e1];by_cases hw:1<d
 ·obtain⟨xs,G,e2,hp,C,J⟩:=OV U h1 h2;rw[bB hw];dsimp[gV,bools,e2];exact⟨xs,G,rfl,hp,C,f.trans J⟩
 ·rw[bE hw];have hbS:b<S.length:=by obtain⟨_,_,e,_⟩:=h;exact iA e
  have hl1:=f.len;dsimp[gV,bools,uq<|vY (show(-1000000:Int)<=1 by decide) ⋯ (show -1000000<=n+1 by omega) (by omega) (by omega)];have go:∀(L:Nat) (fs:am) (G:gr),gn G L=some (fs.map .int)->fs.Perm (iV 1<|n+1)->rO G b->Kp (·=b) S G->S.length<=L ->
    ∃(xs:am) (S':gr),RS.end (RS.seq (qu qE (iC 4) nJ [.ref b,.int n,.int d,.ref L,.unb,.unb,.unb] G)<|ie<|gP (f1 mK)<|gj (gi 3)<|gv)=.ok (.tup<|xs.map .int) S'/\xs.Perm (iV 1<|n+1)/\rO S' b/\Kp (·=b) S S':=by
   intro L fs G hL hp C J Y;obtain⟨m,S3,e3,m0,m1,hb3,hk3⟩:=digit (m:=7) C ⋯ ⋯;refine u5 (lo:=0) (hi:=m) (S1:=S3) ?_ (λ_ τ T=>∃(x4 x5 x6:A) (fs:am),τ=[.ref b,.int n,.int d,.ref L,x4,x5,x6]/\gn T L=some (fs.map .int)/\fs.Perm (iV 1<|n+1)/\rO T b/\Kp (·=b) S T) (λr=>∃(xs:am) (S':gr),RS.end (RS.seq r _)=.ok (.tup<|xs.map .int) S'/\xs.Perm (iV 1<|n+1)/\rO S' b/\Kp (·=b) S S') ⟨_,_,_,fs,rfl,hk3.lst L _ (by omega) hL,hp,hb3,J.trans hk3⟩ ?_ ?_
   ·refine vX ?_ (yT (by omega)<|by omega);dsimp[gV,bools,e3]
   ·rintro i τ T hi ⟨x4,x5,x6,fs,rfl,F,j,B,K⟩;left;obtain⟨p,S5,e5,p0,p1,hb5,Z⟩:=digit (m:=n) B h1 (by omega);obtain⟨q,S6,e6,q0,q1,hb6,hk6⟩:=digit (m:=n) hb5 h1 (by omega);have hL6:=hk6.lst L _ (by omega) (Z.lst L _ (by omega) F);have hlen:(fs.length:Int)=n:=by rw[j.length_eq,kI];omega
    have P:p.toNat<fs.length:=by omega
    have N:q.toNat<fs.length:=by omega
    have ap:lH (fs.map A.int) p=some (.int fs[p.toNat]):=r_ (k:=p.toNat) (by omega)<|aL P;have aq:lH (fs.map A.int) q=some (.int fs[q.toNat]):=r_ (k:=q.toNat) (by omega)<|aL N;have ip:ve fs.length p=some p.toNat:=oH (by omega) P;have iq:ve fs.length q=some q.toNat:=oH (by omega) N;have lL6:=iA hL6;unfold nJ;dsimp[gV,bools,e5,e6,hL6,ap,aq,NQ<|show([_,_]:ae).length<=16777216 by simp,jo<|show([_,_]:ae).length=2 from rfl,aH,ip,iq,jy lL6,bx];refine⟨_,_,rfl,_,_,_,(fs.set p.toNat fs[q.toNat]).set q.toNat fs[p.toNat],rfl,?_,?_,?_,?_⟩
    ·rw[jy<|by rw[bx];exact lL6,fY,fY]
    ·exact(HP (aL P)<|aL N).trans j
    ·obtain⟨g,st,e,z⟩:=hb6;exact⟨g,st,by rw[lK<|by omega,lK<|by omega];exact e,z⟩
    ·exact((((K.trans Z).trans hk6).set<|.inr Y).set<|.inr Y)
   ·rintro τ T ⟨x4,x5,x6,fs,rfl,F,j,B,K⟩;refine⟨fs,T,?_,j,B,K⟩;dsimp[gV,bools,F]
  have b2:rO (S1++[O.lst<|(iV 1<|n+1).map .int]) b:=U.kp (c:=λ_=>False) Kp.refl.lay λz=>z;by_cases V:d=1
  ·subst V;dsimp[gV,bools,bG];exact go _ (iV 1<|n+1).reverse _ (by rw[List.map_reverse];exact gK) (List.reverse_perm _) (b2.kp (c:=λ_=>False) Kp.refl.lay λz=>z) f.lay.lay (by simp;omega)
  ·rw[show(d == 1)=false by simpa using V];dsimp[gV,bools];exact go _ (iV 1<|n+1) _ gK (dP _) b2 f.lay hl1
theorem yf:∀(ts:ba),A.strs (ts.map .str)=some ts
 | []=>rfl
 | t::ts=>by show(A.strs<|ts.map .str).map (t::·)=_;rw[yf ts];rfl
def y_{z:Str}{n:Nat}{ts:ba}(h:gn S n=some (ts.map .str))(j:(ts.map (·.length)).sum+ts.length * z.length<=16777216):nV (.str z) [.ref n] S=.ok (.str<|Str.join z ts) S:=by
 show opt (gn S n) _=_;rw[h,gH,yf,gH,jo j];show R.ok (A.str<|Builtin.Str.glued z ts) S=_;rw[StrLaws.glued_eq_join]
def tD{f:A->ae->gr->Am.R A}{co:Ex}{d:lq}:CH f co d τ S=(co τ S).bind λo S1=>gd (o.isStr=true) ((d τ S1).bind λas S2=>f o as S2):=rfl
def LA{x:Str}:A.isStr (.str x)=true:=rfl
abbrev uW (xs:am):Prop:=∀x∈xs,1<=x/\x<=20
def x_{x:Int}(h:1<=x/\x<=20):((Tx.tx x).cps.toList.all λc=>decide (48<=c) && decide (c<=57))=true/\1<=(Tx.tx x).length/\(Tx.tx x).length<=2/\Builtin.Str.subAt (Tx.tx x) "0" 0=false:=by
 obtain⟨a,b,c,d⟩:=Sp.small x.toNat (by omega);rw[show((x.toNat:Nat):Int)=x by omega]at a b c d;exact⟨a,b,c,d<|by omega⟩
def no_space{x:Int}(h:1<=x/\x<=20):32∉(Tx.tx x).cps.toList:=λz=>by
 have:=cE.mp (x_ h).1 32 z;simp at this
abbrev jH (xs:am):Str:=Str.join ⟨#[32]⟩<|xs.map Tx.tx
def GF{xs:am}(h:uW xs):∀t∈xs.map Tx.tx,t.length<=2:=λt f=>by
 obtain⟨x,d,rfl⟩:=bR.mp f;exact(x_<|h x d).2.2.1
def FW{xs:am}(h:uW xs)(j:xs.length<=200):((xs.map Tx.tx).map (·.length)).sum+(xs.map Tx.tx).length * (⟨#[32]⟩:Str).length<=16777216:=by
 have:=Tx.B3 (B:=2) (xs.map Tx.tx)<|GF h;rw[aH]at this;rw[aH,Sp.Ax];omega
def Nj{xs:am}(h:uW xs)(j:xs.length<=200):(jH xs).length<=600:=by
 have:=Tx.pP ⟨#[32]⟩ (B:=2) (xs.map Tx.tx)<|GF h;rw[aH,Sp.Ax]at this;exact bI this<|by omega
def GR(h:uW xs)(j:xs≠[]):1<=(jH xs).length:=
 Tx.A1 ⟨#[32]⟩ (xs.map Tx.tx) (by simpa using j) λt f=>by
  obtain⟨x,d,rfl⟩:=bR.mp f;exact(x_<|h x d).2.1
def Kr{x:Int}(h:1<=x/\x<=20):ya (.int x) S=.ok (.str<|Tx.tx x) S:=jo<|Tx.EU (by omega)<|by omega
def P7(xs:am):(xs.map A.int).map (λx=>match x with | .int i=>A.str (Tx.tx i)|_=>.unb)=(xs.map Tx.tx).map .str:=by
 rw[cM,cM];rfl
def Ii{S:gr}{v:A}{xs:am}(h:uW xs)(L:xs.length<=200)(hv:v.i9=false)(J:A.ON v S=some (!(xs.map A.int).isEmpty))(hc:jX [none] (j5<|gi 0) (iC 0) kG (gP (f1 ya)<|gj (gi 0)<|gv) [v] S=.ok (.ref S.length) (S++[.lst<|(xs.map Tx.tx).map .str])) :
  ∃S',iL [v] S=.ok (.str<|if xs=[]then Str.ofString "-" else jH xs) S'/\iX S S':=by
 unfold iL lO mw;by_cases c:xs=[]
 ·subst c;dsimp[gV,bools,iR,Nat.reduceAdd,Nat.reduceSub,uD hv,J,fX,List.isEmpty_nil,ck,dH];exact⟨_,rfl,Kp.refl⟩
 ·have e:(!(xs.map A.int).isEmpty)=true:=by cases xs with|nil=>exact absurd rfl c|cons _ _=>rfl
  rw[e]at J;have j:nV (.str<|PySem.Str.ofString " ") [.ref S.length] (S++[.lst<|(xs.map Tx.tx).map .str])=.ok (.str<|jH xs) (S++[.lst<|(xs.map Tx.tx).map .str]):=y_ (z:=⟨#[32]⟩) gK<|FW h L;dsimp[gV,bools,iR,Nat.reduceAdd,Nat.reduceSub,uD hv,J,tD,LA,hc,j,ki<|show A.isStr (.str<|PySem.Str.ofString " ")=true from rfl];rw[aO c];exact⟨_,rfl,Kp.refl.lay⟩
def NX{xs:am}(h:uW xs)(j:xs.length<=200):∃S',iL [.tup<|xs.map .int] S=.ok (.str<|if xs=[]then Str.ofString "-" else jH xs) S'/\iX S S':=by
 refine Ii h j rfl rfl ?_;rw[pC (cap:=[]) (S1:=S) (xs:=xs.map .int) (B_<|by dsimp[gV,bools]) (λx=>match x with | .int i=>.str (Tx.tx i)|_=>.unb) (λx d=>by
  obtain⟨i,hi,rfl⟩:=bR.mp d;dsimp[gV,bools,Kr<|h i hi])<|by rw[aH];omega,P7]
def BS{n:Nat}{bs:List Bool}(h:gn S n=some xs)(hb:A.KG xs=some bs):uS (.ref n) S=.ok (.bl<|bs.all λb=>b) S:=by
 show opt (gn S n) _=_;rw[h];show opt (A.KG xs) _=_;rw[hb];rfl
theorem Dj:∀(xs:ae),A.KG (xs.map λ_=>.bl true)=some (xs.map λ_=>true)
 | []=>rfl
 | x::xs=>by rw[bf,ue,Dj xs];rfl
theorem Di:∀(xs:ae),((xs.map λ_=>true).all λb=>b)=true
 | []=>rfl
 | _::xs=>Di xs
def Gm{c:Ex}{x:Str}(h:c τ S=.ok (.str x) S1)(j:x.cps.all (· < 128)=true):j5 c τ S=.ok (mh<|x.cps.toList.map λc=>.str ⟨#[c]⟩) S1:=by
 unfold j5;rw[h];exact ki j
def Pf{f g:A->A->gr->R A}{ca J j:Ex}{a c:A}(h1:ca τ S=.ok a S)(L:J τ S=.ok b S)(U:f a b S=.ok (.bl true) S)(Z:j τ S=.ok c S):Il f g ca J j τ S=g b c S:=by
 unfold Il;rw[h1,R.iP,L,R.iP,U,R.iP];unfold UO;show(j τ S).bind _=_;rw[Z];rfl
def OW{x:Int}(h:1<=x/\x<=20):∃S',jm [.str<|Tx.tx x] S=.ok (.int x) S'/\iX S S':=by
 obtain⟨h1,F,C,B⟩:=x_ h;have d:(Tx.tx x).cps.all (· < 128)=true:=by
  rw[<- all_toList,cE];intro c hc;have:=cE.mp h1 c hc;simp at this;exact bB<|by omega
 have p:jf (.str<|Tx.tx x) S=.ok (.int (Tx.tx x).length) S:=jo (by rw[bH];omega);have k:Il FH FH (eC<|.int 1) (gP (f1 jf)<|gj (gi 0)<|gv) (eC<|.int 30) [.str<|Tx.tx x] S=.ok (.bl true) S:=by
  rw[Pf (a:=.int 1) (b:=.int (Tx.tx x).length) (c:=.int 30) rfl (by dsimp[gV,bools,p]) (by dsimp[gV,bB<|show(1:Int)<=((Tx.tx x).length:Int)by omega]) rfl];dsimp[gV,bB<|show((Tx.tx x).length:Int)<=30 by omega]
 have j:=pC (cap:=[]) (src:=j5<|gi 0) (e:=gB BQ (gi 0)<|eC<|.str<|PySem.Str.ofString "0123456789") (τ:=[.str<|Tx.tx x]) (S:=S) (S1:=S) (xs:=(Tx.tx x).cps.toList.map λc=>A.str ⟨#[c]⟩) (Gm (by dsimp[gV,bools]) d) (λ_=>.bl true) (λy hy=>by
  obtain⟨c,hc,rfl⟩:=bR.mp hy;have:=cE.mp h1 c hc;simp at this;have e:BQ (.str ⟨#[c]⟩) (.str<|PySem.Str.ofString "0123456789") S=.ok (.bl true) S:=by
   show R.ok (A.bl<|!(Builtin.Str.occurrences (Str.ofString "0123456789") ⟨#[c]⟩ 0 (Str.ofString "0123456789").length 1).isEmpty) S=_;rw[Sp.Tz c (by omega)<|by omega];rfl
  dsimp[gV,bools,e])<|by rw[aH,cA];show(Tx.tx x).length<=_;omega
 have g:uS (.ref S.length) (S++[O.lst<|((Tx.tx x).cps.toList.map λc=>A.str ⟨#[c]⟩).map λ_=>A.bl true])=.ok (.bl true) (S++[O.lst<|((Tx.tx x).cps.toList.map λc=>A.str ⟨#[c]⟩).map λ_=>A.bl true]):=by
  rw[BS gK<|Dj _,Di]
 obtain⟨T,f⟩:∃T,T=S++[O.lst<|((Tx.tx x).cps.toList.map λc=>A.str ⟨#[c]⟩).map λ_=>A.bl true]:=⟨_,rfl⟩;have m:iX S T:=by rw[f];exact Kp.refl.lay
 rw[<- f]at j g;have st:yJ (.str<|Tx.tx x) [.str<|PySem.Str.ofString "0"] T=.ok (.bl false) T:=by
  show R.ok (A.bl<|decide (0+_<=_) && Builtin.Str.subAt (Tx.tx x) (PySem.Str.ofString "0") 0) T=_;rw[show Builtin.Str.subAt (Tx.tx x) (PySem.Str.ofString "0") 0=false from B,f9]
 have it:wG (.str<|Tx.tx x) T=.ok (.int x) T:=by
  show opt (PySem.intText?<|Tx.tx x) _=_;rw[show PySem.intText? (Tx.tx x)=some x from eW (by omega)<|by omega,gH];exact ki<|by omega
 unfold jm nu nG;dsimp[gV,bools,iR,Nat.reduceAdd,Nat.reduceSub,k,ck,j,g,tD,ki<|show A.isStr (.str<|Tx.tx x)=true from rfl,st,it];exact⟨_,rfl,m⟩
def Rg{i:Int}:jt [.int i] S=.ok (.bl true) S:=by
 unfold jt qZ qJ;dsimp[gV,bools,iR,Nat.reduceAdd,Nat.reduceSub,show zP .int "int" = some true from rfl,show zP .int "bool" = some false from rfl,gf]
def Jg{S:gr}{ys:am}(h:ys.length<64):Cf (.tup<|ys.map .int) S=.ok (.ref S.length) (S++[.lst<|(sortI ys).map .int]):=by
 show opt (A.seq S<|.tup<|ys.map .int) _=_;show opt (A.ints<|ys.map .int) _=_;rw[ints_map,gH];exact ki h
def Vq{S:gr}{xs:am}{F:ae->gr->R A}(j:∀(S:gr) (i:Int),F [.int i] S=.ok (.bl true) S){src:Ic}(hs:src τ S=.ok (mh<|xs.map .int) S)(J:xs.length<=200) :
  jX [none] src (iC 0) kG (eFn F<|gj (gi 0)<|gv) τ S=.ok (.ref S.length) (S++[O.lst<|(xs.map A.int).map λ_=>A.bl true]):=
 pC (cap:=[]) hs (λ_=>.bl true) (λy hy=>by
  obtain⟨c,hc,rfl⟩:=bR.mp hy;dsimp[gV,bools,j]) (by rw[aH];omega)
def zA{S:gr}{L:ae}:uS (.ref S.length) (S++[O.lst<|L.map λ_=>A.bl true])=.ok (.bl true) (S++[O.lst<|L.map λ_=>A.bl true]):=by
 rw[BS gK<|Dj _,Di]
def Rq{xs:am}{n:Nat}(J:xs.Perm<|iV 1<|(n:Int)+1)(h1:1<=n)(L:n<=20):∃S',lY [.tup<|xs.map .int] S=.ok (.bl true) S'/\iX S S':=by
 have j:xs.length=n:=by rw[J.length_eq,kI];omega
 have w:=Vq (S:=S) (xs:=xs) (F:=jt) (λS i=>Rg) (τ:=[.tup<|xs.map .int]) (src:=j5<|gi 0) (B_<|by dsimp[gV,bools]) (by omega);obtain⟨T,d⟩:∃T,T=S++[O.lst<|(xs.map A.int).map λ_=>A.bl true]:=⟨_,rfl⟩;have m:uS (.ref S.length) T=.ok (.bl true) T:=by rw[d];exact zA
 rw[<- d]at w;have g:iX S T:=by rw[d];exact Kp.refl.lay
 have es:sortI xs=iV 1 ((n:Int)+1):=List.Perm.eq_of_pairwise (λx y _ _ h1 L=>Int.le_antisymm h1 L) (wj xs) (Lv _ _)<|(sortI_perm xs).trans J;have f:=Jg (S:=T) (ys:=xs) (by omega);rw[es]at f;have k:m_ false (.ref T.length) (.ref (T++[O.lst<|(iV 1<|(n:Int)+1).map A.int]).length) (T++[O.lst<|(iV 1<|(n:Int)+1).map A.int]++[O.lst<|(iV 1<|(n:Int)+1).map A.int])=.ok (.bl true) (T++[O.lst<|(iV 1<|(n:Int)+1).map A.int]++[O.lst<|(iV 1<|(n:Int)+1).map A.int]):=by
  rw[vQ<|Rf (S:=T++[O.lst<|(iV 1<|(n:Int)+1).map A.int]++[O.lst<|(iV 1<|(n:Int)+1).map A.int]) (jL gK) gK,bB rfl]
 unfold lY qQ qR;dsimp[gV,bools,iR,Nat.reduceAdd,Nat.reduceSub,show zP Kd.tup "tuple" = some true from rfl,ck,aH,j,bE<|show ¬(n:Int)<1 by omega,bE<|show ¬(20:Int)<(n:Int)by omega,w,m,f,uq<|vY (show(-1000000:Int)<=1 by decide) ⋯ (show -1000000<=(n:Int)+1 by omega) (by omega) (by omega),k];exact⟨_,rfl,g.lay.lay⟩
def Q2{n k:Int}(h1:1<=k)(j:k<n):iJ [.int n,.int k] S=.ok (.bl true) S:=by
 unfold iJ nq nA;have c:Il FH Qh (eC<|.int 1) (gi 1) (gi 0) [.int n,.int k] S=.ok (.bl true) S:=by
  rw[Pf (a:=.int 1) (b:=.int k) (c:=.int n) rfl rfl (by dsimp[gV,bB h1]) rfl];dsimp[gV,bB j]
 dsimp[gV,bools,iR,Nat.reduceAdd,Nat.reduceSub,Rg,c]
def UI{xs:am}(j:gn S W=some (xs.map .int))(h:∀x∈xs,1<=x/\x<20)(J:xs.length<=200):∃S',nL [.int 20,.ref W] S=.ok (.bl true) S'/\iX S S':=by
 have d:=JU (cap:=[some 0]) (src:=j5<|gi 1) (t:=kG) (e:=eFn iJ<|gj (gi 1)<|gj (gi 0)<|gv) (τ:=[.int 20,.ref W]) (S:=S) (uw (by dsimp[gV,bools]) j) j (λ_=>true) (λ_=>.bl true) (λ_ _=>rfl) (λx f _=>by
  obtain⟨i,hi,rfl⟩:=bR.mp f;dsimp[gV,bools,Q2 (h i hi).1 (h i hi).2])<|by rw[aH];omega
 rw[fD.mpr λ_ _=>rfl]at d;unfold nL tZ uf;dsimp[gV,bools,iR,Nat.reduceAdd,Nat.reduceSub,j,Option.map_some,show zP .lst "list" = some true from rfl,ck,aH,bE<|show ¬((200:Int)<(xs.length:Int))by omega,d,zA];exact⟨_,rfl,Kp.refl.lay⟩
end K88
namespace K88
open PySem L2 Am
theorem z0{s:Src}{g:Tg}{e:Ex}{T:ae->Prop}{cl:Str}(it:Nat->A)(p:Nat->Bool)(f:Nat->A)(J:∀i S,i<s.k->iX S1 S->s.get i S=some (it i))(L:∀S,iX S1 S->s.fin S=true)
  (step:∀i τ S,i<s.k->T τ->iX S1 S->∃τ1,g (it i) τ S=.ok τ1 S/\T τ1/\(p i=true->∃S',e τ1 S=.ok (f i) S'/\iX S S')/\(p i=false->∃S',e τ1 S=.ex cl S'/\iX S S')) :
  ∀k i τ S,k+i=s.k->T τ->iX S1 S->((List.range' i k).all p=true->∃S',jz s g kG e k i τ S=.ok ((List.range' i k).map f) S'/\iX S1 S')/\((List.range' i k).all p=false->∃S',jz s g kG e k i τ S=.ex cl S'/\iX S1 S')
 | 0,i,τ,S,hk,hT,hP=>⟨λ_=>⟨S,by unfold jz;rw[aR<|L S hP];rfl,hP⟩,λh=>by cases h⟩
 | k+1,i,τ,S,hk,hT,hP=>by
  obtain⟨τ1,hg,j,h1,F⟩:=step i τ S () hT hP;have e0:jz s g kG e (k+1) i τ S=(e τ1 S).bind λy C=>(jz s g kG e k (i+1) τ1 C).bind λys d=>.ok (y::ys) d:=by
   conv=>lhs;unfold jz
   rw[J i S () hP,gH,hg,R.jS];rfl
  rw[e0,dg,all_cons,bf]
  cases hp:p i with
  | false=>
   obtain⟨S',e1,k1⟩:=F hp;refine⟨λz=>(by cases z),λ_=>⟨S',by rw[e1];rfl,hP.trans k1⟩⟩
  | true=>
   obtain⟨S',e1,k1⟩:=h1 hp;obtain⟨r1,r2⟩:=z0 it p f J L step k (i+1) τ1 S' () j<|hP.trans k1;rw[Bool.true_and];refine⟨λz=>?_,λz=>?_⟩
   ·obtain⟨d,B,m⟩:=r1 z;exact⟨d,by rw[e1,R.iP,B];rfl,m⟩
   ·obtain⟨d,B,m⟩:=r2 z;exact⟨d,by rw[e1,R.iP,B];rfl,m⟩
def t9{n:Nat}{xs:ae}{src:Ic}{e:Ex}{cl:Str}(hs:src τ S=.ok (kB n xs.length) S1)(J:gn S1 n=some xs)(p:A->Bool)(f:A->A)
  (step:∀x∈xs,∀T,iX S1 T->(p x=true->∃T',e (x::jv cap τ) T=.ok (f x) T'/\iX T T')/\(p x=false->∃T',e (x::jv cap τ) T=.ex cl T'/\iX T T')) (L:xs.length<=16777216) :
  (xs.all p=true->∃S',nF (none::cap) src (iC 0) kG e τ S=.ok (.ref S'.length) (S'++[.lst<|xs.map f])/\iX S1 S')/\(xs.all p=false->∃S',nF (none::cap) src (iC 0) kG e τ S=.ex cl S'/\iX S1 S'):=by
 have m:∀i,i<xs.length->xs.getD i .unb∈xs:=λi hi=>by
  rw[aV,aL hi];exact dX hi
 obtain⟨r1,r2⟩:=z0 (s:=kB n xs.length) (g:=iC 0) (e:=e) (cl:=cl) (S1:=S1) (T:=λd=>∃y,d=y::jv cap τ) (λi=>xs.getD i .unb) (λi=>p<|xs.getD i .unb) (λi=>f<|xs.getD i .unb)
  (λi T hi k=>by
   have hi:i<xs.length:=hi;show(gn T n).bind _=_;rw[k.lst _ _ (λz=>z) J,cK,aV,aL hi];rfl)
  (λT k=>by
   show(match gn T n with
    | some ys=>decide (ys.length<=xs.length)
    | none=>false)=true
   rw[k.lst _ _ (λz=>z) J];exact bB<|aJ _)
  (λi d T hi ⟨y,hy⟩ k=>by
   subst hy;exact⟨xs.getD i .unb::jv cap τ,rfl,⟨_,rfl⟩,step _ (m i hi) T k⟩) xs.length 0 (jv (none::cap) τ) S1 rfl ⟨_,rfl⟩ Kp.refl
 have e0:nF (none::cap) src (iC 0) kG e τ S=gd (xs.length<=sizeLine) ((jz (kB n xs.length) (iC 0) kG e xs.length 0 (jv (none::cap) τ) S1).bind λys B=>.ok (.ref B.length)<|B++[.lst ys]):=by
  unfold nF;rw[hs,R.iP];rfl
 have F:(List.range' 0 xs.length).all (λi=>p<|xs.getD i .unb)=xs.all p:=by
  rw[<- c9];have:=jB xs (λ_=>true) id .unb;rw[Bool.eq_iff_iff,cE,cE];constructor
  ·intro h x j;obtain⟨i,hi,rfl⟩:=fj.1 j;have:=h i<|eE.2 hi;rw[aV,aL hi]at this;exact this
  ·intro h i hi;exact h _<|m i<|eE.1 hi
 have C:(List.range' 0 xs.length).map (λi=>f<|xs.getD i .unb)=xs.map f:=by
  rw[<- c9];refine List.ext_getElem (by simp) λi h1 G=>?_;have hi:i<xs.length:=by simpa using h1
  simp[aV,aL hi]
 rw[F]at r1 r2;rw[C]at r1;rw[e0,jo<|show xs.length<=sizeLine by rw[bH];exact L];refine⟨λz=>?_,λz=>?_⟩
 ·obtain⟨S',e1,k1⟩:=r1 z;exact⟨S',by rw[e1];rfl,k1⟩
 ·obtain⟨S',e1,k1⟩:=r2 z;exact⟨S',by rw[e1];rfl,k1⟩
def Gr{S:gr}{xs:am}(h:uW xs)(L:xs.length<=200)(J:xs≠[]):∃(W:Nat) (S':gr),iM [.str<|jH xs] S=.ok (.ref W) S'/\gn S' W=some (xs.map .int)/\S.length<=W/\iX S S':=by
 have sp:Txt.split (jH xs) ⟨#[32]⟩=xs.map Tx.tx:=Sp.vF ⋯ (by simpa using J) (λt g=>by
  obtain⟨x,d,rfl⟩:=bR.mp g;exact no_space<|h x d) (GR h J)
 have B:=Nj h L;have m:qN (.str<|jH xs) [.str<|PySem.Str.ofString " "] S=.ok (.ref S.length) (S++[.lst<|(xs.map Tx.tx).map .str]):=by
  rw[<- sp];exact ki ⟨rfl,by rw[bH];omega,by rw[show Txt.split (jH xs) (PySem.Str.ofString " ")=xs.map Tx.tx from sp,bH,aH];omega⟩
 have hs:j5 (CH qN (gi 0)<|gj (eC<|.str<|PySem.Str.ofString " ") gv) [.str<|jH xs] S=.ok (kB S.length ((xs.map Tx.tx).map A.str).length) (S++[.lst<|(xs.map Tx.tx).map .str]):=
  uw (by dsimp[gV,bools,tD,ki<|show A.isStr (.str<|jH xs)=true from rfl,m]) gK
 have k0:iX S (S++[O.lst<|(xs.map Tx.tx).map .str]):=Kp.refl.lay;obtain⟨r1,_⟩:=t9 (cl := "NoText") (cap:=[]) (e:=nZ jm<|gj (gi 0) gv) (τ:=[.str<|jH xs]) hs gK (λ_=>true) (λy=>match y with
  | .str t=>.int ((PySem.intText? t).getD 0)
  | _=>.non) (λy hy T k=>by
  obtain⟨t,g,rfl⟩:=bR.1 hy;obtain⟨x,d,rfl⟩:=bR.1 g;have j:=h x d;obtain⟨p,e,f⟩:=OW (S:=T) j;refine⟨λ_=>⟨p,?_,f⟩,λz=>(by cases z)⟩;have:(PySem.intText?<|Tx.tx x)=some x:=eW (by omega) (by omega);dsimp[gV,mS,bools,e,this,cS])<|by rw[aH,aH];omega
 obtain⟨S',e,k⟩:=r1 (by rw[cE];intro _ _;rfl);have mp:((xs.map Tx.tx).map A.str).map (λy=>match y with
  | .str t=>A.int ((PySem.intText? t).getD 0)
  | _=>.non)=xs.map .int:=by
  rw[cM,cM];refine List.map_congr_left λx d=>?_;have j:=h x d;have:(PySem.intText?<|Tx.tx x)=some x:=eW (by omega) (by omega);show A.int ((PySem.intText?<|Tx.tx x).getD 0)=_;rw[this];rfl
 rw[mp]at e;have f:=k0.trans k;unfold iM lZ lE;exact⟨S'.length,S'++[O.lst<|xs.map .int],by dsimp[gV,mS,bools,iR,Nat.reduceAdd,Nat.reduceSub,e],gK,f.len,f.lay⟩
def yw{xs:am}{n:Nat}(j:xs.Perm<|iV 1<|(n:Int)+1)(J:n<=20):uW xs:=λx d=>by have:=Hu.mp<|j.mem_iff.mp d;omega
def l7{xs:am}{n:Nat}(j:xs.Perm<|iV 1<|(n:Int)+1)(h1:1<=n):xs.length=n/\xs≠[]:=by
 have d:xs.length=n:=by rw[j.length_eq,kI];omega
 exact⟨d,λz=>by rw[z]at d;simp at d;omega⟩
def OP{xs:am}{n:Nat}(J:xs.Perm<|iV 1<|(n:Int)+1)(h1:1<=n)(L:n<=20):∃S',iT [.str<|jH xs] S=.ok (.tup<|xs.map .int) S'/\iX S S':=by
 obtain⟨f,ne⟩:=l7 J h1;obtain⟨W,S1,e1,d,j,k1⟩:=Gr (S:=S) (yw J L) (by omega) ne;obtain⟨g,e2,k2⟩:=Rq (S:=S1) J h1 L;unfold iT oh n9;dsimp[gV,mS,bools,iR,Nat.reduceAdd,Nat.reduceSub,e1,d,e2,ck];exact⟨_,rfl,k1.trans k2⟩
def PV{S:gr}{xs:am}(h:∀x∈xs,1<=x/\x<20)(J:xs.length<=200):∃(W:Nat) (S':gr),jW [.str<|if xs=[]then Str.ofString "-" else jH xs] S=.ok (.ref W) S'/\gn S' W=some (xs.map .int)/\S.length<=W/\iX S S':=by
 have m:uW xs:=λx g=>by have:=h x g;omega
 unfold jW pV pX;by_cases c:xs=[]
 ·subst c;have q:m_ false (.str<|Str.ofString "-") (.str<|PySem.Str.ofString "-") S=.ok (.bl true) S:=rfl;obtain⟨k,e2,k2⟩:=UI (S:=S++[.lst []]) (W:=S.length) (xs:=[]) gK h J;rw[aR rfl];dsimp[gV,mS,bools,iR,Nat.reduceAdd,Nat.reduceSub,q,e2,ck];have k0:iX S (S++[.lst []]):=Kp.refl.lay;exact⟨_,_,rfl,k2.lst _ _ (λz=>z) gK,aJ _,k0.trans k2⟩
 ·rw[aO c];have q:m_ false (.str<|jH xs) (.str<|PySem.Str.ofString "-") S=.ok (.bl false) S:=by
   have:xG S 12 (.str<|jH xs) (.str<|PySem.Str.ofString "-")=some false:=by
    show some (jH xs == PySem.Str.ofString "-")=_;congr 1;rw[bN];intro z
    cases xs with
    | nil=>exact c rfl
    | cons x xs=>
     have e:=Sp.kr 32 (Tx.tx x)<|xs.map Tx.tx;rw[show Str.join ⟨#[32]⟩ (Tx.tx x::xs.map Tx.tx)=PySem.Str.ofString "-" from z]at e;have g:=x_<|m x<|aZ ..;have f:=g.2.1;rw[Sp.size_eq]at f
     cases e2:(Tx.tx x).cps.toList with
     | nil=>rw[e2]at f;simp at f
     | cons d ds=>
      rw[e2]at e;have e3:(45:Nat)::[]=d::(ds++_):=e;have:d=45:=(List.cons.inj e3).1.symm;have:=cE.mp g.1 d (by rw[e2];exact aZ ..);simp at this;omega
   rw[vQ this]
  obtain⟨W,k,e2,j,p,k2⟩:=Gr (S:=S) m J c;obtain⟨B,e3,k3⟩:=UI (S:=k) j h J;dsimp[gV,mS,bools,iR,Nat.reduceAdd,Nat.reduceSub,q,e2,e3,ck];exact⟨_,_,rfl,k3.lst _ _ (λz=>z) j,p,k2.trans k3⟩
end K88
namespace K88
open PySem L2 Am
def KY{s:Src}{xs:ae}{src:Ic}{t:Te}{e:Ex}(hs:src τ S=.ok s S1)(L:s.k=xs.length)(b:Nat->Prop)(hg:∀T,Kp b S1 T->∀i:Nat,i<xs.length->s.get i T=xs[i]?)(J:∀T,Kp b S1 T->s.fin T=true)(p:A->Bool)(f:A->A)
  (step:∀x∈xs,∀T,Kp b S1 T->∃T1,t (x::jv cap τ) T=.ok (p x) T1/\Kp b T T1/\(p x=true->∃T2,e (x::jv cap τ) T1=.ok (f x) T2/\Kp b T1 T2)) (U:xs.length<=16777216) :
  ∃S',jX (none::cap) src (iC 0) t e τ S=.ok (.ref S'.length) (S'++[.lst<|(xs.filter p).map f])/\Kp b S1 S':=by
 have j:∀i,i<xs.length->xs.getD i .unb∈xs:=λi hi=>by
  rw[aV,aL hi];exact dX hi
 obtain⟨S',h1,m⟩:=vc (s:=s) (g:=iC 0) (t:=t) (e:=e) (P:=λT=>Kp b S1 T) (T:=λd=>∃y,d=y::jv cap τ) (λi=>xs.getD i .unb) (λi=>p<|xs.getD i .unb) (λi=>f<|xs.getD i .unb) (λi T hi h=>by
   rw[L]at hi;rw[hg T h i hi,aV,aL hi];rfl) J
  (λi d T hi hy h=>by
   obtain⟨y,rfl⟩:=hy;rw[L]at hi;obtain⟨T1,e1,k1,q⟩:=step _ (j i hi) T h;refine⟨xs.getD i .unb::jv cap τ,T,T1,rfl,e1,⟨_,rfl⟩,λ_=>h.trans k1,λhp=>?_⟩;obtain⟨T2,e2,k2⟩:=q hp;exact⟨T2,e2,(h.trans k1).trans k2⟩) s.k 0 (jv (none::cap) τ) S1 rfl ⟨_,rfl⟩ Kp.refl
 refine⟨S',?_,m⟩;unfold jX;rw[hs,R.iP,h1,R.jS,L,<- c9,jB xs p f .unb];refine jC ?_;rw[aH];exact bI (eV _ _) U
def Mc{n:Nat}{xs:ae}{src:Ic}{t:Te}{e:Ex}(hs:src τ S=.ok (kB n xs.length) S1)(j:gn S1 n=some xs)(p:A->Bool)(f:A->A)
  (step:∀x∈xs,∀T,iX S1 T->∃T1,t (x::jv cap τ) T=.ok (p x) T1/\iX T T1/\(p x=true->∃T2,e (x::jv cap τ) T1=.ok (f x) T2/\iX T1 T2)) (J:xs.length<=16777216) :
  ∃S',jX (none::cap) src (iC 0) t e τ S=.ok (.ref S'.length) (S'++[.lst<|(xs.filter p).map f])/\iX S1 S':=
 KY hs rfl _ (λT k i _=>by show(gn T n).bind _=_;rw[k.lst _ _ (λz=>z) j];rfl) (λT k=>by
  show(match gn T n with
   | some ys=>decide (ys.length<=xs.length)
   | none=>false)=true
  rw[k.lst _ _ (λz=>z) j];exact bB<|aJ _) p f step J
meta abbrev C (x:Str):ar:=x.cps.toList
abbrev mV (x:Str):Prop:=1<=x.length/\x.length<=8/\∀c∈C x,97<=c/\c<=122
def lets:∀c:Nat,c<123->97<=c->(Builtin.Str.occurrences (Str.ofString "abcdefghijklmnopqrstuvwxyz") ⟨#[c]⟩ 0 (Str.ofString "abcdefghijklmnopqrstuvwxyz").length 1).isEmpty=false:=by decide +kernel
def Cp{x:Str}(h:mV x):∃S',kg [.str x] S=.ok (.bl true) S'/\iX S S':=by
 obtain⟨h1,p,f⟩:=h;have d:x.cps.all (· < 128)=true:=by
  rw[<- all_toList,cE];intro c hc;have:=f c hc;exact bB<|by omega
 have k:jf (.str x) S=.ok (.int x.length) S:=jo (by rw[bH];omega);have g:Il FH FH (eC<|.int 1) (gP (f1 jf)<|gj (gi 0) gv) (eC<|.int 8) [.str x] S=.ok (.bl true) S:=by
  rw[Pf (a:=.int 1) (b:=.int x.length) (c:=.int 8) rfl (by dsimp[gV,bools,k]) (by dsimp[gV,bB<|show(1:Int)<=(x.length:Int)by omega]) rfl];dsimp[gV,bB<|show(x.length:Int)<=8 by omega]
 have m:=pC (cap:=[]) (src:=j5<|gi 0) (e:=gB BQ (gi 0)<|eC<|.str<|PySem.Str.ofString "abcdefghijklmnopqrstuvwxyz") (τ:=[.str x]) (S:=S) (S1:=S) (xs:=x.cps.toList.map λc=>A.str ⟨#[c]⟩) (Gm (by dsimp[gV,bools]) d) (λ_=>.bl true) (λy hy=>by
  obtain⟨c,hc,rfl⟩:=bR.mp hy;have:=f c hc;have e:BQ (.str ⟨#[c]⟩) (.str<|PySem.Str.ofString "abcdefghijklmnopqrstuvwxyz") S=.ok (.bl true) S:=by
   show R.ok (A.bl<|!(Builtin.Str.occurrences (Str.ofString "abcdefghijklmnopqrstuvwxyz") ⟨#[c]⟩ 0 (Str.ofString "abcdefghijklmnopqrstuvwxyz").length 1).isEmpty) S=_;rw[lets c (by omega)<|by omega];rfl
  dsimp[gV,bools,e])<|by rw[aH,cA];show x.length<=_;omega
 have j:uS (.ref S.length) (S++[O.lst<|(x.cps.toList.map λc=>A.str ⟨#[c]⟩).map λ_=>A.bl true])=.ok (.bl true) (S++[O.lst<|(x.cps.toList.map λc=>A.str ⟨#[c]⟩).map λ_=>A.bl true]):=by
  rw[BS gK<|Dj _,Di]
 unfold kg t7 s_;dsimp[gV,bools,iR,Nat.reduceAdd,Nat.reduceSub,g,m,j];exact⟨_,rfl,Kp.refl.lay⟩
theorem zB{x:Str}:∀(ys:ba),Ro S (.str x) (ys.map .str)=some (ys.any λy=>y == x)
 | []=>rfl
 | y::ys=>by
  show(some<|y == x).bind _=_;rw[cK,zB ys];rfl
def CI{x:Str}{ys:ba}(h:gn S W=some (ys.map .str)):Oz false (.str x) (.ref W) S=.ok (.bl<|ys.any λy=>y == x) S:=by
 show opt (gn S W) _=_;rw[h,gH,zB];rfl
def CV{x:Str}{ys:ba}:Oz false (.str x) (.ktu<|ys.map .str) S=.ok (.bl<|ys.any λy=>y == x) S:=by
 show opt (Ro S (.str x)<|ys.map .str) _=_;rw[zB];rfl
abbrev A2 (ws:ba):Prop:=∀w∈ws,1<=w.length/\w.length<=100/\32∉C w
def G5{ws:ba}(h:A2 ws):(ws.any λy=>y == (Str.ofString ""))=false:=by
 rw[Bool.eq_false_iff];intro z;obtain⟨w,hw,e⟩:=List.any_eq_true.mp z;rw[Tx.LF]at e;have:=(h w hw).1;have:w.length=0:=by simpa using e
 omega
def QY{x:A}:lH (x::xs) 0=some x:=Hr
def QT{x:A}:lH (x::y::xs) 1=some y:=Hz
def JH{x:Str}(J:gn S W=some ((kw::x::t::ts).map .str))(L:kw = "keep" \/ kw = "lead")(U:mV x)(hw:A2 (kw::x::t::ts)):∃S',ju [.ref W] S=.ok (.bl true) S'/\iX S S':=by
 obtain⟨F,e2,k2⟩:=Cp (S:=S) U;have hn:ji iw kw=some 1:=by rcases L with rfl|rfl<;>decide +kernel
 have d:(["keep", "lead"]:ba).any (λy=>y == kw)=true:=by rcases L with rfl|rfl<;>decide +kernel
 have C:Gf iw true (.str kw) S=.ok (.bl false) S:=by show R.ok (A.bl<|!(ji iw kw).isSome) S=_;rw[hn];rfl
 have m:Lq iw (.str kw) S=.ok (.int 1) S:=by show opt (ji iw kw) _=_;rw[hn];rfl
 have k:jq (.ref W) (.int 0) S=.ok (.str kw) S:=by show opt (gn S W) _=_;rw[J,gH,bf,QY];rfl
 have B:jq (.ref W) (.int 1) S=.ok (.str x) S:=by show opt (gn S W) _=_;rw[J,gH,bf,bf,QT];rfl
 have p:jf (.ref W) S=.ok (.int<|(ts.length:Int)+3) S:=by show opt (gn S W) _=_;rw[J,gH];simp;omega
 have f:=CI (x:=Str.ofString "") J;rw[G5 hw]at f;have g:Oz false (.str kw) (.ktu<|(["keep", "lead"]:ba).map .str) S=.ok (.bl true) S:=by rw[CV,d]
 have j:Bg (.int<|(ts.length:Int)+3) (.int<|1+1) S=.ok (.bl true) S:=by dsimp[gV,bB<|show(1+1:Int)<(ts.length:Int)+3 by omega]
 unfold ju oq ow;dsimp[gV,bools,iR,Nat.reduceAdd,Nat.reduceSub,k,C,f,m,g,p,j,B,e2];exact⟨_,rfl,k2⟩
def zw{xs:ba}(U:gn S W=some ((kw::xs).map .str))(hn:ji iw kw=some (xs.length:Int))(Z:(["keep", "lead"]:ba).any (λy=>y == kw)=false)(hx:∀x∈xs,mV x)(hl:xs.length<=2)(hw:A2 (kw::xs)):∃S',ju [.ref W] S=.ok (.bl true) S'/\iX S S':=by
 have F:Gf iw true (.str kw) S=.ok (.bl false) S:=by show R.ok (A.bl<|!(ji iw kw).isSome) S=_;rw[hn];rfl
 have K:Lq iw (.str kw) S=.ok (.int xs.length) S:=by show opt (ji iw kw) _=_;rw[hn];rfl
 have p:jq (.ref W) (.int 0) S=.ok (.str kw) S:=by show opt (gn S W) _=_;rw[U,gH,bf,QY];rfl
 have B:jf (.ref W) S=.ok (.int<|(xs.length:Int)+1) S:=by show opt (gn S W) _=_;rw[U,gH];simp
 have j:=CI (x:=Str.ofString "") U;rw[G5 hw]at j;have G:Oz false (.str kw) (.ktu<|(["keep", "lead"]:ba).map .str) S=.ok (.bl false) S:=by rw[CV,Z]
 have cut:mQ ((kw::xs).map A.str) (some 1) none=xs.map .str:=by
  have:=qo ((kw::xs).map A.str) 0 (by simp);rw[show((0:Nat):Int)+1=1 from rfl]at this;rw[this];rfl
 obtain⟨T,d⟩:∃T,T=S++[O.lst<|xs.map A.str]:=⟨_,rfl⟩;have J:iX S T:=by rw[d];exact Kp.refl.lay
 have hs:j5 (zE (gi 0) (j7<|eC<|.int 1) j6) [.ref W,.int<|(xs.length:Int)+1] S=.ok (kB S.length (xs.map A.str).length) T:=by
  refine uw ?_ (by rw[d];exact gK);dsimp[gV,bools,U,cut];rw[d]
 obtain⟨f,e2,k2⟩:=Mc (cap:=[]) (t:=kG) (e:=eFn kg<|gj (gi 0) gv) hs (by rw[d];exact gK) (λ_=>true) (λ_=>A.bl true) (λy hy m k=>by
  obtain⟨x,g,rfl⟩:=bR.1 hy;obtain⟨T2,e,k2⟩:=Cp (S:=m)<|hx x g;exact⟨m,rfl,Kp.refl,λ_=>⟨T2,by dsimp[gV,bools,e],k2⟩⟩)<|by rw[aH];omega
 rw[fD.mpr λ_ _=>rfl]at e2;have L:uS (.ref f.length) (f++[O.lst<|(xs.map A.str).map λ_=>A.bl true])=.ok (.bl true) (f++[O.lst<|(xs.map A.str).map λ_=>A.bl true]):=zA;have C:m_ false (.int<|(xs.length:Int)+1) (.int<|(xs.length:Int)+1) S=.ok (.bl true) S:=by
  have:xG S 12 (.int<|(xs.length:Int)+1) (.int<|(xs.length:Int)+1)=some true:=by
   show some (((xs.length:Int)+1) == ((xs.length:Int)+1))=_;rw[bG]
  rw[vQ this]
 unfold ju oq ow;dsimp[gV,bools,iR,Nat.reduceAdd,Nat.reduceSub,p,F,j,K,G,B,C,e2,L];exact⟨_,rfl,(J.trans k2).lay⟩
end K88
namespace K88
open PySem L2 Am
abbrev tI (xs:am):A:=.tup<|xs.map .int
abbrev tO:Option (am)->A
 | some xs=>tI xs
 | none=>.non
meta abbrev Hi:=List<|Str×Option (am)
abbrev kW (q:Str×Option (am)):A:=.tup [.str q.1,tO q.2]
abbrev nK (f:Str->Option (am))(k:Str)(v:Option<|am):Str->Option (am):=λj=>if j=k then v else f j
theorem yv:∀{kvs:List<|Str×A}{k:Str},(gT kvs k).isSome=true ↔ k∈kvs.map (·.1)
 | [],k=>by simp[gT]
 | p::r,k=>by
  by_cases c:p.1=k
  ·rw[i7 c];simp[c]
  ·rw[jn c,yv];simp[bM c]
theorem xZ:∀{kvs:List<|Str×A}{k j:Str}{v:A},gT (kvs++[(k,v)]) j=if (gT kvs j).isSome=true then gT kvs j else if k=j then some v else none
 | [],k,j,v=>by
  by_cases c:k=j
  ·rw[aO<|by simp[gT],aR c];exact i7 (r:=[]) c
  ·rw[aO<|by simp[gT],aO c];exact jn (r:=[]) c
 | p::r,k,j,v=>by
  by_cases c:p.1=j
  ·rw[fS,i7 c,i7 c];rfl
  ·rw[fS,jn c,jn c];exact xZ
theorem yb:∀{kvs:List<|Str×A}{k j:Str}{v:A},gT (kvs.map λkv=>if kv.1=k then(kv.1,v)else kv) j=if k=j/\(gT kvs j).isSome=true then some v else gT kvs j
 | [],k,j,v=>by rw[aO<|by simp[gT]];rfl
 | p::r,k,j,v=>by
  rw[bf];by_cases c:p.1=j
  ·by_cases d:p.1=k
   ·rw[aR d,i7 (p:=(p.1,v)) c,i7 c,aR ⟨d.symm.trans c,rfl⟩]
   ·rw[aO d,i7 c,i7 c,aO λz=>d<|c.trans z.1.symm]
  ·have:¬(if p.1=k then(p.1,v)else p).1=j:=by split<;>exact c
   rw[jn this,jn c];exact yb
def yi{k:Str}{v:A}:gT (lI kvs k v) j=if j=k then some v else gT kvs j:=by
 unfold lI;by_cases c:(gT kvs k).isSome=true
 ·rw[aR c,yb];by_cases d:j=k
  ·subst d;rw[aR ⟨rfl,c⟩,aR rfl]
  ·rw[aO λz=>d z.1.symm,aO d]
 ·rw[aO c,xZ];by_cases d:j=k
  ·subst d;rw[aO c,aR rfl,aR rfl]
  ·rw[aO d,aO<|bM d];by_cases e:(gT kvs j).isSome=true
   ·rw[aR e]
   ·rw[aO e]
    cases h:gT kvs j with
    | none=>rfl
    | some _=>rw[h]at e;exact absurd rfl e
theorem wc:∀{kvs:List<|Str×A}{k j:Str},gT (j8 kvs k) j=if j=k then none else gT kvs j
 | [],k,j=>by
  by_cases d:j=k
  ·rw[aR d];rfl
  ·rw[aO d];rfl
 | p::r,k,j=>by
  have f:=wc (kvs:=r) (k:=k) (j:=j);unfold j8 at f ⊢;by_cases c:p.1=k
  ·rw[cG<|by simp[c],f];by_cases d:j=k
   ·rw[aR d,aR d]
   ·rw[aO d,aO d,jn λz=>d<|z.symm.trans c]
  ·rw[cN<|by simp[c]];by_cases e:p.1=j
   ·rw[i7 e,i7 e,aO λz=>c<|e.trans z]
   ·rw[jn e,jn e,f]
structure Rp (nm:ba)(kvs:List (Str×A))(f:Str->Option (am)):Prop where
 nd:(kvs.map (·.1)).Nodup
 sub:∀k∈kvs.map (·.1),k∈nm
 at_:∀k,gT kvs k=(f k).map tI
def Rp.Qy{nm:ba}{f:Str->Option (am)}(r:Rp nm kvs f)(k:Str):(gT kvs k).isSome=(f k).isSome:=by rw[r.at_,eN]
def Rp.nil{nm:ba}:Rp nm [] λ_=>none:=⟨List.nodup_nil,λk h=>(by cases h),λk=>rfl⟩
def A0{kvs:List<|Str×A}{k:Str}{v:A}:(lI kvs k v).map (·.1)=if (gT kvs k).isSome=true then kvs.map (·.1)else kvs.map (·.1)++[k]:=by
 unfold lI;by_cases c:(gT kvs k).isSome=true
 ·rw[aR c,aR c,cM];refine List.map_congr_left λp _=>?_;show(if p.1=k then(p.1,v)else p).1=p.1;split<;>rfl
 ·rw[aO c,aO c,bZ];rfl
def Rp.put{nm:ba}{f:Str->Option (am)}(r:Rp nm kvs f){k:Str}(J:k∈nm)(xs:am):Rp nm (lI kvs k<|tI xs) (nK f k<|some xs):=by
 refine⟨?_,?_,λj=>?_⟩
 ·rw[A0];by_cases c:(gT kvs k).isSome=true
  ·rw[aR c];exact r.nd
  ·rw[aO c,dI];refine⟨r.nd,by simp,λa p b m e=>?_⟩;have:b=k:=by simpa using m
   exact c<|yv.mpr<|by rw[<- this,<- e];exact p
 ·rw[A0];intro j g;by_cases c:(gT kvs k).isSome=true
  ·rw[aR c]at g;exact r.sub j g
  ·rw[aO c]at g
   rcases bO.mp g with z|z
   ·exact r.sub j z
   ·have:j=k:=by simpa using z
    rw[this];exact J
 ·rw[yi];unfold nK;by_cases d:j=k
  ·rw[aR d,aR d];rfl
  ·rw[aO d,aO d];exact r.at_ j
def Rp.drop{nm:ba}{f:Str->Option (am)}(r:Rp nm kvs f)(k:Str):Rp nm (j8 kvs k) (nK f k none):=by
 have g:((j8 kvs k).map (·.1)).Sublist (kvs.map (·.1)):=List.Sublist.map _ List.filter_sublist;refine⟨r.nd.sublist g,λj m=>r.sub j<|g.subset m,λj=>?_⟩;rw[wc];unfold nK;by_cases d:j=k
 ·rw[aR d,aR d];rfl
 ·rw[aO d,aO d];exact r.at_ j
theorem len_sub:∀{l m:ba},l.Nodup->(∀x∈l,x∈m)->l.length<=m.length
 | [],_,_,_=>er _
 | a::l,m,h,s=>by
  obtain⟨h1,j⟩:=d_.mp h;have f:=s a<|aZ ..;have g:=len_sub (l:=l) (m:=m.erase a) j λx d=>(List.mem_erase_of_ne λz=>h1<|by rw[<- z];exact d).mpr<|s x<|aW _ d;rw[List.length_erase_of_mem f]at g;have:=List.length_pos_of_mem f;rw[bq];omega
def Rp.len{nm:ba}{kvs:List<|Str×A}{f:Str->Option (am)}(r:Rp nm kvs f):kvs.length<=nm.length:=by
 have:=len_sub r.nd r.sub
 rwa [aH]at this
def Gj{f:Str->Option (am)}{k:Str}{v:Option<|am}(h:f k=v):nK f k v=f:=by
 funext j
 unfold nK;by_cases d:j=k
 ·rw[aR d,d,h]
 ·rw[aO d]
def KP{f:Str->Option (am)}{k:Str}{v w:Option<|am}:nK (nK f k v) k w=nK f k w:=by
 funext j
 unfold nK;by_cases d:j=k
 ·rw[aR d,aR d]
 ·rw[aO d,aO d,aO d]
structure Dk (S:gr)(d o p:Nat)(nm:ba)(f:Str->Option (am))(past:Hi):Prop where
 ob:S[d]?=some (.obj "Desk" [("orders",.ref o),("past",.ref p)])
 od:∃kvs,iI S o=some kvs/\Rp nm kvs f
 ps:gn S p=some (past.map kW)
def Dk.ne{d o p:Nat}{nm:ba}{f:Str->Option (am)}{past:Hi}(D:Dk S d o p nm f past):d≠o/\d≠p/\o≠p:=by
 obtain⟨a,⟨kvs,b,_⟩,c⟩:=D;have b:=g7 b;have c:=gF c;refine⟨λz=>?_,λz=>?_,λz=>?_⟩
 ·rw[z,b]at a;cases a
 ·rw[z,c]at a;cases a
 ·rw[z,c]at b;cases b
def Kp.ds{b:Nat->Prop}(h:Kp b S S')(n:Nat)(xs:List<|Str×A)(hb:¬b n)(e:iI S n=some xs):iI S' n=some xs:=ly<|h.obj n _ hb<|g7 e
def Dk.kp{d o p:Nat}{nm:ba}{f:Str->Option (am)}{past:Hi}{c:Nat->Prop}(D:Dk S d o p nm f past)(k:Kp c S S')(h1:¬c d)(j:¬c o)(J:¬c p):Dk S' d o p nm f past:=by
 obtain⟨a,⟨kvs,b,r⟩,e⟩:=D;exact⟨k.obj d _ h1 a,⟨kvs,Kp.ds k o _ j b,r⟩,k.lst p _ J e⟩
def u_{S:gr}{n:Nat}{f:Str}{fs:List<|Str×A}{a:A}(h:S[n]?=some (.obj cn fs))(j:fs.lookup f=some a):yV cn f (.ref n) S=.ok a S:=by
 show opt (vH S n) _=_;rw[zk h,gH,ki rfl,j,gH]
def jD{f:Str}{c:Ex}:lB cn f c τ S=(c τ S).bind λo S1=>yV cn f o S1:=rfl
def GK{S:gr}{n:Nat}{f:Str}{fs:List<|Str×A}(h:S[n]?=some (.obj cn fs))(j:fs.length<1000):A8 cn f (.ref n) y S=.ok Unit.unit (S.set n<|.obj cn<|zv f y fs):=by
 show opt (vH S n) _=_;rw[zk h,gH,ki ⟨rfl,j⟩]
def yR{f:Str}{co j:Ex}{S1:gr}{n:Nat}{fs:List<|Str×A}(h1:j τ S=.ok y S1)(J:co τ S1=.ok (.ref n) S1)(h:S1[n]?=some (.obj cn fs))(L:fs.length<1000):Am.wY cn f co j τ S=.nx τ (S1.set n<|.obj cn<|zv f y fs):=by
 unfold Am.wY;rw[h1];show RS.of (co τ S1) _=_;rw[J];show RS.of (A8 cn f (.ref n) y S1) _=_;rw[GK h L];rfl
def P5{m:Str}{F:ae->gr->R A}{co:Ex}{d:lq}{n:Nat}{fs:List<|Str×A}(h1:co τ S=.ok (.ref n) S1)(h:S1[n]?=some (.obj cn fs))(j:fs.lookup m=none):jj cn m F co d τ S=(d τ S1).bind λas S2=>F (.ref n::as) S2:=by
 unfold jj;rw[h1,R.iP];show opt (vH S1 n) _=_;rw[zk h,gH,ki ⟨rfl,j⟩]
def Vi{m:Str}{a:A}(h:m ≠ "orders")(h':m ≠ "past"):([("orders",a),("past",b)]:List<|Str×A).lookup m=none:=by
 rw[cj,cj,show(m == ("orders" : Str))=false from bN.mpr h,show(m == ("past" : Str))=false from bN.mpr h'];rfl
def dm{m:Str}{F:ae->gr->R A}{co:Ex}{e:lq}{d o p:Nat}{nm:ba}{f:Str->Option (am)}{past:Hi}(D:Dk S d o p nm f past)(h1:co τ S=.ok (.ref d) S)(h:m ≠ "orders"<|>δ)(h':m ≠ "past"<|>δ):jj "Desk" m F co e τ S=(e τ S).bind λas S2=>F (.ref d::as) S2:=P5 h1 D.ob<|Vi h h'
def Bu{f:A->ae->gr->R A}{co:Ex}{d:lq}{n:Nat}(h1:co τ S=.ok (.ref n) S)(h:iI S n=some kvs):xD f co d τ S=(d τ S).bind λas S2=>f (.ref n) as S2:=by
 unfold xD;rw[h1,R.iP];show opt ((iI S n).map λ_=>Unit.unit) _=_;rw[h];rfl
def LQ{n:Nat}{k:Str}(h:iI S n=some kvs):zd (.ref n) [.str k] S=.ok ((gT kvs k).getD .non) S:=by
 show opt (iI S n) _=_;rw[h];rfl
def vB{n:Nat}{k:Str}(h:iI S n=some kvs):vL b (.str k) (.ref n) S=.ok (.bl<|if b then !(gT kvs k).isSome else(gT kvs k).isSome) S:=by
 show opt (iI S n) _=_;rw[h];rfl
def K5{n:Nat}{kvs:List<|Str×A}(h:iI S n=some kvs):EC (.ref n) S=.ok (.int kvs.length) S:=by
 show opt (iI S n) _=_;rw[h];rfl
def yS{n:Nat}{k:Str}{v:A}(h:iI S n=some kvs)(hv:gT kvs k=some v):sf (.ref n) (.str k) S=.ok v S:=by
 show opt (iI S n) _=_;rw[h,gH,hv];rfl
def vg{S:gr}{n:Nat}{k:Str}{kvs:List<|Str×A}{v:A}(h:iI S n=some kvs)(j:kvs.length<16777216):qw (.ref n) (.str k) v S=.ok Unit.unit (S.set n<|.jE<|lI kvs k v):=by
 show opt (iI S n) _=_;rw[h,gH,ki<|by rw[bH];exact j]
def vm{co j:Ex}{a:A}:EV co j a τ S=(co τ S).bind λo S1=>(j τ S1).bind λi S2=>(qw o i a S2).bind λ_ S3=>.ok τ S3:=rfl
def DN{S:gr}{n:Nat}{k:Str}(h:iI S n=some kvs)(j:(gT kvs k).isSome=true):HW (.ref n) (.str k) S=.ok Unit.unit (S.set n<|.jE<|j8 kvs k):=by
 show opt (iI S n) _=_;rw[h,gH,ki j]
def zX{co j:Ex}:xX co j τ S=.of (co τ S) λx S1=>.of (j τ S1) λy S2=>.of (HW x y S2) λ_ S3=>.nx τ S3:=rfl
def BV{x:Str}{c:Ex}:yY x c τ S=.of (c τ S) λ_ S1=>.ex x S1:=rfl
def Jd{ps:List<|Str ⊕ Ex}:Qp ps τ S=(Qm ps Str.empty τ S).bind λx S'=>.ok (.str x) S':=rfl
def t6{S:gr}{n:Nat}(h:n<S.length):iI (S.set n<|.jE kvs) n=some kvs:=ly<|by rw[bu h]
end K88
namespace K88
open PySem L2 Am
section
variable {S:gr}{d o p:Nat}{nm:ba}{f:Str->Option (am)}{past:Hi}{x:Str}
def g2{α:Type}{r:R α}:gd (2<=sizeLine) r=r:=ki ⋯
def kH{S:gr}{n m:Nat}(h:n≠m):gn (S.set m u) n=gn S n:=by
 unfold gn;rw[aT<|bM h]
def fO{o p:Nat}:([("orders",.ref o),("past",.ref p)]:List<|Str×A).lookup ("orders" : Str)=some (.ref o):=rfl
def fP{o p:Nat}:([("orders",.ref o),("past",.ref p)]:List<|Str×A).lookup ("past" : Str)=some (.ref p):=rfl
def Dk.fo(D:Dk S d o p nm f past):yV "Desk" "orders" (.ref d) S=.ok (.ref o) S:=u_ D.ob fO
def Dk.fp(D:Dk S d o p nm f past):yV "Desk" "past" (.ref d) S=.ok (.ref p) S:=u_ D.ob fP
def wN(D:Dk S d o p nm f past)(j:f x=some xs):gQ [.ref d,.str x] S=.ok (tI xs) S:=by
 obtain⟨kvs,g,r⟩:=D.od;have e:gT kvs x=some (tI xs):=by rw[r.at_,j];rfl
 have i:=vB (b:=true) (k:=x) g;rw[e]at i;unfold gQ k_ lu;dsimp[gV,mS,bools,iR,Nat.reduceAdd,Nat.reduceSub,jD,D.fo,i,dH,eg,ck,yS g e]
def GB(j:x.length<=100):Qp [.inl "nothing is kept by ",.inr<|gi 1] (.ref d::.str x::τ) S=.ok (.str<|Str.empty++Str.ofString "nothing is kept by " ++ x) S:=by
 rw[Jd];show R.bind (gd ((Str.ofString "nothing is kept by ").length<=1000) _) _=_;rw[ki<|show(Str.ofString "nothing is kept by ").length<=1000 by decide +kernel];show R.bind (R.bind (gi 1 (.ref d::.str x::τ) S) _) _=_;rw[show gi 1 (.ref d::.str x::τ) S=.ok (.str x) S from rfl,R.iP];show R.bind (gd (x.length<=1000) _) _=_;rw[ki<|show x.length<=1000 by omega];rfl
def HD(D:Dk S d o p nm f past)(j:f x=none)(J:x.length<=100):gQ [.ref d,.str x] S=.ex "NoName" S:=by
 obtain⟨kvs,g,r⟩:=D.od;have e:gT kvs x=none:=by rw[r.at_,j];rfl
 have i:=vB (b:=true) (k:=x) g;rw[e]at i;unfold gQ k_ lu;dsimp[gV,mS,bools,iR,Nat.reduceAdd,Nat.reduceSub,jD,D.fo,i,dH,isSome_none,gf,BV,GB J]
def Sa(xs:ae):mQ xs (some<|-20) none=xs.drop (xs.length-20):=by
 have e0:HT.jY xs.length 0 (some<|-20)=xs.length-20:=by
  show(if (-20:Int)<0 then((-20:Int)+(xs.length:Int)).toNat else min (-20:Int).toNat xs.length)=_;rw[aR ⋯];omega
 unfold mQ;rw[e0,cQ<|by rw[dS];show _<=xs.length-_;omega]
abbrev rem (past:Hi)(x:Str)(v:Option<|am):Hi:=(past++[(x,v)]).drop<|past.length+1-20
def tQ(h:past.length<=19){v:Option<|am}:rem past x v=past++[(x,v)]:=by
 unfold rem;rw[show past.length+1-20=0 by omega];rfl
def Mt(k:Str)(r:Rp nm kvs f):(gT kvs k).getD .non=tO (f k):=by
 rw[r.at_]
 cases f k<;>rfl
def uE(D:Dk S d o p nm f past)(hp:past.length<=20):∃S',ig [.ref d,.str x] S=.ok .non S'/\Dk S' d o S.length nm f (rem past x<|f x)/\Kp (λn=>n=d\/n=p) S S':=by
 obtain⟨F,N,K⟩:=D.ne;obtain⟨kvs,k,r⟩:=D.od;have P:=iA D.ps;have T:=kj D.ob;have lo:=kj<|g7 k;have e1:xD zd (lB "Desk" "orders"<|gi 0) (gj (gi 1) gv) [.ref d,.str x] S=.ok (tO<|f x) S:=by
  rw[Bu (n:=o) (kvs:=kvs) (by dsimp[gV,bools,jD,D.fo]) k];dsimp[gV,bools,LQ k,Mt x r]
 have e2:oK (.ref p) [.tup [.str x,tO<|f x]] S=.ok .non (S.set p<|.lst<|past.map kW++[.tup [.str x,tO<|f x]]):=by
  show opt (gn S p) _=_;rw[D.ps,gH,jo<|by rw[aH,bH];omega]
 obtain⟨S1,h1⟩:∃S1,S1=S.set p (.lst<|past.map kW++[.tup [.str x,tO<|f x]]):=⟨_,rfl⟩;rw[<- h1]at e2;have k1:Kp (λn=>n=d\/n=p) S S1:=by rw[h1];exact Kp.refl.set (.inl<|.inr rfl)
 have C:S1.length=S.length:=by rw[h1,bx]
 have B:S1[d]?=some (.obj "Desk" [("orders",.ref o),("past",.ref p)]):=by rw[h1,aT<|bM N];exact D.ob
 have p1:gn S1 p=some ((past++[(x,f x)]).map kW):=by
  rw[h1,jy P,bZ];rfl
 have m:yV "Desk" "past" (.ref d) S1=.ok (.ref p) S1:=u_ B fP;have J:mQ ((past++[(x,f x)]).map kW) (some<|-20) none=(rem past x<|f x).map kW:=by
  rw[Sa,aH,aU];unfold rem;rw[map_drop];rfl
 obtain⟨g,j⟩:∃g,g=S1++[O.lst<|(rem past x<|f x).map kW]:=⟨_,rfl⟩;have k2:Kp (λn=>n=d\/n=p) S g:=by rw[j];exact k1.lay
 have L:g[d]?=some (.obj "Desk" [("orders",.ref o),("past",.ref p)]):=by rw[j,aS<|by omega];exact B
 have G:zv ("past" : Str) (.ref S.length) ([("orders",.ref o),("past",.ref p)]:List<|Str×A)=([("orders",.ref o),("past",.ref S.length)]:List<|Str×A):=rfl;have e3:Am.wY "Desk" "past" (gi 0) (zE (lB "Desk" "past"<|gi 0) (j7<|BI vV<|eC<|.int 20) j6) [.ref d,.str x] S1=.nx [.ref d,.str x] (g.set d<|.obj "Desk" [("orders",.ref o),("past",.ref S.length)]):=by
  rw[yR (S1:=g) (y:=.ref S.length) (n:=d) (by
   have a:vV (.int 20) S1=.ok (.int<|-20) S1:=rfl;dsimp[gV,bools,jD,m,a,p1,J];rw[j,C]) rfl L<|by simp,G]
 refine⟨g.set d<|.obj "Desk" [("orders",.ref o),("past",.ref S.length)],?_,⟨?_,⟨kvs,?_,r⟩,?_⟩,k2.uZ<|.inl<|.inl rfl⟩
 ·unfold ig kK kO;dsimp[gV,mS,bools,iR,Nat.reduceAdd,Nat.reduceSub,jD,D.fp,D.ps,e1,g2,e2,e3]
 ·rw[bu<|by rw[j,aU];omega]
 ·refine ly ?_;rw[aT F];exact g7 (Kp.ds k2 o _ (by rintro(z|z);exact F z.symm;exact K z) k)
 ·rw[kH<|by omega,j];have:=gK (S:=S1) (xs:=(rem past x<|f x).map kW);rw[C]at this;exact this
end
end K88
namespace K88
open PySem L2 Am
section
variable {S:gr}{d o p:Nat}{nm:ba}{f:Str->Option (am)}{past:Hi}{x:Str}
def IT(D:Dk S d o p nm f past)(hp:past.length<=20)(hx:x∈nm)(hn:nm.length<1000)(hc:(f x).isSome=true\/∀kvs,Rp nm kvs f->kvs.length<40) :
  ∃p' S',iN [.ref d,.str x,tI xs] S=.ok (.str "ok") S'/\S.length<=p'/\Dk S' d o p' nm (nK f x<|some xs) (rem past x<|f x)/\Kp (λn=>n=d\/n=o\/n=p) S S':=by
 obtain⟨V,Z,U⟩:=D.ne;obtain⟨kvs,K,r⟩:=D.od;have Y:=r.len;have i:=vB (b:=true) (k:=x) K;rw[aR rfl,r.Qy]at i;obtain⟨S1,e1,j,k1⟩:=uE (x:=x) D hp;obtain⟨m,g,r1⟩:=j.od;have P:=r1.len;have F:=kj<|g7 g;obtain⟨C,T,B⟩:=j.ne;have st:qw (.ref o) (.str x) (tI xs) S1=.ok Unit.unit (S1.set o<|.jE<|lI m x<|tI xs):=vg g (by omega);have O:(tI xs).i9=false:=rfl;have L:jj "Desk" "remember" ig (gi 0) (gj (gi 1) gv) [.ref d,.str x,tI xs] S=.ok .non S1:=by
  rw[dm D<|by dsimp[gV,bools]];dsimp[gV,bools,e1]
 have G:∀J:qp (kh<|gB (vL true) (gi 1)<|lB "Desk" "orders"<|gi 0) (kh<|gB OX (gP (f1 EC)<|gj (lB "Desk" "orders"<|gi 0) gv)<|eC<|.int 40) [.ref d,.str x,tI xs] S=.ok false S,iN [.ref d,.str x,tI xs] S=.ok (.str "ok") (S1.set o<|.jE<|lI m x<|tI xs):=λJ=>by
  unfold iN rD rf;dsimp[gV,mS,bools,iR,Nat.reduceAdd,Nat.reduceSub,↓J,↓L,uD O,vm,jD,j.fo,st]
 refine⟨S.length,_,G ?_,aJ _,⟨?_,⟨_,t6 F,r1.put hx xs⟩,?_⟩,?_⟩
 ·unfold qp
  cases hs:(f x).isSome with
  | true=>
   rw[hs]at i;dsimp[gV,bools,jD,D.fo,i,ck]
  | false=>
   rw[hs]at i;have:kvs.length<40:=by
    rcases hc with z|z
    ·rw[z]at hs;cases hs
    ·exact z kvs r
   have N:OX (.int kvs.length) (.int 40) S=.ok (.bl false) S:=by dsimp[gV,bE<|show ¬(40:Int)<=(kvs.length:Int)by omega]
   dsimp[gV,bools,jD,D.fo,i,gf,K5 K,N]
 ·rw[aT<|bM C];exact j.ob
 ·rw[kH<|bM B];exact j.ps
 ·exact(k1.mono λn _ z=>z.elim (λa=>.inl a) λa=>.inr<|.inr a).uZ (.inl<|.inr<|.inl rfl)
def Lm(D:Dk S d o p nm f past)(hp:past.length<=20)(U:f x=some xs) :
  ∃p' S',jx [.ref d,.str x] S=.ok (.str "ok") S'/\S.length<=p'/\Dk S' d o p' nm (nK f x none) (rem past x<|f x)/\Kp (λn=>n=d\/n=o\/n=p) S S':=by
 obtain⟨S1,e1,k,k1⟩:=uE (x:=x) D hp;obtain⟨g,j,r1⟩:=k.od;have C:=kj<|g7 j;obtain⟨B,L,m⟩:=k.ne;have K:(gT g x).isSome=true:=by rw[r1.Qy,U];rfl
 have J:jj "Desk" "named" gQ (gi 0) (gj (gi 1) gv) [.ref d,.str x] S=.ok (tI xs) S:=by
  rw[dm D<|by dsimp[gV,bools]];dsimp[gV,bools,wN D U]
 have F:jj "Desk" "remember" ig (gi 0) (gj (gi 1) gv) [.ref d,.str x] S=.ok .non S1:=by
  rw[dm D<|by dsimp[gV,bools]];dsimp[gV,bools,e1]
 have G:xX (lB "Desk" "orders"<|gi 0) (gi 1) [.ref d,.str x] S1=.nx [.ref d,.str x] (S1.set o<|.jE<|j8 g x):=by
  rw[zX];dsimp[gV,bools,jD,k.fo,DN j K]
 refine⟨S.length,S1.set o<|.jE<|j8 g x,?_,aJ _,⟨?_,⟨_,t6 C,r1.drop x⟩,?_⟩,?_⟩
 ·unfold jx o8 qa;dsimp[gV,mS,bools,iR,Nat.reduceAdd,Nat.reduceSub,↓J,↓F,↓G]
 ·rw[aT<|bM B];exact k.ob
 ·rw[kH<|bM m];exact k.ps
 ·exact(k1.mono λn _ z=>z.elim (λa=>.inl a) λa=>.inr<|.inr a).uZ (.inl<|.inr<|.inl rfl)
def Mg{q:Str×Option (am)}(D:Dk S d o p nm f<|past++[q])(hx:q.1∈nm)(hn:nm.length<1000)(hd:q.2=none->(f q.1).isSome=true) :
  ∃S',i_ [.ref d] S=.ok (.str "ok") S'/\Dk S' d o p nm (nK f q.1 q.2) past/\Kp (λn=>n=d\/n=o\/n=p) S S':=by
 obtain⟨P,U,G⟩:=D.ne;obtain⟨kvs,K,r⟩:=D.od;obtain⟨x,v⟩:=q;have Z:=r.len;have V:=iA D.ps;have lo:=kj<|g7 K;have C:(past++[(x,v)]).map kW=past.map kW++[kW (x,v)]:=by rw[bZ];rfl
 have F:(A.ref p).ON S=some true:=by
  show(gn S p).map _=_;rw[D.ps,C];simp
 obtain⟨S1,h1⟩:∃S1,S1=S.set p (.lst<|past.map kW):=⟨_,rfl⟩;have L:HL (.ref p) [] S=.ok (kW (x,v)) S1:=by
  show opt (gn S p) _=_;rw[D.ps,C,gH];show opt ((past.map kW++[kW (x,v)])[(past.map kW++[kW (x,v)]).length-1]?) _=_;rw[show(past.map kW++[kW (x,v)]).length-1=(past.map kW).length by simp,cV<|aJ _,sub_self];show R.ok (kW (x,v)) (S.set p<|.lst (past.map kW++[kW (x,v)]).dropLast)=_;rw[List.dropLast_concat,h1]
 have pm:Ly HL (lB "Desk" "past"<|gi 0) [.ref d,.unb,.unb] S=.ok (kW (x,v)) S1:=by
  show((lB "Desk" "past" (gi 0) [.ref d,.unb,.unb] S).bind λo S1=>opt (o.lst? S1) λ_=>HL o [] S1)=_;rw[show lB "Desk" "past" (gi 0) [.ref d,.unb,.unb] S=.ok (.ref p) S by dsimp[gV,bools,jD,D.fp],R.iP];show opt (gn S p) _=_;rw[D.ps,gH,L]
 have k1:Kp (λn=>n=d\/n=o\/n=p) S S1:=by rw[h1];exact Kp.refl.set (.inl<|.inr<|.inr rfl)
 have B:S1[d]?=some (.obj "Desk" [("orders",.ref o),("past",.ref p)]):=by rw[h1,aT<|bM U];exact D.ob
 have J:iI S1 o=some kvs:=by rw[h1];exact ly (by rw[aT<|bM G];exact g7 K)
 have p1:gn S1 p=some (past.map kW):=by rw[h1,jy V]
 have Y:S1.length=S.length:=by rw[h1,bx]
 have k:yV "Desk" "orders" (.ref d) S1=.ok (.ref o) S1:=u_ B fO;have m:∀g,Rp nm g (nK f x v)->Dk (S1.set o<|.jE g) d o p nm (nK f x v) past:=λg r2=>by
  refine⟨?_,⟨_,t6<|by omega,r2⟩,?_⟩
  ·rw[aT<|bM P];exact B
  ·rw[kH<|bM G];exact p1
 have j:HV 2 (yp (iC 1)<|yp (iC 2) HC) (kW (x,v)) [.ref d,.unb,.unb] S1=.ok [.ref d,.str x,tO v] S1:=rfl
 cases v with
 | none=>
  have T:(gT kvs x).isSome=true:=by rw[r.Qy];exact hd rfl
  have N:xX (lB "Desk" "orders"<|gi 0) (gi 1) [.ref d,.str x,.non] S1=.nx [.ref d,.str x,.non] (S1.set o<|.jE<|j8 kvs x):=by
   rw[zX];dsimp[gV,bools,jD,k,DN J T]
  refine⟨S1.set o<|.jE<|j8 kvs x,?_,m _<|r.drop x,k1.uZ<|.inl<|.inr<|.inl rfl⟩;unfold i_ nc m8;dsimp[gV,mS,bools,iR,Nat.reduceAdd,Nat.reduceSub,jD,D.fp,F,ck,↓pm,↓j,tO,show BD false .non .non S1=.ok (.bl true) S1 from rfl,↓N]
 | some ys=>
  have st:qw (.ref o) (.str x) (tI ys) S1=.ok Unit.unit (S1.set o<|.jE<|lI kvs x<|tI ys):=vg J (by omega);have O:(tI ys).i9=false:=rfl;refine⟨S1.set o<|.jE<|lI kvs x<|tI ys,?_,m _<|r.put hx ys,k1.uZ<|.inl<|.inr<|.inl rfl⟩;unfold i_ nc m8;dsimp[gV,mS,bools,iR,Nat.reduceAdd,Nat.reduceSub,jD,D.fp,F,ck,↓pm,↓j,tO,uD O,show BD false (tI ys) .non S1=.ok (.bl false) S1 from rfl,vm,k,st]
end
end K88
namespace Bl
open L2
end Bl
namespace Wd
open Bl L2
abbrev ex (l:am)(k:Nat):am:=(l.set (k-1)<|l.getD k 0).set k<|l.getD (k-1) 0
def El{l:am}{k:Nat}(h:k<l.length):l.getD k 0=l[k]:=by rw[aV,aL h];rfl
def Rv{l:am}{k:Nat}(h0:1<=k)(h:k<l.length):ex l k=(l.set (k-1) l[k]).set k (l[k-1]'()):=by
 unfold ex;rw[El h,El<|show k-1<l.length by lia]
def IL(l:am)(k:Nat):(ex l k).length=l.length:=by unfold ex;rw[bx,bx]
def Lf{l:am}{k:Nat}(h0:1<=k)(h:k<l.length):(ex l k).Perm l:=by
 rw[Rv h0 h];exact List.set_set_perm () h
end Wd
namespace K88
open PySem L2 Am
meta abbrev wd (w:ar):ae:=w.map λk:Nat=>A.int (k:Int)
def Ss{l:am}{k:Nat}{i:Int}(h:i=k)(j:k<l.length):lH (l.map A.int) i=some (.int<|l.getD k 0):=r_ h<|by rw[aV,aL j];rfl
def EH{l:am}{k:Nat}:((l.map A.int).set (k-1)<|.int<|l.getD k 0).set k (.int<|l.getD (k-1) 0)=(Wd.ex l k).map A.int:=by
 unfold Wd.ex;rw[fY,fY]
theorem Li{xs:am}{k:Nat}(h1:1<=k)(J:k<xs.length)(L:xs.length<=1000):∃S',jU [.tup<|xs.map .int,.int k] S=.ok (.tup<|(Wd.ex xs k).map .int) S'/\iX S S':=by
 have e1:=Q2 (S:=S) (n:=(xs.length:Int)) (k:=(k:Int)) (by omega) (by omega);have g:lH (xs.map A.int) (k:Int)=some (.int<|xs.getD k 0):=Ss rfl (by omega);have f:lH (xs.map A.int) ((k:Int)-1)=some (.int<|xs.getD (k-1) 0):=Ss (k:=k-1) (by omega) (by omega);have d:ve xs.length ((k:Int)-1)=some (k-1):=oH (by omega) (by omega);have p:ve xs.length (k:Int)=some k:=oH rfl (by omega);have m:gn (S++[O.lst<|xs.map .int]) S.length=some (xs.map .int):=gK;have j:∀ys,gn ((S++[O.lst<|xs.map .int]).set S.length<|.lst ys) S.length=some ys:=λys=>jy (by simp);have e2:iO [.tup<|xs.map .int,.int k,.int<|(k:Int)+1] S=.ok (.tup<|(Wd.ex xs k).map .int) (((S++[O.lst<|xs.map .int]).set S.length<|.lst<|(xs.map A.int).set (k-1)<|.int<|xs.getD k 0).set S.length<|.lst<|(Wd.ex xs k).map .int):=by
  unfold iO jQ jR;dsimp[gV,bools,iR,Nat.reduceAdd,Nat.reduceSub,m,show(k:Int)+1-1=k by omega,g,f,jo<|show 2<=sizeLine by decide,jo<|show 2=2 from rfl,aH,d,j,bx,p,EH];rw[jy<|by simp];dsimp[gV,bools]
 unfold jU pU pI;dsimp[gV,mS,bools,iR,Nat.reduceAdd,Nat.reduceSub,aH,e1,ck,e2];exact⟨_,rfl,((Kp.refl.lay).set<|.inr<|aJ _).set<|.inr<|aJ _⟩
meta abbrev mT (ord:am)(ks:ar):am:=ks.foldl Wd.ex ord
def Ae(ord:am):∀ks:ar,(mT ord ks).length=ord.length:=λks=>by
 induction ks generalizing ord with
 | nil=>rfl
 | cons k ks d=>show(mT (Wd.ex ord k) ks).length=_;rw[d,Wd.IL]
def EW{ord:am}{ks:ar}(h:∀k∈ks,1<=k/\k<ord.length):(mT ord ks).Perm ord:=by
 induction ks generalizing ord with
 | nil=>exact dP _
 | cons k ks g=>
  have d:=h k<|aZ ..;have:=g (ord:=Wd.ex ord k) λj f=>by rw[Wd.IL];exact h j (aW _ f)
  exact this.trans<|Wd.Lf d.1 d.2
def PB{ord:am}{ks:ar}(J:gn S W=some (wd ks))(h:∀k∈ks,1<=k/\k<ord.length)(L:ord.length<=1000)(U:ks.length<=1000):∃S',l9 [tI ord,.ref W] S=.ok (tI<|mT ord ks) S'/\iX S S':=by
 unfold l9 wg vM;dsimp[gV,mS,bools,iR,Nat.reduceAdd,Nat.reduceSub];refine Dw (n:=W) (xs:=wd ks) (S1:=S) (uw (by dsimp[gV,bools]) J) (λi τ S'=>∃m,τ=[tI<|mT ord<|ks.take i,.ref W,m]/\gn S' W=some (wd ks)/\iX S S') (λr=>∃S',RS.end (RS.seq r<|ie<|gi 0)=.ok (tI<|mT ord ks) S'/\iX S S') ⟨_,rfl,J,Kp.refl⟩ (λi τ S' h=>h.choose_spec.2.1) ?_ ?_
 ·rintro i x τ S' B ⟨m,rfl,f,g⟩;obtain⟨k,d,rfl⟩:∃k,ks[i]?=some k/\x=.int (k:Int):=by
   rw[cB]at B;obtain⟨k,a,b⟩:=aX.mp B;exact⟨k,a,b.symm⟩
  have p:=h k<|bP d;obtain⟨C,e2,k2⟩:=Li (S:=S') (xs:=mT ord<|ks.take i) p.1 (by rw[Ae];exact p.2) (by rw[Ae];exact L);refine⟨_,S',rfl,.inl ⟨[tI<|mT ord<|ks.take<|i+1,.ref W,.int k],C,?_,_,rfl,k2.lst _ _ (λz=>z) f,g.trans k2⟩⟩;have j:ks.take (i+1)=ks.take i++[k]:=by
   obtain⟨hi,e⟩:=aI.mp d;rw[List.take_succ_eq_append_getElem hi,e]
  have F:(tI<|mT ord<|ks.take i).i9=false:=rfl;unfold vz;have e2:jU [tI<|mT ord<|ks.take i,.int k] S'=.ok (tI<|Wd.ex (mT ord<|ks.take i) k) C:=e2;dsimp[gV,mS,bools,uD F,e2];rw[j];unfold mT;rw[List.foldl_append];rfl
 ·rintro τ S' ⟨m,rfl,f,g⟩;have j:ks.take (wd ks).length=ks:=by rw[aH,List.take_length]
  rw[j];exact⟨S',rfl,g⟩
meta abbrev iH (ws:ba):Str:=Str.join ⟨#[32]⟩ ws
def HY{ws:ba}(hw:A2 ws)(j:ws≠[])(J:ws.length<=300):1<=(iH ws).length/\(iH ws).length<=40000:=by
 have h1:=Tx.A1 ⟨#[32]⟩ ws j λt d=>(hw t d).1;have f:=Tx.pP ⟨#[32]⟩ (B:=100) ws λt d=>(hw t d).2.1;rw[Sp.Ax]at f;exact⟨h1,bI f<|by omega⟩
def LV{S:gr}{ws:ba}(hw:A2 ws)(j:ws≠[])(J:ws.length<=300):qN (.str<|iH ws) [.str<|PySem.Str.ofString " "] S=.ok (.ref S.length) (S++[.lst<|ws.map .str]):=by
 obtain⟨h1,g⟩:=HY hw j J;have sp:Txt.split (iH ws) ⟨#[32]⟩=ws:=Sp.vF ⋯ j (λt f=>(hw t f).2.2) h1;have d:qN (.str<|iH ws) [.str<|PySem.Str.ofString " "] S=.ok (.ref S.length) (S++[.lst<|(Txt.split (iH ws) ⟨#[32]⟩).map .str]):=
  ki ⟨rfl,by rw[bH];omega,by rw[show Txt.split (iH ws) (PySem.Str.ofString " ")=ws from sp,bH];omega⟩
 rw[d,sp]
def T5(a b:A)(xs:ae):mQ (a::b::xs) (some 2) none=xs:=by
 cases xs with
 | nil=>rfl
 | cons c xs=>
  have:=qo (a::b::c::xs) 1 (by simp);rw[show((1:Nat):Int)+1=2 from rfl]at this;rw[this];rfl
def Tj(a:A)(xs:ae):mQ (a::xs) (some 1) none=xs:=by
 have:=qo (a::xs) 0 (by simp);rw[show((0:Nat):Int)+1=1 from rfl]at this;rw[this];rfl
abbrev BU:Sm:=
 gM (nM (kh<|gB (m_ false) (gi 3)<|eC<|.str<|PySem.Str.ofString "undo")
 (ie<|jj "Desk" "undo" i_ (gi 0) gv)
 i8)
 (gM (nM (kh<|gB (m_ false) (gi 3)<|eC<|.str<|PySem.Str.ofString "keep")
 (ie<|jj "Desk" "put" iN (gi 0)<|gj (gB jq (gi 2)<|eC<|.int 1)<|gj (nZ iT<|gj (CH nV (eC<|.str<|PySem.Str.ofString " ")<|gj (zE (gi 2) (j7<|eC<|.int 2) j6) gv) gv) gv)
 i8)
 (gM (nM (kh<|gB (m_ false) (gi 3)<|eC<|.str<|PySem.Str.ofString "lead")
 (gM (ir (nZ jW<|gj (CH nV (eC<|.str<|PySem.Str.ofString " ")<|gj (zE (gi 2) (j7<|eC<|.int 2) j6) gv) gv)<|iC 4)
 (ie<|jj "Desk" "put" iN (gi 0)<|gj (gB jq (gi 2)<|eC<|.int 1)<|gj (nZ l9<|gj (jj "Desk" "named" gQ (gi 0)<|gj (gB jq (gi 2)<|eC<|.int 1) gv)<|gj (gi 4) gv) gv))
 i8)
 (gM (nM (kh<|gB (m_ false) (gi 3)<|eC<|.str<|PySem.Str.ofString "drop")
 (ie<|jj "Desk" "drop" jx (gi 0)<|gj (gB jq (gi 2)<|eC<|.int 1) gv)
 i8)
 (gM (nM (kh<|gB (m_ false) (gi 3)<|eC<|.str<|PySem.Str.ofString "back")
 (Ov)
 i8)
 (gM (ir (nF [none,some 0] (j5<|zE (gi 2) (j7<|eC<|.int 1) j6) (iC 0) kG<|jj "Desk" "named" gQ (gi 1)<|gj (gi 0) gv)<|iC 5)
 (ie<|Qj (kh<|gB (m_ false) (gP (f1 jf)<|gj (gi 5) gv)<|eC<|.int 1) (nZ iZ<|gj (gi 3)<|gj (gB jq (gi 5)<|eC<|.int 0) gv)<|SJ))))))
section
variable {S:gr}{d o p:Nat}{nm:ba}{f:Str->Option (am)}{past:Hi}{kw:Str}{ws:ba}
def ud(D:Dk S d o p nm f past)(hw:A2 (kw::ws))(J:ws.length<300)(hf:∀(T:gr) (W:Nat),gn T W=some ((kw::ws).map .str)->∃S',ju [.ref W] T=.ok (.bl true) S'/\iX T S'){Q:R A->Prop}
  (go:∀S2,gn S2 S.length=some ((kw::ws).map .str)->S.length<S2.length->iX S S2->Dk S2 d o p nm f past->Q (RS.end<|RS.seq (.nx [.ref d,.str<|iH (kw::ws),.ref S.length,.str kw,.unb,.unb] S2) BU)):Q (gY [.ref d,.str<|iH (kw::ws)] S):=by
 have sp:=LV (S:=S) hw (by simp) (by rw[bq];omega);obtain⟨S1,h1⟩:∃S1,S1=S++[O.lst<|(kw::ws).map A.str]:=⟨_,rfl⟩;rw[<- h1]at sp;have k:gn S1 S.length=some ((kw::ws).map .str):=by rw[h1];exact gK
 have k1:iX S S1:=by rw[h1];exact Kp.refl.lay
 obtain⟨S2,e2,k2⟩:=hf S1 S.length k;have j:=k2.lst _ _ (λz=>z) k;have m:jq (.ref S.length) (.int 0) S2=.ok (.str kw) S2:=by show opt (gn S2 S.length) _=_;rw[j,gH,bf,QY];rfl
 have k3:=k1.trans k2;have g:=go S2 j (iA j) k3<|D.kp k3 (λz=>z) (λz=>z) λz=>z;unfold gY rH rK;dsimp[gV,mS,bools,iR,Nat.reduceAdd,Nat.reduceSub,tD,ki<|show A.isStr (.str<|iH (kw::ws))=true from rfl,sp,e2,ck,m];exact g
def BB{S:gr}{a:Str}:m_ false (.str a) (.str b) S=.ok (.bl<|a == b) S:=by
 have:xG S 12 (.str a) (.str b)=some (a == b):=rfl;rw[vQ this]
end
end K88
namespace K88
open PySem L2 Am
def Ve:((Str.ofString "undo") == (Str.ofString "undo"))=true:=by decide +kernel
def Vf:((Str.ofString "keep") == (Str.ofString "undo"))=false:=by decide +kernel
def Vn:((Str.ofString "keep") == (Str.ofString "keep"))=true:=by decide +kernel
def Vc:((Str.ofString "lead") == (Str.ofString "undo"))=false:=by decide +kernel
def Vv:((Str.ofString "lead") == (Str.ofString "keep"))=false:=by decide +kernel
def Vm:((Str.ofString "lead") == (Str.ofString "lead"))=true:=by decide +kernel
def Vx:((Str.ofString "drop") == (Str.ofString "undo"))=false:=by decide +kernel
def Vz:((Str.ofString "drop") == (Str.ofString "keep"))=false:=by decide +kernel
def Vb:((Str.ofString "drop") == (Str.ofString "lead"))=false:=by decide +kernel
def Vl:((Str.ofString "drop") == (Str.ofString "drop"))=true:=by decide +kernel
def UR:((Str.ofString "show") == (Str.ofString "undo"))=false:=by decide +kernel
def UK:((Str.ofString "show") == (Str.ofString "keep"))=false:=by decide +kernel
def kwd:((Str.ofString "show") == (Str.ofString "lead"))=false:=by decide +kernel
def Ut:((Str.ofString "show") == (Str.ofString "drop"))=false:=by decide +kernel
def UQ:((Str.ofString "show") == (Str.ofString "back"))=false:=by decide +kernel
def Vw:((Str.ofString "show") == (Str.ofString "show"))=true:=by decide +kernel
def rC{kw:Str}(h:kw = "keep" \/ kw = "lead" \/ kw = "drop" \/ kw = "show" \/ kw = "undo"):1<=kw.length/\kw.length<=100/\32∉C kw:=by
 rcases h with rfl|rfl|rfl|rfl|rfl<;>decide +kernel
def vt{x:Str}(h:mV x):1<=x.length/\x.length<=100/\32∉C x:=⟨h.1,bI h.2.1 ⋯,λz=>by have:=h.2.2 32 z;omega⟩
def J6{xs:am}(h:uW xs):∀t∈xs.map Tx.tx,1<=t.length/\t.length<=100/\32∉C t:=λt f=>by
 obtain⟨x,d,rfl⟩:=bR.mp f;have:=x_<|h x d;exact⟨this.2.1,bI this.2.2.1 ⋯,no_space<|h x d⟩
def i6{w:Str}(h:1<=w.length/\w.length<=100/\32∉C w)(hs:A2 ws):A2 (w::ws):=λt d=>by
 rcases bJ.mp d with rfl|z
 ·exact h
 ·exact hs t z
def qi:A2 []:=λt h=>absurd h fU
section
variable {S:gr}{d o p:Nat}{nm:ba}{f:Str->Option (am)}{past:Hi}{x:Str}
def FY{q:Str×Option (am)}(D:Dk S d o p nm f<|past++[q])(J:q.1∈nm)(hn:nm.length<1000)(hd:q.2=none->(f q.1).isSome=true) :
  ∃S',gY [.ref d,.str<|iH ["undo"]] S=.ok (.str "ok") S'/\Dk S' d o p nm (nK f q.1 q.2) past/\Kp (λn=>n=d\/n=o\/n=p) S S':=by
 refine ud (Q:=λr=>∃S',r=.ok (.str "ok") S'/\Dk S' d o p nm (nK f q.1 q.2) past/\Kp (λn=>n=d\/n=o\/n=p) S S') D (i6 (rC<|by simp) qi) (by simp) (λT W C=>zw (xs:=[]) C (show ji iw "undo" = some 0 by decide +kernel) ∅ (λy h=>absurd h fU) (by simp) (i6 (rC<|by simp) qi)) λB F G k2 j=>?_;obtain⟨g,e3,k,k3⟩:=Mg j J hn hd;refine⟨g,?_,k,(Kp.of0 k2).trans k3⟩;have m:jj "Desk" "undo" i_ (gi 0) gv [.ref d,.str<|iH ["undo"],.ref S.length,.str "undo",.unb,.unb] B=.ok (.str "ok") g:=by
  rw[dm j<|by dsimp[gV,bools]];exact e3
 unfold BU;dsimp[gV,mS,bools,BB,Ve,↓m]
def Jh(D:Dk S d o p nm f past)(hp:past.length<=20)(hn:mV x)(U:f x=some xs) :
  ∃p' S',gY [.ref d,.str<|iH ["drop",x]] S=.ok (.str "ok") S'/\S.length<=p'/\Dk S' d o p' nm (nK f x none) (rem past x<|f x)/\Kp (λn=>n=d\/n=o\/n=p) S S':=by
 have hw:A2 ["drop",x]:=i6 (rC<|by simp)<|i6 (vt hn) qi;refine ud (Q:=λr=>∃p' S',r=.ok (.str "ok") S'/\S.length<=p'/\Dk S' d o p' nm (nK f x none) (rem past x<|f x)/\Kp (λn=>n=d\/n=o\/n=p) S S') D hw (by simp) (λT W G=>zw (xs:=[x]) G (show ji iw "drop" = some 1 by decide +kernel) ∅ (λy h=>by rw[a_]at h;rw[h];exact hn) (by simp) hw) λg B L k2 k=>?_;obtain⟨p',j,e3,K,C,k3⟩:=Lm k hp U;have J:=k2.len;refine⟨p',j,?_,by omega,C,(Kp.of0 k2).trans k3⟩;have F:jq (.ref S.length) (.int 1) g=.ok (.str x) g:=by show opt (gn g S.length) _=_;rw[B,gH,bf,bf,QT];rfl
 have m:jj "Desk" "drop" jx (gi 0) (gj (gB jq (gi 2)<|eC<|.int 1) gv) [.ref d,.str<|iH ["drop",x],.ref S.length,.str "drop",.unb,.unb] g=.ok (.str "ok") j:=by
  rw[dm k<|by dsimp[gV,bools]];dsimp[gV,bools,F,e3]
 unfold BU;dsimp[gV,mS,bools,BB,Vx,Vz,Vb,Vl,↓m]
def MY{ws:ba}(J:gn S2 W=some ((kw::x::ws).map .str))(hw:A2 ws)(L:ws.length<=200){a c:A}:CH nV (eC<|.str<|PySem.Str.ofString " ") (gj (zE (gi 2) (j7<|eC<|.int 2) j6) gv) (a::b::.ref W::c::τ) S2=.ok (.str<|Str.join ⟨#[32]⟩ ws) (S2++[O.lst<|ws.map .str]):=by
 have j:nV (.str<|PySem.Str.ofString " ") [.ref S2.length] (S2++[O.lst<|ws.map A.str])=.ok (.str<|Str.join ⟨#[32]⟩ ws) (S2++[O.lst<|ws.map A.str]):=y_ (z:=⟨#[32]⟩) gK (by
  have:=Tx.B3 (B:=100) ws λt f=>(hw t f).2.1;rw[Sp.Ax];omega)
 have d:mQ ((kw::x::ws).map A.str) (some 2) none=ws.map .str:=T5 _ _ _;dsimp[gV,bools,tD,ki<|show A.isStr (.str<|PySem.Str.ofString " ")=true from rfl,J,d,j]
def Kv(D:Dk S d o p nm f past)(hp:past.length<=20)(hn:mV x)(hx:x∈nm)(hm:nm.length<1000){xs:am}{n:Nat}(px:xs.Perm<|iV 1<|(n:Int)+1)(h1:1<=n)(h2:n<=20)(hc:(f x).isSome=true\/∀kvs,Rp nm kvs f->kvs.length<40) :
  ∃p' S',gY [.ref d,.str<|iH ("keep" :: x::xs.map Tx.tx)] S=.ok (.str "ok") S'/\S.length<=p'/\Dk S' d o p' nm (nK f x<|some xs) (rem past x<|f x)/\Kp (λn=>n=d\/n=o\/n=p) S S':=by
 obtain⟨lx,ne⟩:=l7 px h1;have Y:=yw px h2;have C:A2 (xs.map Tx.tx):=J6 Y;have hw:A2 ("keep" :: x::xs.map Tx.tx):=i6 (rC<|by simp)<|i6 (vt hn) C;refine ud (Q:=λr=>∃p' S',r=.ok (.str "ok") S'/\S.length<=p'/\Dk S' d o p' nm (nK f x<|some xs) (rem past x<|f x)/\Kp (λn=>n=d\/n=o\/n=p) S S') D hw (by simp;omega) (λT W V=>by
  cases xs with
  | nil=>exact absurd rfl ne
  | cons y ys=>exact JH V (.inl rfl) hn hw) λS2 k l2 k2 G=>?_
 have K:=MY (S2:=S2) (W:=S.length) (kw := "keep") (x:=x) (ws:=xs.map Tx.tx) k C (by rw[aH];omega) (a:=.ref d) (b:=.str<|iH ("keep" :: x::xs.map Tx.tx)) (c:=.str "keep") (τ:=[.unb,.unb]);obtain⟨F,e4,Z⟩:=OP (S:=S2++[O.lst<|(xs.map Tx.tx).map A.str]) px h1 h2;have g:iX S2 F:=(Kp.refl.lay:iX S2<|S2++[O.lst<|(xs.map Tx.tx).map A.str]).trans Z;have P:=G.kp g (λz=>z) (λz=>z) λz=>z;obtain⟨p',B,J,lp,L,k5⟩:=IT (xs:=xs) P hp hx hm hc;have kl:=k2.len;have U:=g.len;refine⟨p',B,?_,by omega,L,((Kp.of0 k2).trans<|Kp.of0 g).trans k5⟩;have N:jq (.ref S.length) (.int 1) S2=.ok (.str x) S2:=by show opt (gn S2 S.length) _=_;rw[k,gH,bf,bf,QT];rfl
 have j:iT [.str<|Str.join ⟨#[32]⟩<|xs.map Tx.tx] (S2++[O.lst<|(xs.map Tx.tx).map A.str])=.ok (tI xs) F:=e4;have m:jj "Desk" "put" iN (gi 0) (gj (gB jq (gi 2)<|eC<|.int 1)<|gj (nZ iT<|gj (CH nV (eC<|.str<|PySem.Str.ofString " ")<|gj (zE (gi 2) (j7<|eC<|.int 2) j6) gv) gv) gv) [.ref d,.str<|iH ("keep" :: x::xs.map Tx.tx),.ref S.length,.str "keep",.unb,.unb] S2=.ok (.str "ok") B:=by
  rw[dm G<|by dsimp[gV,bools]];dsimp[gV,mS,bools,N,↓K,j,J]
 unfold BU;dsimp[gV,mS,bools,BB,Vf,Vn,↓m]
end
end K88
namespace K88
open PySem L2 Am
section
variable {S:gr}{d o p:Nat}{nm:ba}{f:Str->Option (am)}{past:Hi}{x:Str}
meta abbrev Qf (ks:ar):am:=ks.map λk:Nat=>(k:Int)
abbrev yd (ks:ar):ba:=if ks=[]then["-"]else(Qf ks).map Tx.tx
def OB(ks:ar):(Qf ks).map A.int=wd ks:=by rw[cM];rfl
def DZ:Qf ks=[] ↔ ks=[]:=List.map_eq_nil_iff
def L7(ks:ar):Str.join ⟨#[32]⟩ (yd ks)=if Qf ks=[]then Str.ofString "-" else jH (Qf ks):=by
 unfold yd;by_cases c:ks=[]
 ·rw[aR c,aR<|DZ.mpr c];rfl
 ·rw[aO c,aO λz=>c<|DZ.mp z];rfl
def O_{ks:ar}(h:∀k∈ks,1<=k/\k<20):A2 (yd ks):=by
 unfold yd;by_cases c:ks=[]
 ·rw[aR c];exact i6 ∅ qi
 ·rw[aO c];exact J6 λy hy=>by
   obtain⟨k,d,rfl⟩:=bR.mp hy;have:=h k d;omega
def OM(ks:ar):(yd ks).length=if ks=[]then 1 else ks.length:=by
 unfold yd;split
 ·rfl
 ·rw[aH,aH]
def GW(D:Dk S d o p nm f past)(hp:past.length<=20)(hn:mV x)(hx:x∈nm)(hm:nm.length<1000){xs:am}(hf:f x=some xs)(hl:xs.length<=20){ks:ar}(hk:∀k∈ks,1<=k/\k<xs.length)(hkl:ks.length<=190) :
  ∃p' S',gY [.ref d,.str<|iH ("lead" :: x::yd ks)] S=.ok (.str "ok") S'/\S.length<=p'/\Dk S' d o p' nm (nK f x<|some<|mT xs ks) (rem past x<|f x)/\Kp (λn=>n=d\/n=o\/n=p) S S':=by
 have B:∀k∈ks,1<=k/\k<20:=λk h=>by have:=hk k h;omega
 have V:=O_ B;have F:=OM ks;have hw:A2 ("lead" :: x::yd ks):=i6 (rC<|by simp)<|i6 (vt hn) V;refine ud (Q:=λr=>∃p' S',r=.ok (.str "ok") S'/\S.length<=p'/\Dk S' d o p' nm (nK f x<|some<|mT xs ks) (rem past x<|f x)/\Kp (λn=>n=d\/n=o\/n=p) S S') D hw (by rw[bq,F];split<;>omega) (λT W N=>by
  cases K:yd ks with
  | nil=>rw[K]at F;revert F;split<;>(intro z;simp at z);next c=>exact absurd (List.length_eq_zero_iff.mp z.symm) c
  | cons y ys=>rw[K]at N hw;exact JH N (.inr rfl) hn hw) λS2 J l2 k2 D2=>?_
 have j2:=MY (S2:=S2) (W:=S.length) (kw := "lead") (x:=x) (ws:=yd ks) J V (by rw[F];split<;>omega) (a:=.ref d) (b:=.str<|iH ("lead" :: x::yd ks)) (c:=.str "lead") (τ:=[.unb,.unb]);obtain⟨P,j,Z,L,hW4,k4⟩:=PV (S:=S2++[O.lst<|(yd ks).map A.str]) (xs:=Qf ks) (λy hy=>by
  obtain⟨k,h,rfl⟩:=bR.mp hy;have:=B k h;omega)<|by rw[aH];omega
 rw[<- L7]at Z;rw[OB]at L;have g:iX S2 j:=(Kp.refl.lay:iX S2<|S2++[O.lst<|(yd ks).map A.str]).trans k4;have C:=D2.kp g (λz=>z) (λz=>z) λz=>z;obtain⟨S5,e5,k5⟩:=PB (S:=j) L hk (by omega) (by omega);have D5:=C.kp k5 (λz=>z) (λz=>z) λz=>z;obtain⟨p',U,e6,lp,D6,k6⟩:=IT (xs:=mT xs ks) D5 hp hx hm (.inl<|by rw[hf];rfl);have kl:=k2.len;have kl2:=g.len;have kl3:=k5.len;refine⟨p',U,?_,by omega,D6,(((Kp.of0 k2).trans<|Kp.of0 g).trans<|Kp.of0 k5).trans k6⟩;have G:=g.lst _ _ (λz=>z) J;have Y:jq (.ref S.length) (.int 1) j=.ok (.str x) j:=by show opt (gn j S.length) _=_;rw[G,gH,bf,bf,QT];rfl
 have mn:jj "Desk" "named" gQ (gi 0) (gj (gB jq (gi 2)<|eC<|.int 1) gv) [.ref d,.str<|iH ("lead" :: x::yd ks),.ref S.length,.str "lead",.ref P,.unb] j=.ok (tI xs) j:=by
  rw[dm C<|by dsimp[gV,bools]];dsimp[gV,bools,Y,wN C hf]
 have m:jj "Desk" "put" iN (gi 0) (gj (gB jq (gi 2)<|eC<|.int 1)<|gj (nZ l9<|gj (jj "Desk" "named" gQ (gi 0)<|gj (gB jq (gi 2)<|eC<|.int 1) gv)<|gj (gi 4) gv) gv) [.ref d,.str<|iH ("lead" :: x::yd ks),.ref S.length,.str "lead",.ref P,.unb] j=.ok (.str "ok") U:=by
  rw[dm C<|by dsimp[gV,bools]];dsimp[gV,mS,bools,Y,↓mn,e5,e6]
 unfold BU;dsimp[gV,mS,bools,BB,Vc,Vv,Vm,↓j2,Z,↓m]
def G2{xs:am}(h:uW xs)(J:xs.length<=200)(j:xs≠[]):∃S',iZ [.str "show",tI xs] T=.ok (.str<|jH xs) S'/\iX T S':=by
 obtain⟨S',e,k⟩:=NX (S:=T) h J;rw[aO j]at e;have e1:jZ [tI xs] T=.ok (.str<|jH xs) S':=by
  unfold jZ oi om;have d:(tI xs).i9=false:=rfl;have e:iL [tI xs] T=.ok (.str<|jH xs) S':=e;dsimp[gV,mS,bools,iR,Nat.reduceAdd,Nat.reduceSub,uD d,e]
 refine⟨S',?_,k⟩;have d:(tI xs).i9=false:=rfl;unfold iZ mq l_;dsimp[gV,mS,bools,iR,Nat.reduceAdd,Nat.reduceSub,BB,Vw,uD d,e1]
def AU{S2:gr}(j:gn S2 S.length=some ((["show",x]:ba).map .str)){a c:A}:j5 (zE (gi 2) (j7<|eC<|.int 1) j6) (a::b::.ref S.length::c::τ) S2=.ok (kB S2.length ([A.str x]:ae).length) (S2++[O.lst [A.str x]]):=by
 have d:mQ ((["show",x]:ba).map A.str) (some 1) none=[A.str x]:=Tj _ _;refine uw (S:=S2) ?_ gK;dsimp[gV,bools,j,d]
def Jv(D:Dk S d o p nm f past)(hn:mV x){xs:am}{n:Nat}(hf:f x=some xs)(px:xs.Perm<|iV 1<|(n:Int)+1)(h1:1<=n)(h2:n<=20):∃S',gY [.ref d,.str<|iH ["show",x]] S=.ok (.str<|jH xs) S'/\iX S S':=by
 obtain⟨lx,ne⟩:=l7 px h1;have hw:A2 ["show",x]:=i6 (rC<|by simp)<|i6 (vt hn) qi;refine ud (Q:=λr=>∃S',r=.ok (.str<|jH xs) S'/\iX S S') D hw (by simp) (λT W P=>zw (xs:=[x]) P (show ji iw "show" = some 1 by decide +kernel) ∅ (λy h=>by rw[a_]at h;rw[h];exact hn) (by simp) hw) λj G l2 k2 Y=>?_;obtain⟨r1,_⟩:=t9 (cl := "NoName") (cap:=[some 0]) (e:=jj "Desk" "named" gQ (gi 1)<|gj (gi 0) gv) (τ:=[.ref d,.str<|iH ["show",x],.ref S.length,.str "show",.unb,.unb]) (AU G) gK (λ_=>true) (λ_=>tI xs) (λy hy T k=>by
  have hy:y=.str x:=by simpa using hy
  subst hy;have C:=Y.kp ((Kp.refl.lay:iX j<|j++[O.lst [A.str x]]).trans k) (λz=>z) (λz=>z) λz=>z;refine⟨λ_=>⟨T,?_,Kp.refl⟩,λz=>(by cases z)⟩;show jj "Desk" "named" gQ (gi 1) (gj (gi 0) gv) [.str x,.ref d] T=_;rw[dm C<|by dsimp[gV,bools]];dsimp[gV,bools,wN C hf])<|by simp
 obtain⟨g,e3,k3⟩:=r1 (by rw[cE];intro _ _;rfl);obtain⟨T,B⟩:∃T,T=g++[O.lst<|[A.str x].map λ_=>tI xs]:=⟨_,rfl⟩;rw[<- B]at e3;have F:gn T g.length=some [tI xs]:=by rw[B];exact gK
 have U:iX g T:=by rw[B];exact Kp.refl.lay
 obtain⟨K,Z,V⟩:=G2 (T:=T) (yw px h2) (by omega) ne;have m:iX j g:=(Kp.refl.lay:iX j<|j++[O.lst [A.str x]]).trans k3;refine⟨K,?_,((k2.trans m).trans U).trans V⟩;have N:jf (.ref g.length) T=.ok (.int 1) T:=by show opt (gn _ _) _=_;rw[F];rfl
 have L:jq (.ref g.length) (.int 0) T=.ok (tI xs) T:=by show opt (gn _ _) _=_;rw[F,gH,QY];rfl
 have J:∀T:gr,m_ false (.int 1) (.int 1) T=.ok (.bl true) T:=λT=>rfl;unfold BU;dsimp[gV,mS,bools,BB,UR,UK,kwd,Ut,UQ,↓e3,N,J,L,Z]
def Hh(D:Dk S d o p nm f past)(hn:mV x)(hf:f x=none):∃S',gY [.ref d,.str<|iH ["show",x]] S=.ex "NoName" S'/\iX S S':=by
 have hw:A2 ["show",x]:=i6 (rC<|by simp)<|i6 (vt hn) qi;have m:x.length<=100:=bI hn.2.1 ⋯;refine ud (Q:=λr=>∃S',r=.ex "NoName" S'/\iX S S') D hw (by simp) (λT W G=>zw (xs:=[x]) G (show ji iw "show" = some 1 by decide +kernel) ∅ (λy h=>by rw[a_]at h;rw[h];exact hn) (by simp) hw) λg F K k2 J=>?_;obtain⟨_,r2⟩:=t9 (cl := "NoName") (cap:=[some 0]) (e:=jj "Desk" "named" gQ (gi 1)<|gj (gi 0) gv) (τ:=[.ref d,.str<|iH ["show",x],.ref S.length,.str "show",.unb,.unb]) (AU F) gK (λ_=>false) (λ_=>.non) (λy hy T k=>by
  have hy:y=.str x:=by simpa using hy
  subst hy;have C:=J.kp ((Kp.refl.lay:iX g<|g++[O.lst [A.str x]]).trans k) (λz=>z) (λz=>z) λz=>z;refine⟨λz=>(by cases z),λ_=>⟨T,?_,Kp.refl⟩⟩;show jj "Desk" "named" gQ (gi 1) (gj (gi 0) gv) [.str x,.ref d] T=_;rw[dm C<|by dsimp[gV,bools]];dsimp[gV,bools,HD C hf m])<|by simp
 obtain⟨B,e3,k3⟩:=r2 rfl;have j:iX g B:=(Kp.refl.lay:iX g<|g++[O.lst [A.str x]]).trans k3;refine⟨B,?_,k2.trans j⟩;unfold BU;dsimp[gV,mS,bools,BB,UR,UK,kwd,Ut,UQ,↓e3]
end
end K88
namespace K88
open PySem L2 Am
abbrev FI:Str:=Str.ofString "abcdefghijklmnopqrstuvwxyz"
def Q9:∀k:Nat,k<26->lH FI.cps.toList (k:Int)=some (97+k):=by decide +kernel
def NJ:FI.length<=16777216:=by decide +kernel
def CK{k:Nat}(h:k<26){i:Int}(e:i=k):jq (.str FI) (.int i) S=.ok (.str ⟨#[97+k]⟩) S:=by
 subst e;show gd (FI.length<=sizeLine) (opt (lH FI.cps.toList (k:Int)) _)=_;rw[ki<|by rw[bH];exact NJ,Q9 k h];rfl
theorem se{a:Str}(h:C a=C b):a=b:=by
 cases a with|mk a=>cases b with|mk b=>exact cO Str.mk<|Array.toList_inj.mp h
def jk(a b:Str):C (a++b)=C a++C b:=Sp.sS a b
abbrev My (B i:Nat):ar:=[97+(B+i) % 26,97+(B+i) / 26]
abbrev Ba (a:Nat)(x:Str):ar:=if a=1 then(C x).take 2 else(C x).reverse.take 2
abbrev yE (a B i:Nat):ar:=if i=0 then[97+B]else if a=1 then My B i else(My B i).reverse
def Ml{a:Nat}(h:yE a B i=yE a B j):i=j:=by
 unfold yE at h;by_cases hi:i=0
 ·by_cases d:j=0
  ·omega
  ·rw[aR hi,aO d]at h;have:=cO List.length h;split at this<;>simp[My]at this
 ·by_cases d:j=0
  ·rw[aO hi,aR d]at h;have:=cO List.length h;split at this<;>simp[My]at this
  ·rw[aO hi,aO d]at h;have:My B i=My B j:=by
    split at h
    ·exact h
    ·exact List.reverse_inj.mp h
   unfold My at this;simp at this;omega
def rP{a b:Str}(h:a.length+b.length<=16777216):iF (.str a) (.str b) S=.ok (.str<|a++b) S:=ki<|by rw[bH];exact h
def Vs{k:Nat}(h:k<26):mV ⟨#[97+k]⟩:=⟨by show 1<=1;decide,by show 1<=8;decide,λc hc=>by
 have:c=97+k:=by simpa[C]using hc
 omega⟩
abbrev Lw (n:Nat)(x:Str):Prop:=x.length<=n/\∀c∈C x,97<=c/\c<=122
def GJ{S:gr}{n:Int}(h:rO S b)(h1:1<=n)(h2:n<=41):∃(L:Nat) (S':gr) (nm:ba),kF [.ref b,.int n] S=.ok (.ref L) S'/\gn S' L=some (nm.map .str)/\nm.length=n.toNat/\(∀x∈nm,mV x)/\nm.Nodup/\S.length<=L/\rO S' b/\Kp (·=b) S S':=by
 have hbS:b<S.length:=by obtain⟨_,_,e,_⟩:=h;exact iA e
 obtain⟨a,S1,e1,a0,a1,hb1,k1⟩:=digit (m:=2) h ⋯ ⋯;obtain⟨B,S2,e2,B0,B1,hb2,k2⟩:=digit (m:=26) hb1 ⋯ ⋯;obtain⟨J,h3⟩:∃J,J=S2++[O.lst [A.str ⟨#[97+B.toNat]⟩]]:=⟨_,rfl⟩;have k12:=k1.trans k2;have l12:=k12.len;have w3:gn J S2.length=some ([(⟨#[97+B.toNat]⟩:Str)].map .str):=by rw[h3];exact gK
 have k3:Kp (·=b) S J:=by rw[h3];exact k12.lay
 have hb3:rO J b:=by rw[h3];exact hb2.kp (c:=λ_=>False) Kp.refl.lay λz=>z
 have q0:jq (.str<|PySem.Str.ofString "abcdefghijklmnopqrstuvwxyz") (.int B) S2=.ok (.str ⟨#[97+B.toNat]⟩) S2:=CK (by omega) (by omega);unfold kF pT pD;dsimp[gV,mS,bools,iR,Nat.reduceAdd,Nat.reduceSub,e1,e2,q0];rw[<- h3];refine u5 (lo:=1) (hi:=n) (S1:=J) (HS (S:=J) (S1:=J) (S2:=J) (by dsimp[gV,bools]) (by dsimp[gV,bools]) (yT (by omega)<|by omega)<|yT (by omega)<|by omega)
  (λi τ S'=>∃(x6 x7 x8 p:A) (fs:ba),τ=[.ref b,.int n,.str FI,.int a,.int B,.ref S2.length,x6,x7,x8,p]/\gn S' S2.length=some (fs.map .str)/\fs.map (Ba a.toNat)=(List.range<|i+1).map (yE a.toNat B.toNat)/\(∀x∈fs,mV x)/\rO S' b/\Kp (·=b) S S')
  (λr=>∃(L:Nat) (S':gr) (nm:ba),RS.end (RS.seq r<|ie<|gi 5)=.ok (.ref L) S'/\gn S' L=some (nm.map .str)/\nm.length=n.toNat/\(∀x∈nm,mV x)/\nm.Nodup/\S.length<=L/\rO S' b/\Kp (·=b) S S') ⟨_,_,_,_,[⟨#[97+B.toNat]⟩],rfl,w3,?_,?_,hb3,k3⟩ ?_ ?_
 ·show[Ba a.toNat ⟨#[97+B.toNat]⟩]=[yE a.toNat B.toNat 0];unfold Ba yE;rw[aR rfl];split<;>rfl
 ·intro x hx;rw[a_]at hx;rw[hx];exact Vs (by omega)
 ·rintro i τ V hi ⟨x6,x7,x8,p,fs,rfl,w4,Z,hn,K,k4⟩;left;have hfl:fs.length=i+1:=by
   have:=cO List.length Z;simpa using this
  obtain⟨j,hj⟩:∃j:Nat,j=i+1:=⟨_,rfl⟩;have ej:(1+(i:Int))=(j:Int):=by omega
  have m1:sF (.int<|B+(1+(i:Int))) (.int 26) V=.ok (.int<|(B+(1+(i:Int))) % 26) V:=v_ ⋯;have m2:wm (.int<|B+(1+(i:Int))) (.int 26) V=.ok (.int<|(B+(1+(i:Int))) / 26) V:=yC ⋯ ⋯;have p1:∀T:gr,jq (.str FI) (.int<|(B+(1+(i:Int))) % 26) T=.ok (.str ⟨#[97+(B.toNat+j) % 26]⟩) T:=λT=>CK (by omega) (by omega);have p2:∀T:gr,jq (.str FI) (.int<|(B+(1+(i:Int))) / 26) T=.ok (.str ⟨#[97+(B.toNat+j) / 26]⟩) T:=λT=>CK (by omega) (by omega);have pa:∀T:gr,iF (.str ⟨#[97+(B.toNat+j) % 26]⟩) (.str ⟨#[97+(B.toNat+j) / 26]⟩) T=.ok (.str ⟨#[97+(B.toNat+j) % 26,97+(B.toNat+j) / 26]⟩) T:=λT=>rP (show 1+1<=16777216 by decide);obtain⟨pr,U⟩:∃pr:Str,pr=⟨#[97+(B.toNat+j) % 26,97+(B.toNat+j) / 26]⟩:=⟨_,rfl⟩;have G:C pr=My B.toNat j:=by rw[U];rfl
  have lpr:pr.length=2:=by rw[U];rfl
  rw[<- U]at pa;unfold qD;dsimp[gV,mS,bools,m1,m2,p1,p2,pa];obtain⟨m,S5,e5,d0,d1,hb5,k5⟩:=digit (m:=7) K ⋯ ⋯;refine u5 (lo:=0) (hi:=m) (S1:=S5) (vX (by dsimp[gV,bools,e5])<|yT (by omega)<|by omega)
   (λq τ S'=>∃(p:A) (lt:Str),τ=[.ref b,.int n,.str FI,.int a,.int B,.ref S2.length,.int<|1+(i:Int),.str pr,.str lt,p]/\Lw q lt/\gn S' S2.length=some (fs.map .str)/\rO S' b/\Kp (·=b) S S')
   (λr=>∃Y S',RS.seq r (qF<|Ql oK (gi 5)<|gj (gB jq (mG<|gj (gB iF (gi 8)<|gi 7)<|gj (gB iF (gi 7)<|gi 8) gv)<|gi 3) gv)=.nx Y S'/\∃(x6 x7 x8 p:A) (fs:ba),Y=[.ref b,.int n,.str FI,.int a,.int B,.ref S2.length,x6,x7,x8,p]/\gn S' S2.length=some (fs.map .str)/\fs.map (Ba a.toNat)=(List.range<|i+1+1).map (yE a.toNat B.toNat)/\(∀x∈fs,mV x)/\rO S' b/\Kp (·=b) S S')
   ⟨_,Str.ofString "",rfl,⟨by show 0<=0;decide,λc hc=>by cases hc⟩,k5.lst _ _ (by have:=iA w3;omega) w4,hb5,k4.trans k5⟩ ?_ ?_
  ·rintro q τ F hq ⟨p,lt,rfl,k,w6,P,k6⟩;left;obtain⟨d,S7,e7,d0,d1,hb7,k7⟩:=digit (m:=26) P ⋯ ⋯;have px:jq (.str FI) (.int d) S7=.ok (.str ⟨#[97+d.toNat]⟩) S7:=CK (by omega) (by omega);have pd:iF (.str lt) (.str ⟨#[97+d.toNat]⟩) S7=.ok (.str<|lt++⟨#[97+d.toNat]⟩) S7:=rP (by have:=k.1;show lt.length+1<=_;omega);unfold qy;dsimp[gV,mS,bools,e7,px,pd];refine⟨_,_,rfl,_,_,rfl,⟨?_,?_⟩,k7.lst _ _ (by omega) w6,hb7,k6.trans k7⟩
   ·rw[Tx.mX];have:=k.1;show lt.length+1<=q+1;omega
   ·intro c hc;rw[jk]at hc
    rcases bO.mp hc with z|z
    ·exact k.2 c z
    ·have:c=97+d.toNat:=by simpa[C]using z
     omega
  ·rintro τ F ⟨p,lt,rfl,k,w6,P,k6⟩;have hl6:lt.length<=6:=by have:=k.1;omega
   have pd:iF (.str lt) (.str pr) F=.ok (.str<|lt++pr) F:=rP (by omega);have pe:iF (.str pr) (.str lt) F=.ok (.str<|pr++lt) F:=rP (by omega);obtain⟨new,f⟩:∃new:Str,new=if a=1 then pr++lt else lt++pr:=⟨_,rfl⟩
   have px:lH [A.str<|lt++pr,A.str<|pr++lt] a=some (.str new):=by
    rcases(show a=0\/a=1 by omega)with rfl|rfl
    ·rw[f,aO ⋯];exact QY
    ·rw[f,aR rfl];exact QT
   have w7:gn (F++[O.lst [A.str<|lt++pr,A.str<|pr++lt]]) S2.length=some (fs.map .str):=jL w6;have g3:gd ((fs.map A.str).length<sizeLine) (.ok A.non<|(F++[O.lst [A.str<|lt++pr,A.str<|pr++lt]]).set S2.length<|.lst<|fs.map .str++[.str new])=.ok A.non ((F++[O.lst [A.str<|lt++pr,A.str<|pr++lt]]).set S2.length<|.lst<|fs.map .str++[.str new]):=ki (by rw[aH,bH];omega);have qx:gB jq (mG<|gj (gB iF (gi 8)<|gi 7)<|gj (gB iF (gi 7)<|gi 8) gv) (gi 3) [.ref b,.int n,.str FI,.int a,.int B,.ref S2.length,.int<|1+(i:Int),.str pr,.str lt,p] F=.ok (.str new) (F++[O.lst [A.str<|lt++pr,A.str<|pr++lt]]):=by
    dsimp[gV,mS,bools,pd,pe,g2,gK,px]
   dsimp[gV,mS,bools,w6,↓qx,w7,g3];refine⟨_,_,rfl,_,_,_,_,fs++[new],rfl,?_,?_,?_,?_,?_⟩
   ·rw[bZ];exact jy (iA w7)
   ·rw[bZ,Z,List.range_succ (n:=i+1),bZ];congr 1;show[Ba a.toNat new]=[yE a.toNat B.toNat<|i+1];congr 1;unfold Ba yE;have l2:(C pr).length=2:=by rw[G];rfl
    have ni:¬i+1=0:=by omega
    by_cases c:a=1
    ·have ca:a.toNat=1:=by omega
     rw[aO ni,aR ca,aR ca,<- hj,<- G,f,aR c,jk];rw[fm<|by omega,cQ<|by omega]
    ·have ca:¬a.toNat=1:=by omega
     rw[aO ni,aO ca,aO ca,<- hj,<- G,f,aO c,jk,List.reverse_append];rw[fm<|by rw[dc];omega,cQ<|by rw[dc];omega]
   ·intro x hx
    rcases bO.mp hx with z|z
    ·exact hn x z
    ·rw[a_]at z;have hc:∀c∈C pr,97<=c/\c<=122:=by
      intro c hc;rw[G]at hc;unfold My at hc;simp at hc;omega
     rw[z,f];have la:(if a=1 then pr++lt else lt++pr).length=lt.length+2:=by split<;>rw[Tx.mX]<;>omega
     refine⟨by omega,by omega,λc N=>?_⟩;have:c∈C pr\/c∈C lt:=by
      revert N;split<;>(rw[jk];intro N;rcases bO.mp N with z|z)<;>simp[z]
     exact this.elim (hc c)<|k.2 c
   ·obtain⟨g,st,e,z⟩:=P;exact⟨g,st,by rw[lK<|by omega];exact jL e,z⟩
   ·exact(k6.lay).set (.inr<|by omega)
 ·rintro τ V ⟨x6,x7,x8,p,fs,rfl,w4,Z,hn,K,k4⟩;have hfl:fs.length=(n-1).toNat+1:=by
   have:=cO List.length Z;simpa using this
  refine⟨S2.length,V,fs,?_,w4,by omega,hn,?_,by omega,K,k4⟩
  ·dsimp[gV,bools]
  ·have nd:(fs.map<|Ba a.toNat).Nodup:=by
    rw[Z];exact List.nodup_range.map _ λi j h z=>h<|Ml z
   exact List.Pairwise.of_map (Ba a.toNat) (λx y h e=>h<|by rw[e]) nd
end K88
namespace K88
open PySem L2 Am
def Et{xs:am}(h:uW xs)(J:xs.length<=200):∃S',jb [tI xs] S=.ok (.str<|jH xs) S'/\iX S S':=by
 have j:nV (.str<|PySem.Str.ofString " ") [.ref S.length] (S++[.lst<|(xs.map Tx.tx).map .str])=.ok (.str<|jH xs) (S++[.lst<|(xs.map Tx.tx).map .str]):=y_ (z:=⟨#[32]⟩) gK<|FW h J;have hc:jX [none] (j5<|gi 0) (iC 0) kG (gP (f1 ya)<|gj (gi 0) gv) [tI xs] S=.ok (.ref S.length) (S++[.lst<|(xs.map Tx.tx).map .str]):=by
  unfold tI;have d:(xs.map A.int).map (λx=>match x with | .int i=>A.str (Tx.tx i)|_=>.unb)=(xs.map Tx.tx).map .str:=by rw[cM,cM];rfl
  rw[pC (cap:=[]) (S1:=S) (xs:=xs.map .int) (B_<|by dsimp[gV,bools]) (λx=>match x with | .int i=>.str (Tx.tx i)|_=>.unb) (λx f=>by
   obtain⟨i,hi,rfl⟩:=bR.mp f;dsimp[gV,bools,Kr<|h i hi])<|by rw[aH];omega,d]
 unfold jb rB q_;dsimp[gV,bools,iR,Nat.reduceAdd,Nat.reduceSub,tD,hc,j,ki<|show A.isStr (.str<|PySem.Str.ofString " ")=true from rfl];exact⟨_,rfl,Kp.refl.lay⟩
def Nt(kw x:Str):C (iH [kw,x])=C kw++32::C x:=by
 have:=Sp.kr 32 kw [x];show(Str.join ⟨#[32]⟩ [kw,x]).cps.toList=_;rw[this];simp
def yl(kw x:Str)(ws:ba)(h:ws≠[]):iH (kw::x::ws)=kw++⟨#[32]⟩++x++⟨#[32]⟩++iH ws:=by
 refine se ?_
 cases ws with
 | nil=>exact absurd rfl h
 | cons w ws=>
  rw[jk,jk,jk,jk,show C (iH (kw::x::w::ws))=_ from Sp.kr 32 kw (x::w::ws),show C (iH (w::ws))=_ from Sp.kr 32 w ws];simp[C]
def Hg(x:Str):Str.ofString "show " ++ x=iH ["show",x]:=by
 refine se ?_;rw[jk,Nt,show C (Str.ofString "show ")=C ("show" : Str)++[32]by decide +kernel,bL];rfl
def Jq(x:Str):Str.ofString "drop " ++ x=iH ["drop",x]:=by
 refine se ?_;rw[jk,Nt,show C (Str.ofString "drop ")=C ("drop" : Str)++[32]by decide +kernel,bL];rfl
abbrev p9 (v:Option<|am):A:=match v with
 | some xs=>.str (jH xs)
 | none=>.tup [.str "NoName",.bl true]
abbrev xH (f:Str->Option (am)):Prop:=∀x xs,f x=some xs->∃n:Nat,xs.Perm (iV 1<|(n:Int)+1)/\1<=n/\n<=20
section
variable {S:gr}{d o p:Nat}{nm:ba}{f:Str->Option (am)}{past:Hi}{x:Str}
def Lp (D:Dk S d o p nm f past)(hn:mV x)(hf:xH f):∃S',lW [.ref d,.str<|iH ["show",x]] S=.ok (p9<|f x) S'/\iX S S':=by
 unfold lW qX qY
 cases j:f x with
 | some xs=>
  obtain⟨n,B,h1,g⟩:=hf x xs j;obtain⟨S',e,k⟩:=Jv D hn j B h1 g;have m:jj "Desk" "say" gY (gi 0) (gj (gi 1) gv) [.ref d,.str<|iH ["show",x],.unb] S=.ok (.str<|jH xs) S':=by
   rw[dm D<|by dsimp[gV,bools]];dsimp[gV,bools,e]
  dsimp[gV,mS,bools,iR,Nat.reduceAdd,Nat.reduceSub,m];exact⟨S',rfl,k⟩
 | none=>
  obtain⟨S',e,k⟩:=Hh D hn j;have m:jj "Desk" "say" gY (gi 0) (gj (gi 1) gv) [.ref d,.str<|iH ["show",x],.unb] S=.ex "NoName" S':=by
   rw[dm D<|by dsimp[gV,bools]];dsimp[gV,bools,e]
  have tb:(Mp [("NoPair",false),("NoWord",false),("NoNumber",false),("TooMany",false),("NoText",false),("NoName",true),("NoRow",false)]) (Str.ofString "NoName")=some true:=by decide +kernel
  have g:ie (oX<|gj (eC<|.str<|PySem.Str.ofString "NoName")<|gj (Ak (Mp [("NoPair",false),("NoWord",false),("NoNumber",false),("TooMany",false),("NoText",false),("NoName",true),("NoRow",false)])<|gi 2) gv) ((List.replicate 3 A.unb).set 2<|.exn<|Str.ofString "NoName") S'=.rt (p9 none) S':=by
   have:Ak (Mp [("NoPair",false),("NoWord",false),("NoNumber",false),("TooMany",false),("NoText",false),("NoName",true),("NoRow",false)]) (gi 2) ((List.replicate 3 A.unb).set 2<|.exn<|Str.ofString "NoName") S'=.ok (.bl true) S':=by
    unfold Ak;rw[show gi 2 ((List.replicate 3 A.unb).set 2<|.exn<|Str.ofString "NoName") S'=.ok (.exn<|Str.ofString "NoName") S' from rfl,R.iP];show opt (Mp _<|Str.ofString "NoName") _=_;rw[tb];rfl
   dsimp[gV,mS,bools,iR,Nat.reduceAdd,↓this,g2];rfl
  have c:RS.try 2 3 ["NoPair", "NoWord", "NoNumber", "TooMany", "NoText", "NoName", "NoRow"] (ie<|oX<|gj (eC<|.str<|PySem.Str.ofString "NoName")<|gj (Ak (Mp [("NoPair",false),("NoWord",false),("NoNumber",false),("TooMany",false),("NoText",false),("NoName",true),("NoRow",false)])<|gi 2) gv) (.ex (Str.ofString "NoName") S')=.rt (p9 none) S':=by
   unfold RS.try;dsimp only;rw[aR ∅,g];rfl
  dsimp[gV,mS,bools,iR,Nat.reduceAdd,Nat.reduceSub,m,c];exact⟨S',rfl,k⟩
def Lz(v:Option<|am):m_ true (p9 v) (p9 v) T=.ok (.bl false) T:=by
 have:xG T 12 (p9 v) (p9 v)=some true:=by
  cases v with
  | none=>rfl
  | some xs=>
   show some (jH xs == jH xs)=_;rw[bG]
 unfold m_;rw[this];rfl
def AY{N K:Nat}{ns:ba}(D:Dk S d o p nm f past)(Z:gn S N=some (ns.map .str))(hi:∀x∈ns,mV x)(hK:iI S K=some kvs)(r:Rp nm2 kvs f)(hf:xH f):∃S',jV [.ref d,.ref N,.ref K] S=.ok (.bl true) S'/\iX S S':=by
 unfold jV pN pK;dsimp[gV,mS,bools,iR,Nat.reduceAdd,Nat.reduceSub];refine Dw (n:=N) (xs:=ns.map .str) (S1:=S) (uw (by dsimp[gV,bools]) Z) (λi τ S'=>∃B m,τ=[.ref d,.ref N,.ref K,B,m]/\iX S S') (λr=>∃S',RS.end (RS.seq r<|ie<|eC<|.bl true)=.ok (.bl true) S'/\iX S S') ⟨_,_,rfl,Kp.refl⟩ (λi τ S' h=>by
  obtain⟨_,_,_,k⟩:=h;exact k.lst _ _ (λz=>z) Z) ?_ ?_
 ·rintro i y τ S' hy ⟨B,m,rfl,k⟩;obtain⟨x,g,rfl⟩:∃x,ns[i]?=some x/\y=.str x:=by
   rw[cB]at hy;obtain⟨x,a,b⟩:=aX.mp hy;exact⟨x,a,b.symm⟩
  have hn:=hi x<|bP g;have j:=Kp.ds k K _ (λz=>z) hK;have it:=vB (b:=false) (k:=x) j;rw[r.Qy]at it;have U:∀T:gr,iF (.str<|PySem.Str.ofString "show ") (.str x) T=.ok (.str<|iH ["show",x]) T:=λT=>by
   rw[rP (show(Str.ofString "show ").length+x.length<=16777216 by have:=hn.2.1;rw[show(Str.ofString "show ").length=5 by decide +kernel];omega),Hg]
  refine⟨_,S',rfl,.inl ?_⟩;have F:∃S1,RS.seq (.nx [.ref d,.ref N,.ref K,.str x,.tup [.str "NoName",.bl true]] S') (nM (kh<|gB (vL false) (gi 3)<|gi 2)
 (ir (eFn jb<|gj (gB sf (gi 2)<|gi 3) gv)<|iC 4)
 i8)=.nx [.ref d,.ref N,.ref K,.str x,p9<|f x] S1/\iX S' S1:=by
   cases g:f x with
   | none=>
    rw[g]at it;refine⟨S',?_,Kp.refl⟩;dsimp[gV,mS,bools,it,dO,isSome_none,cW,aO];rfl
   | some xs=>
    rw[g]at it;obtain⟨n,G,h1,L⟩:=hf x xs g;obtain⟨V,ne⟩:=l7 G h1;obtain⟨S1,e1,k1⟩:=Et (S:=S') (yw G L) (by omega);have J:sf (.ref K) (.str x) S'=.ok (tI xs) S':=yS j (by rw[r.at_,g];rfl);refine⟨S1,?_,k1⟩;dsimp[gV,mS,bools,it,dO,eg,cW,aO,J,e1];rfl
  obtain⟨S1,e1,k1⟩:=F;obtain⟨P,e2,k2⟩:=Lp (D.kp (k.trans k1) (λz=>z) (λz=>z) λz=>z) hn hf;refine⟨[.ref d,.ref N,.ref K,.str x,p9<|f x],P,?_,_,_,rfl,(k.trans k1).trans k2⟩;have O:(p9<|f x).i9=false:=by cases f x<;>rfl
  have C:nM (kh<|gB (vL false) (gi 3)<|gi 2) (ir (eFn jb<|gj (gB sf (gi 2)<|gi 3) gv)<|iC 4) i8 [.ref d,.ref N,.ref K,.str x,.tup [.str "NoName",.bl true]] S'=.nx [.ref d,.ref N,.ref K,.str x,p9<|f x] S1:=e1;unfold qz;dsimp[gV,mS,bools,iR,Nat.reduceAdd,g2,↓C,U,e2,uD O,Lz]
 ·rintro τ S' ⟨B,m,rfl,k⟩;exact⟨S',rfl,k⟩
end
end K88
namespace K88
open PySem L2 Am
def wI(xs:ae)(y:A):lH (xs++[y]) (-1)=some y:=by
 unfold lH;have:ve (xs++[y]).length (-1)=some xs.length:=by
  unfold ve;rw[aU];simp;omega
 rw[this];simp
def F3(xs:ae)(y:A):mQ (xs++[y]) none (some<|-1)=xs:=by
 have e0:HT.jY (xs++[y]).length (xs++[y]).length (some<|-1)=xs.length:=by
  show(if (-1:Int)<0 then((-1:Int)+((xs++[y]).length:Int)).toNat else min (-1:Int).toNat (xs++[y]).length)=_;rw[aR ⋯,aU,dD];omega
 unfold mQ;rw[e0];show((xs++[y]).drop 0).take (xs.length-0)=xs;simp
meta abbrev Hs:=List<|Nat×(Str->Option (am))
structure St (S:gr)(R:Nat)(nm:ba)(hs:Hs):Prop where
 ls:gn S R=some (hs.map λh=>A.ref h.1)
 ds:∀h∈hs,∃kvs,iI S h.1=some kvs/\Rp nm kvs h.2
def St.kp{R:Nat}{nm:ba}{hs:Hs}{c:Nat->Prop}(h:St S R nm hs)(k:Kp c S S')(h1:¬c R)(j:∀q∈hs,¬c q.1):St S' R nm hs:=⟨k.lst _ _ h1 h.ls,λq d=>by
 obtain⟨kvs,e,r⟩:=h.ds q d;exact⟨kvs,Kp.ds k _ _ (j q d) e,r⟩⟩
abbrev Act (nm:ba)(f:Str->Option (am))(hs j:Hs)(row:Str):Prop:=
 (row=iH ["undo"]/\j≠[]/\∃h,hs=j++[h]) \/
 (∃x xs K,x∈nm/\f x=some xs/\row=iH ["drop",x]/\j=hs++[(K,nK f x none)]) \/
 (∃x xs k K,x∈nm/\f x=some xs/\1<=k/\k<xs.length/\row=iH ("lead" :: x::yd [k])/\j=hs++[(K,nK f x<|some<|mT xs [k])]) \/
 (∃(x:Str) (xs:am) (n K:Nat),x∈nm/\xs.Perm (iV 1<|(n:Int)+1)/\1<=n/\n<=20/\row=iH ("keep" :: x::xs.map Tx.tx)/\j=hs++[(K,nK f x<|some xs)])
def HM(x:Str){k:Nat}:Str.empty++Str.ofString "lead " ++ x++Str.ofString " " ++ Tx.tx (k:Int)=iH ("lead" :: x::yd [k]):=by
 rw[yl _ _ _<|by unfold yd;simp];refine se ?_;have:C (iH<|yd [k])=C (Tx.tx (k:Int)):=rfl;rw[jk,jk,jk,jk,jk,jk,jk,jk,this,show C (Str.ofString "lead ")=C ("lead" : Str)++[32]by decide +kernel,show C (Str.ofString " ")=[32]by decide +kernel,show C Str.empty=[]from rfl];simp[C]
def F7(x:Str){xs:am}(h:xs≠[]):Str.ofString "keep " ++ x++Str.ofString " " ++ jH xs=iH ("keep" :: x::xs.map Tx.tx):=by
 rw[yl _ _ _<|by simpa using h];refine se ?_;rw[jk,jk,jk,jk,jk,jk,jk,show C (Str.ofString "keep ")=C ("keep" : Str)++[32]by decide +kernel,show C (Str.ofString " ")=[32]by decide +kernel];show _=_++C (iH<|xs.map Tx.tx);simp[C,jH]
def KZ{x:Str}{k:Int}{a c d f:A}(j:mV x)(J:1<=k/\k<=20):Qp [.inl "lead ",.inr<|gi 3,.inl " ",.inr<|gi 7] [a,b,c,.str x,d,e,f,.int k] S=.ok (.str<|Str.empty++Str.ofString "lead " ++ x++Str.ofString " " ++ Tx.tx k) S:=by
 rw[Jd];show R.bind (gd ((Str.ofString "lead ").length<=1000) _) _=_;rw[ki<|show(Str.ofString "lead ").length<=1000 by decide +kernel];show R.bind (R.bind (gi 3 [a,b,c,.str x,d,e,f,.int k] S) _) _=_;rw[show gi 3 [a,b,c,.str x,d,e,f,.int k] S=.ok (.str x) S from rfl,R.iP];show R.bind (gd (x.length<=1000) _) _=_;rw[ki (show x.length<=1000 by have:=j.2.1;omega)];show R.bind (gd ((Str.ofString " ").length<=1000) _) _=_;rw[ki<|show(Str.ofString " ").length<=1000 by decide +kernel];show R.bind (R.bind (gi 7 [a,b,c,.str x,d,e,f,.int k] S) _) _=_;rw[show gi 7 [a,b,c,.str x,d,e,f,.int k] S=.ok (.int k) S from rfl,R.iP];show R.bind (gd (k.natAbs.log2<64) _) _=_;rw[ki (show k.natAbs.log2<64 by
  rw[log2_lt<|by omega];have:k.natAbs<=20:=by omega
  exact Nat.lt_of_le_of_lt this ⋯)]
 rfl
section
variable {S:gr}{b N G:Nat}{nm:ba}{hs:Hs}{K:Nat}{f:Str->Option (am)}
def Ru{T:gr}{Kd:Nat}(w:gn T G=some (hs.map λh=>A.ref h.1))(j:hs.length<=1000){g:Str->Option (am)}:iF (.ref G) (.ref T.length) (T++[O.lst [A.ref Kd]])=.ok (.ref<|T.length+1) (T++[O.lst [A.ref Kd]]++[O.lst<|(hs++[(Kd,g)]).map λh=>A.ref h.1]):=by
 have:=MF (S:=T++[O.lst [A.ref Kd]]) (jL w) gK (by rw[aH];simp;omega);rw[this,bZ];simp
def N9(hb:rO S b)(hN:gn S N=some (nm.map .str))(hn3:nm.length=3)(hi:∀x∈nm,mV x)(hR:St S G nm<|hs++[(K,f)])(hf:xH f)(nN:N≠b)(nR:G≠b)(nh:∀q∈hs++[(K,f)],q.1≠b)(hl:hs.length<=100) :
  ∃(G':Nat) (S':gr) (row:Str) (hs':Hs),kq [.ref b,.ref N,.ref G] S=.ok (.tup [.str row,.ref G']) S'/\S.length<=G'/\St S' G' nm hs'/\(∀q∈hs',q∈hs++[(K,f)]\/S.length<=q.1)/\Kp (·=b) S S'/\Act nm f (hs++[(K,f)]) hs' row:=by
 obtain⟨d,S1,e1,d0,d1,hb1,k1⟩:=digit (m:=3) hb ⋯ ⋯;obtain⟨w,p,e2,w0,w1,hb2,k2⟩:=digit (m:=5) hb1 ⋯ ⋯;have k12:=k1.trans k2;have N1:=k1.lst N _ nN hN;have R2:=hR.kp k12 nR nh;obtain⟨kvs,hK,r⟩:=R2.ds (K,f) (by simp);have hd:d.toNat<nm.length:=by omega
 obtain⟨x,hx⟩:∃x,x=nm[d.toNat]:=⟨_,rfl⟩;have xm:x∈nm:=by rw[hx];exact dX hd
 have xi:=hi x xm;have q1:jq (.ref N) (.int d) S1=.ok (.str x) S1:=by
  show opt (gn S1 N) _=_;rw[N1,gH];have:lH (nm.map A.str) d=some (.str x):=by
   unfold lH;rw[oH (k:=d.toNat) (by omega)<|by rw[aH];exact hd,cK,cB,aL hd,hx];rfl
  rw[this];rfl
 have q2:jq (.ref G) (.int<|-1) p=.ok (.ref K) p:=by
  show opt (gn p G) _=_;rw[R2.ls,gH,bZ];show opt (lH (_++[A.ref K])<|-1) _=_;rw[wI];rfl
 have q3:Bx (.ref K) p=.ok (.ref p.length) (p++[O.jE kvs]):=by
  show opt (iI p K) _=_;rw[hK];rfl
 obtain⟨T,hT⟩:∃T,T=p++[O.jE kvs]:=⟨_,rfl⟩;rw[<- hT]at q3;have k2T:iX p T:=by rw[hT];exact Kp.refl.lay
 have lT:T.length=p.length+1:=by rw[hT];simp
 have kT:Kp (·=b) S T:=k12.trans<|Kp.of0 k2T;have hbT:rO T b:=hb2.kp k2T λz=>z;have RT:=R2.kp k2T (λz=>z) λ_ _ z=>z;have KT:iI T p.length=some kvs:=by rw[hT];exact ly (by simp)
 have l12:=k12.len;have ql:∀U,gn U G=some ((hs++[(K,f)]).map λh=>A.ref h.1)->jf (.ref G) U=.ok (.int<|(hs.length:Int)+1) U:=λU h=>by
  show opt (gn U G) _=_;rw[h,gH];simp
 have J:∀U:gr,vV (.int 1) U=.ok (.int<|-1) U:=λU=>rfl;have it:=vB (b:=false) (k:=x) KT;rw[r.Qy]at it;dsimp[cW,dO]at it;have gx:xD wk (gi 5) (gj (gi 3)<|gj (oX gv) gv) [.ref b,.ref N,.ref G,.str x,.int w,.ref p.length,.unb,.unb] T=.ok ((gT kvs x).getD<|.tup []) T:=by
  rw[Bu (n:=p.length) (kvs:=kvs) (by dsimp[gV,bools]) KT];have gz:∀U:gr,oX gv [.ref b,.ref N,.ref G,.str x,.int w,.ref p.length,.unb,.unb] U=.ok (.tup []) U:=λU=>by
   show(R.ok ([]:ae) U).bind _=_;rw[R.iP];exact ki ⋯
  have gm:wk (.ref p.length) [.str x,.tup []] T=.ok ((gT kvs x).getD<|.tup []) T:=by
   show opt (iI T p.length) _=_;rw[KT];rfl
  dsimp[gV,bools,↓gz,gm]
 have um:∀v,((gT kvs x).getD<|.tup [])=tI v->(tI v).i9=false:=λv _=>rfl;have bw:∀(j:Int) (U:gr),m_ false (.int w) (.int j) U=.ok (.bl<|w == j) U:=λj U=>by
  have:xG U 12 (.int w) (.int j)=some (w == j):=rfl;rw[vQ this]
 have gt1:Bg (.int<|(hs.length:Int)+1) (.int 1) T=.ok (.bl<|decide<|(1:Int)<(hs.length:Int)+1) T:=by dsimp[gV]
 unfold kq ug uh;by_cases u:w=0/\hs≠[]
 ·obtain⟨rfl,hne⟩:=u;have hpos:=List.length_pos_iff.mpr hne;have cu:mQ ((hs++[(K,f)]).map λh=>A.ref h.1) none (some<|-1)=hs.map λh=>A.ref h.1:=by
   rw[bZ];exact F3 _ _
  dsimp[gV,mS,bools,iR,Nat.reduceAdd,Nat.reduceSub,e1,q1,e2,J,q2,q3,bw,bG,ql T RT.ls,gt1,bB<|show(1:Int)<(hs.length:Int)+1 by omega,RT.ls,cu,g2];refine⟨T.length,T++[O.lst<|hs.map λh=>A.ref h.1],iH ["undo"],hs,rfl,by omega,⟨gK,λq Y=>?_⟩,λq Y=>.inl<|bK _ Y,kT.lay,.inl ⟨rfl,hne,_,rfl⟩⟩;exact(RT.kp (Kp.refl.lay:iX T<|T++[O.lst<|hs.map λh=>A.ref h.1]) (λz=>z) λ_ _ z=>z).ds q (bK _ Y)
 have GS:G<S.length:=iA hR.ls;have qS:∀q∈hs++[(K,f)],q.1<S.length:=λq Y=>by
  obtain⟨kv,e,_⟩:=hR.ds q Y;exact kj<|g7 e
 have bS:b<S.length:=by obtain⟨_,_,e,_⟩:=hb;exact iA e
 have fin:∀(U:gr) (g:Str->Option (am)) (C:List<|Str×A),Kp (·=b) S U->p.length<U.length->St U G nm (hs++[(K,f)])->iI U p.length=some C->Rp nm C g ->
   St (U++[O.lst [A.ref p.length]]++[O.lst<|(hs++[(K,f)]++[(p.length,g)]).map λh=>A.ref h.1]) (U.length+1) nm (hs++[(K,f)]++[(p.length,g)])/\(∀q∈hs++[(K,f)]++[(p.length,g)],q∈hs++[(K,f)]\/S.length<=q.1)/\Kp (·=b) S (U++[O.lst [A.ref p.length]]++[O.lst<|(hs++[(K,f)]++[(p.length,g)]).map λh=>A.ref h.1]):=λU g C kU B sU dU rU=>by
  have k0:iX U (U++[O.lst [A.ref p.length]]++[O.lst<|(hs++[(K,f)]++[(p.length,g)]).map λh=>A.ref h.1]):=Kp.refl.lay.lay;refine⟨⟨?_,λq Y=>?_⟩,λq Y=>?_,kU.lay.lay⟩
  ·have:=gK (S:=U++[O.lst [A.ref p.length]]) (xs:=(hs++[(K,f)]++[(p.length,g)]).map λh=>A.ref h.1);rw[aU]at this;exact this
  ·rcases bO.mp Y with z|z
   ·exact(sU.kp k0 (λz=>z) λ_ _ z=>z).ds q z
   ·rw[a_]at z;rw[z];exact⟨C,Kp.ds k0 _ _ (λz=>z) dU,rU⟩
  ·rcases bO.mp Y with z|z
   ·exact .inl z
   ·rw[a_]at z;rw[z];exact .inr l12
 have cat:∀(U:gr) (g:Str->Option (am)),gn U G=some ((hs++[(K,f)]).map λh=>A.ref h.1)->iF (.ref G) (.ref U.length) (U++[O.lst [A.ref p.length]])=.ok (.ref<|U.length+1) (U++[O.lst [A.ref p.length]]++[O.lst<|(hs++[(K,f)]++[(p.length,g)]).map λh=>A.ref h.1]):=λU g w=>Ru (hs:=hs++[(K,f)]) w (by rw[aU,dD];omega);have sset:∀(U:gr) (C:List<|Str×A),St U G nm (hs++[(K,f)])->St (U.set p.length<|.jE C) G nm (hs++[(K,f)]):=λU C sU=>sU.kp (c:=λn=>n=p.length) (Kp.refl.uZ<|.inl rfl) (by omega) λq Y=>by have:=qS q Y;omega
 have t0:qp (kh<|gB (m_ false) (gi 4)<|eC<|.int 0) (kh<|gB Bg (gP (f1 jf)<|gj (gi 2) gv)<|eC<|.int 1) [.ref b,.ref N,.ref G,.str x,.int w,.ref p.length,.unb,.unb] T=.ok false T:=by
  unfold qp;by_cases z:w=0
  ·subst z;have:hs=[]:=by
    by_cases hh:hs=[]
    ·exact hh
    ·exact absurd ⟨rfl,hh⟩ u
   have e:gn T G=some [A.ref K]:=by rw[RT.ls,this];rfl
   dsimp[gV,bools,bw,bG,e,iR,Nat.reduceAdd,bE<|show ¬(1:Int)<((1:Nat):Int)by decide]
  ·dsimp[gV,bools,bw,bN.mpr z]
 by_cases v1:w=1/\(f x).isSome=true
 ·obtain⟨rfl,hs1⟩:=v1;obtain⟨xs,P⟩:=cL.mp hs1;have lk:gT kvs x=some (tI xs):=by rw[r.at_];show(f x).map tI=_;rw[P];rfl
  have pp:xD DF (gi 5) (gj (gi 3) gv) [.ref b,.ref N,.ref G,.str x,.int 1,.ref p.length,.unb,.unb] T=.ok (tI xs) (T.set p.length<|.jE<|j8 kvs x):=by
   rw[Bu (n:=p.length) (kvs:=kvs) (by dsimp[gV,bools]) KT];have gm:DF (.ref p.length) [.str x] T=.ok (tI xs) (T.set p.length<|.jE<|j8 kvs x):=by
    show opt (iI T p.length) _=_;rw[KT,gH,lk];rfl
   dsimp[gV,bools,gm]
  obtain⟨U,B⟩:∃U,U=T.set p.length (.jE<|j8 kvs x):=⟨_,rfl⟩;have lU:U.length=T.length:=by rw[B,bx]
  have sU:St U G nm (hs++[(K,f)]):=by rw[B];exact sset T _ RT
  have kU:Kp (·=b) S U:=by rw[B];exact kT.uZ (.inr l12)
  obtain⟨f1,f2,f3⟩:=fin U (nK f x none) (j8 kvs x) kU (by omega) sU (by rw[B];exact t6<|by omega)<|r.drop x;rw[<- B]at pp;have ad:∀V:gr,iF (.str<|PySem.Str.ofString "drop ") (.str x) V=.ok (.str<|iH ["drop",x]) V:=λV=>by
   rw[rP (show(Str.ofString "drop ").length+x.length<=16777216 by have:=xi.2.1;rw[show(Str.ofString "drop ").length=5 by decide +kernel];omega),Jq]
  rw[hs1]at it;dsimp[gV,mS,bools,iR,Nat.reduceAdd,Nat.reduceSub,e1,q1,e2,J,q2,q3,↓t0,bw,bG,it,↓pp,ad,cat U (nK f x none) sU.ls,g2];exact⟨_,_,iH ["drop",x],_,rfl,by omega,f1,f2,f3,.inr<|.inl ⟨x,xs,_,xm,P,rfl,rfl⟩⟩
 have t1:qp (kh<|gB (m_ false) (gi 4)<|eC<|.int 1) (kh<|gB (vL false) (gi 3)<|gi 5) [.ref b,.ref N,.ref G,.str x,.int w,.ref p.length,.unb,.unb] T=.ok false T:=by
  unfold qp;by_cases z:w=1
  ·subst z;have:(f x).isSome=false:=by
    cases hh:(f x).isSome with
    | false=>rfl
    | true=>exact absurd ⟨rfl,hh⟩ v1
   rw[this]at it;dsimp[gV,bools,bw,bG,it]
  ·dsimp[gV,bools,bw,bN.mpr z]
 have t2:∀bb:Bool,(bb=true ↔ w=2/\∃xs,f x=some xs/\1<xs.length)->qp (kh<|gB (m_ false) (gi 4)<|eC<|.int 2) (kh<|gB Bg (gP (f1 jf)<|gj (xD wk (gi 5)<|gj (gi 3)<|gj (oX gv) gv) gv)<|eC<|.int 1) [.ref b,.ref N,.ref G,.str x,.int w,.ref p.length,.unb,.unb] T=.ok bb T:=λbb hbb=>by
  unfold qp;by_cases z:w=2
  ·subst z
   cases hx':f x with
   | none=>
    have:bb=false:=by
     cases bb with
     | false=>rfl
     | true=>obtain⟨_,xs,e,_⟩:=hbb.mp rfl;rw[hx']at e;cases e
    subst this;have lk:(gT kvs x).getD (.tup [])=.tup []:=by rw[r.at_];show((f x).map tI).getD _=_;rw[hx'];rfl
    rw[lk]at gx;have al:jf (.tup []) T=.ok (.int 0) T:=rfl;have ag:Bg (.int 0) (.int 1) T=.ok (.bl false) T:=by dsimp[gV,bE<|show ¬(1:Int)<0 by decide]
    dsimp[gV,bools,bw,bG,↓gx,al,ag]
   | some xs=>
    have lk:(gT kvs x).getD (.tup [])=tI xs:=by rw[r.at_];show((f x).map tI).getD _=_;rw[hx'];rfl
    rw[lk]at gx;have al:jf (tI xs) T=.ok (.int xs.length) T:=by show R.ok (A.int ((xs.map A.int).length:Nat)) T=_;rw[aH]
    have hb2:bb=decide ((1:Int)<(xs.length:Int)):=by
     by_cases c:1<xs.length
     ·rw[bB<|by omega];exact hbb.mpr ⟨rfl,xs,hx',c⟩
     ·rw[bE<|by omega]
      cases bb with
      | false=>rfl
      | true=>obtain⟨_,ys,e,l⟩:=hbb.mp rfl;rw[hx']at e;cases e;exact absurd l c
    have ag:Bg (.int xs.length) (.int 1) T=.ok (.bl bb) T:=by rw[hb2];dsimp[gV]
    dsimp[gV,bools,bw,bG,↓gx,al,ag]
  ·have:bb=false:=by
    cases bb with
    | false=>rfl
    | true=>exact absurd (hbb.mp rfl).1 z
   subst this;dsimp[gV,bools,bw,bN.mpr z]
 by_cases v2:w=2/\∃xs,f x=some xs/\1<xs.length
 ·have t2:=t2 true ⟨λ_=>v2,λ_=>rfl⟩;obtain⟨rfl,xs,P,hx1⟩:=v2;obtain⟨n,px,n1,n2⟩:=hf x xs P;obtain⟨lx,ne⟩:=l7 px n1;have lk:gT kvs x=some (tI xs):=by rw[r.at_];show(f x).map tI=_;rw[P];rfl
  have ix:sf (.ref p.length) (.str x) T=.ok (tI xs) T:=yS KT lk;obtain⟨T1,hT1⟩:∃T1,T1=T++[O.lst<|xs.map A.int]:=⟨_,rfl⟩;have al:pM (tI xs) T=.ok (.ref T.length) T1:=by rw[hT1];rfl
  have w1':gn T1 T.length=some (xs.map .int):=by rw[hT1];exact gK
  have Z:iX T T1:=by rw[hT1];exact Kp.refl.lay
  have lT1:T1.length=T.length+1:=by rw[hT1];simp
  have ql1:jf (.ref T.length) T1=.ok (.int xs.length) T1:=by show opt (gn T1 T.length) _=_;rw[w1',gH];simp
  obtain⟨d',T2,e3,k0,kl,hb3,F⟩:=digit (S:=T1) (b:=b) (m:=(xs.length:Int)-1) (hbT.kp Z λz=>z) (by omega) (by omega);obtain⟨k,hk⟩:∃k:Nat,(k:Int)=1+d':=⟨(1+d').toNat,by omega⟩;have hk1:1<=k:=by omega
  have hk2:k<xs.length:=by omega
  have w2':=F.lst T.length _ (by omega) w1';have a1:lH (xs.map A.int) (k:Int)=some (.int<|xs.getD k 0):=Ss rfl (by omega);have a2:lH (xs.map A.int) ((k:Int)-1)=some (.int<|xs.getD (k-1) 0):=Ss (k:=k-1) (by omega) (by omega);have x1:ve xs.length ((k:Int)-1)=some (k-1):=oH (by omega) (by omega);have x2:ve xs.length (k:Int)=some k:=oH rfl (by omega);have l2':=iA w2';have lS:∀ys,gn (T2.set T.length<|.lst ys) T.length=some ys:=λys=>jy l2';obtain⟨T3,hT3⟩:∃T3,T3=(T2.set T.length<|.lst<|(xs.map A.int).set (k-1)<|.int<|xs.getD k 0).set T.length (.lst<|(Wd.ex xs k).map .int):=⟨_,rfl⟩;have w3':gn T3 T.length=some ((Wd.ex xs k).map .int):=by rw[hT3];exact jy (by rw[bx];exact l2')
  have k3:Kp (λn=>n=T.length) T2 T3:=by rw[hT3];exact((Kp.refl (b:=λn=>n=T.length)).set<|.inl rfl).set (.inl rfl)
  have lT3:T3.length=T2.length:=by rw[hT3,bx,bx]
  have lT2:=F.len;have K3:iI T3 p.length=some kvs:=Kp.ds k3 _ _ (by omega) (Kp.ds F _ _ (by omega)<|Kp.ds Z _ _ (λz=>z) KT);have s3:St T3 G nm (hs++[(K,f)]):=((RT.kp Z (λz=>z) λ_ _ z=>z).kp F nR nh).kp k3 (by omega) λq Y=>by have:=qS q Y;omega
  have tup:mK (.ref T.length) T3=.ok (tI<|mT xs [k]) T3:=by show opt (gn T3 T.length) _=_;rw[w3',gH];rfl
  obtain⟨U,B⟩:∃U,U=T3.set p.length (.jE<|lI kvs x<|tI<|mT xs [k]):=⟨_,rfl⟩;have rl:=r.len;have st:qw (.ref p.length) (.str x) (tI<|mT xs [k]) T3=.ok Unit.unit U:=by rw[B];exact vg K3 (by omega)
  have lU:U.length=T3.length:=by rw[B,bx]
  have sU:St U G nm (hs++[(K,f)]):=by rw[B];exact sset T3 _ s3
  have kU:Kp (·=b) S U:=by rw[B];exact(((kT.trans<|Kp.of0 Z).trans F).old k3 λn a _=>by omega).uZ (.inr l12)
  obtain⟨f1,f2,f3⟩:=fin U (nK f x<|some<|mT xs [k]) (lI kvs x<|tI<|mT xs [k]) kU (by omega) sU (by rw[B];exact t6<|by omega)<|r.put xm _;have fv:=KZ (S:=U) (x:=x) (k:=(k:Int)) (a:=.ref b) (b:=.ref N) (c:=.ref G) (d:=.int 2) (e:=.ref p.length) (f:=.ref T.length) xi (by omega);rw[HM]at fv;dsimp[gV,mS,bools,iR,Nat.reduceAdd,Nat.reduceSub,e1,q1,e2,J,q2,q3,↓t0,↓t1,↓t2,ix,al,ql1,e3,<- hk,w2',a1,a2,g2,jo<|show 2=2 from rfl,aH,x1,lS,bx,x2,EH,<- hT3,tup,vm,st,↓fv,cat U (nK f x<|some<|mT xs [k]) sU.ls];exact⟨_,_,iH ("lead" :: x::yd [k]),_,rfl,by omega,f1,f2,f3,.inr<|.inr<|.inl ⟨x,xs,k,_,xm,P,hk1,hk2,rfl,rfl⟩⟩
 have t2:=t2 false ⟨λz=>(by cases z),λz=>absurd z v2⟩;obtain⟨d',T1,e3,k0,kl,hb3,Z⟩:=digit (S:=T) (m:=20) hbT ⋯ ⋯;obtain⟨n,hn⟩:∃n:Nat,(n:Int)=1+d':=⟨(1+d').toNat,by omega⟩;have n1:1<=n:=by omega
 have n2:n<=20:=by omega
 obtain⟨xs,T2,e4,px,hb4,F⟩:=Ku (S:=T1) (n:=(n:Int)) hb3 (by omega) (by omega);obtain⟨lx,ne⟩:=l7 px n1;have e4:jT [.ref b,.int (n:Int)] T1=.ok (tI xs) T2:=e4;have L:=Z.trans F;have lT2:=L.len;have K2:iI T2 p.length=some kvs:=Kp.ds L _ _ (by omega) KT;have rl:=r.len;obtain⟨U,B⟩:∃U,U=T2.set p.length (.jE<|lI kvs x<|tI xs):=⟨_,rfl⟩;have st:qw (.ref p.length) (.str x) (tI xs) T2=.ok Unit.unit U:=by rw[B];exact vg K2 (by omega)
 have lU:U.length=T2.length:=by rw[B,bx]
 have sU:St U G nm (hs++[(K,f)]):=by rw[B];exact sset T2 _ (RT.kp L nR nh)
 have kU:Kp (·=b) S U:=by rw[B];exact(kT.trans L).uZ (.inr l12)
 have rU:Rp nm (lI kvs x<|tI xs) (nK f x<|some xs):=r.put xm xs;have dU:iI U p.length=some (lI kvs x<|tI xs):=by rw[B];exact t6 (by omega)
 have ix:sf (.ref p.length) (.str x) U=.ok (tI xs) U:=yS dU (by rw[yi,aR rfl]);obtain⟨V,e5,kV⟩:=Et (S:=U) (yw px n2) (by omega);have lV:=kV.len;have sV:=sU.kp kV (λz=>z) λ_ _ z=>z;have a1:∀W:gr,iF (.str<|PySem.Str.ofString "keep ") (.str x) W=.ok (.str<|Str.ofString "keep " ++ x) W:=λW=>rP (by have:=xi.2.1;rw[show(Str.ofString "keep ").length=5 by decide +kernel];omega);have l5:(Str.ofString "keep " ++ x).length=5+x.length:=by rw[Tx.mX,show(Str.ofString "keep ").length=5 by decide +kernel]
 have a2:∀W:gr,iF (.str<|Str.ofString "keep " ++ x) (.str<|PySem.Str.ofString " ") W=.ok (.str<|Str.ofString "keep " ++ x++Str.ofString " ") W:=λW=>rP (by have:=xi.2.1;rw[show(Str.ofString " ").length=1 by decide +kernel];omega);have a3:∀W:gr,iF (.str<|Str.ofString "keep " ++ x++Str.ofString " ") (.str<|jH xs) W=.ok (.str<|iH ("keep" :: x::xs.map Tx.tx)) W:=λW=>by
  rw[rP (by
   have:=xi.2.1;have:=Nj (yw px n2) (show xs.length<=200 by omega);rw[Tx.mX,show(Str.ofString " ").length=1 by decide +kernel];omega),F7 x ne]
 obtain⟨f1,f2,f3⟩:=fin V (nK f x<|some xs) _ (kU.trans<|Kp.of0 kV) (by omega) sV (Kp.ds kV _ _ (λz=>z) dU) rU;have um:(tI xs).i9=false:=rfl;dsimp[gV,mS,bools,iR,Nat.reduceAdd,Nat.reduceSub,e1,q1,e2,J,q2,q3,↓t0,↓t1,↓t2,e3,<- hn,e4,vm,st,a1,a2,a3,ix,e5,cat V (nK f x<|some xs) sV.ls,g2];exact⟨_,_,iH ("keep" :: x::xs.map Tx.tx),_,rfl,by omega,f1,f2,f3,.inr<|.inr<|.inr ⟨x,xs,n,_,xm,px,n1,n2,rfl,rfl⟩⟩
end
end K88
namespace K88
open PySem L2 Am
inductive Ch (nm:ba):Hs->(Str->Option (am))->Hi->Prop
 | nil {f:Str->Option (am)} (h:xH f):Ch nm [] f []
 | snoc {hs:Hs} {K:Nat} {g:Str->Option (am)} {x:Str} {v:Option<|am} {past:Hi} (c:Ch nm hs g past) (hx:x∈nm) (hv:g x=none->v.isSome=true) (h:xH<|nK g x v):Ch nm (hs++[(K,g)]) (nK g x v)<|past++[(x,g x)]
def Ch.Ob{nm:ba}{hs:Hs}{f:Str->Option (am)}{past:Hi}(c:Ch nm hs f past):xH f:=by cases c<;>assumption
def Ch.len{nm:ba}{hs:Hs}{f:Str->Option (am)}{past:Hi}(c:Ch nm hs f past):past.length=hs.length:=by
 induction c with
 | nil=>rfl
 | snoc _ _ _ _ d=>rw[aU,aU,d];rfl
def Ch.inv{nm:ba}{hs:Hs}{f:Str->Option (am)}{past:Hi}(c:Ch nm hs f past):(hs=[]/\past=[])\/∃hs' K g x v past',hs=hs'++[(K,g)]/\past=past'++[(x,g x)]/\f=nK g x v/\x∈nm/\(g x=none->v.isSome=true)/\Ch nm hs' g past':=by
 cases c with
 | nil h=>exact .inl ⟨rfl,rfl⟩
 | snoc c d hv h=>exact .inr ⟨_,_,_,_,_,_,rfl,rfl,rfl,d,hv,c⟩
structure Dsk where
 d:Nat
 o:Nat
 p:Nat
 R:Nat
 K:Nat
 f:Str->Option (am)
 past:Hi
 hs:Hs
structure Gd (S:gr)(nm:ba)(a:Dsk):Prop where
 dk:Dk S a.d a.o a.p nm a.f a.past
 st:St S a.R nm (a.hs++[(a.K,a.f)])
 ch:Ch nm a.hs a.f a.past
 no:∀q∈a.hs++[(a.K,a.f)],q.1≠a.o
 pR:a.p≠a.R
structure Ap (a b:Dsk):Prop where
 d:a.d≠b.d
 o:a.o≠b.o
 p:a.p≠b.p
 r1:a.p≠b.R
 r2:b.p≠a.R
 h1:∀q∈b.hs++[(b.K,b.f)],q.1≠a.o
 h2:∀q∈a.hs++[(a.K,a.f)],q.1≠b.o
def Ap.symm{a:Dsk}(h:Ap a b):Ap b a:=⟨h.d.symm,h.o.symm,h.p.symm,h.r2,h.r1,h.h2,h.h1⟩
def oz{n d:Nat}{c:Str}{fs:List<|Str×A}(h:gn S n=some xs)(h':S[d]?=some (.obj c fs)):n≠d:=λz=>by
 have:=gF h;rw[z,h']at this;cases this
def mO{n d:Nat}(h:gn S n=some xs)(h':iI S d=some kvs):n≠d:=λz=>by
 have:=gF h;rw[z,g7 h']at this;cases this
def zD{n d:Nat}{c:Str}{fs:List<|Str×A}(h:iI S n=some kvs)(h':S[d]?=some (.obj c fs)):n≠d:=λz=>by
 have:=g7 h;rw[z,h']at this;cases this
def Gd.kp{nm:ba}{a:Dsk}{c:Nat->Prop}(g:Gd S nm a)(k:Kp c S S')(h1:¬c a.d)(j:¬c a.o)(J:¬c a.p)(L:¬c a.R)(U:∀q∈a.hs++[(a.K,a.f)],¬c q.1):Gd S' nm a:=⟨g.dk.kp k h1 j J,g.st.kp k L U,g.ch,g.no,g.pR⟩
def Gd.lt{S:gr}{nm:ba}{a:Dsk}(g:Gd S nm a):a.d<S.length/\a.o<S.length/\a.p<S.length/\a.R<S.length/\∀q∈a.hs++[(a.K,a.f)],q.1<S.length:=by
 obtain⟨kvs,j,_⟩:=g.dk.od;refine⟨kj g.dk.ob,kj<|g7 j,iA g.dk.ps,iA g.st.ls,λq k=>?_⟩;obtain⟨m,e,_⟩:=g.st.ds q k;exact kj<|g7 e
def CN{S:gr}{nm:ba}:∃S',rT "Desk" gZ τ S=.ok (.ref S.length) S'/\Dk S' S.length (S.length+1) (S.length+2) nm (λ_=>none) []/\iX S S'/\S'.length=S.length+3:=by
 obtain⟨S1,h1⟩:∃S1,S1=S++[O.obj "Desk" []]:=⟨_,rfl⟩;have B:S1.length=S.length+1:=by rw[h1];simp
 have F:S1[S.length]?=some (.obj "Desk" []):=by rw[h1];simp
 obtain⟨g,p⟩:∃g,g=S1++[O.jE []]:=⟨_,rfl⟩;have P:g.length=S.length+2:=by rw[p];simp[B]
 have L:g[S.length]?=some (.obj "Desk" []):=by rw[p,aS<|by omega];exact F
 have e1:Am.wY "Desk" "orders" (gi 0) nE [.ref S.length] S1=.nx [.ref S.length] (g.set S.length<|.obj "Desk" [("orders",.ref<|S.length+1)]):=by
  rw[yR (S1:=g) (y:=.ref S1.length) (n:=S.length) (fs:=[]) (by rw[p];rfl) rfl L<|by simp,B];rfl
 obtain⟨f,m⟩:∃f,f=g.set S.length (.obj "Desk" [("orders",.ref<|S.length+1)]):=⟨_,rfl⟩;have C:f.length=S.length+2:=by rw[m,bx,P]
 have G:f[S.length]?=some (.obj "Desk" [("orders",.ref<|S.length+1)]):=by rw[m,bu<|by omega]
 obtain⟨d,j⟩:∃d,d=f++[O.lst []]:=⟨_,rfl⟩;have J:d.length=S.length+3:=by rw[j];simp[C]
 have K:d[S.length]?=some (.obj "Desk" [("orders",.ref<|S.length+1)]):=by rw[j,aS<|by omega];exact G
 have e2:Am.wY "Desk" "past" (gi 0) (mG gv) [.ref S.length] f=.nx [.ref S.length] (d.set S.length<|.obj "Desk" [("orders",.ref<|S.length+1),("past",.ref<|S.length+2)]):=by
  rw[yR (S1:=d) (y:=.ref f.length) (n:=S.length) (fs:=[("orders",.ref<|S.length+1)]) (by rw[j];dsimp[gV,bools]) rfl K<|by simp,C];rfl
 rw[<- m]at e1;have i:gZ [.ref S.length] S1=.ok .non (d.set S.length<|.obj "Desk" [("orders",.ref<|S.length+1),("past",.ref<|S.length+2)]):=by
  unfold gZ kM kJ;dsimp[gV,mS,bools,iR,Nat.reduceAdd,Nat.reduceSub,↓e1,↓e2]
 refine⟨d.set S.length<|.obj "Desk" [("orders",.ref<|S.length+1),("past",.ref<|S.length+2)],?_,⟨?_,⟨[],?_,Rp.nil⟩,?_⟩,?_,by rw[bx,J]⟩
 ·unfold rT;rw[<- h1,i]
 ·rw[bu<|by omega]
 ·refine ly ?_;rw[aT<|by omega,j,aS<|by omega,m,aT<|by omega,p,<- B];simp
 ·rw[kH<|by omega,j,<- C];exact gK
 ·have k:iX S S1:=by rw[h1];exact Kp.refl.lay
  have k2:iX S g:=by rw[p];exact k.lay
  have k3:iX S f:=by rw[m];exact k2.uZ (.inr<|aJ _)
  have N:iX S d:=by rw[j];exact k3.lay
  exact N.uZ<|.inr<|aJ _
end K88
namespace K88
open PySem L2 Am
def Lu{f:Str->Option (am)}(h:xH f)(x:Str):xH (nK f x none):=λy ys e=>by
 unfold nK at e;split at e
 ·cases e
 ·exact h y ys e
def EE{f:Str->Option (am)}(h:xH f)(x:Str){xs:am}{n:Nat}(j:xs.Perm<|iV 1<|(n:Int)+1)(h1:1<=n)(J:n<=20):xH (nK f x<|some xs):=λy ys e=>by
 unfold nK at e;split at e
 ·cases e;exact⟨n,j,h1,J⟩
 ·exact h y ys e
def O2{S:gr}{nm:ba}{a:Dsk}{hs':Hs}{row:Str}(dk:Dk S a.d a.o a.p nm a.f a.past)(ch:Ch nm a.hs a.f a.past)(act:Act nm a.f (a.hs++[(a.K,a.f)]) hs' row)(hl:a.hs.length<=19)(hn3:nm.length=3)(hi:∀x∈nm,mV x) :
  ∃(p':Nat) (S':gr) (hs2:Hs) (K2:Nat) (f2:Str->Option (am)) (past2:Hi),gY [.ref a.d,.str row] S=.ok (.str "ok") S'/\(p'=a.p\/S.length<=p')/\hs'=hs2++[(K2,f2)]/\Dk S' a.d a.o p' nm f2 past2/\Ch nm hs2 f2 past2/\hs2.length<=a.hs.length+1/\Kp (λn=>n=a.d\/n=a.o\/n=a.p) S S':=by
 have pl:=ch.len;have of:=ch.Ob;have c3:∀kvs,Rp nm kvs a.f->kvs.length<40:=λkvs r=>by have:=r.len;omega
 rcases act with⟨rfl,P,h,e⟩|⟨x,xs,K,B,hf,rfl,rfl⟩|⟨x,xs,k,K,B,hf,k1,k2,rfl,rfl⟩|⟨x,xs,n,K,B,J,L,O,rfl,rfl⟩
 ·have e:hs'=a.hs:=(List.append_inj_left' e rfl).symm;subst e
  rcases ch.inv with⟨z,_⟩|⟨T,K0,g,x,v,C,e1,e2,e3,B,hv,Z⟩
  ·exact absurd z P
  ·have fx:a.f x=v:=by rw[e3];unfold nK;rw[aR rfl]
   rw[e2]at dk;obtain⟨S',G,m,F⟩:=FY dk B (by omega) (λz=>by rw[fx];exact hv z);have Y:nK a.f x (g x)=g:=by rw[e3,KP,Gj rfl]
   have m:Dk S' a.d a.o a.p nm (nK a.f x<|g x) C:=m;rw[Y]at m;exact⟨a.p,S',T,K0,g,C,G,.inl rfl,e1,m,Z,by rw[e1,aU];omega,F⟩
 ·obtain⟨p',S',G,N,m,F⟩:=Jh dk (by omega) (hi x B) hf;rw[tQ<|by omega]at m;exact⟨p',S',_,K,_,_,G,.inr N,rfl,m,.snoc ch B (λz=>by rw[hf]at z;cases z)<|Lu of x,by rw[aU];exact aJ _,F⟩
 ·obtain⟨n,J,L,O⟩:=of x xs hf;obtain⟨lx,ne⟩:=l7 J L;have V:∀j∈[k],1<=j/\j<xs.length:=λj U=>by rw[a_]at U;rw[U];exact⟨k1,k2⟩
  obtain⟨p',S',G,N,m,F⟩:=GW dk (by omega) (hi x B) B (by omega) hf (by omega) V (by simp);rw[tQ<|by omega]at m;exact⟨p',S',_,K,_,_,G,.inr N,rfl,m,.snoc ch B (λ_=>rfl)<|EE of x ((EW V).trans J) L O,by rw[aU];exact aJ _,F⟩
 ·obtain⟨p',S',G,N,m,F⟩:=Kv dk (by omega) (hi x B) B (by omega) J L O<|.inr c3;rw[tQ<|by omega]at m;exact⟨p',S',_,K,_,_,G,.inr N,rfl,m,.snoc ch B (λ_=>rfl)<|EE of x J L O,by rw[aU];exact aJ _,F⟩
structure Ls (S:gr)(nm:ba)(L N M:Nat)(a b:Dsk):Prop where
 l:gn S L=some [.ref a.d,.ref b.d]
 n:gn S N=some (nm.map .str)
 m:gn S M=some [.ref a.R,.ref b.R]
 dis:M≠L/\M≠N/\M≠a.R/\M≠b.R/\L≠a.p/\L≠b.p/\N≠a.p/\N≠b.p/\M≠a.p/\M≠b.p
def Ec{S:gr}{nm:ba}{N:Nat}{a b:Dsk}(ga:Gd S nm a)(gb:Gd S nm b)(ap:Ap a b)(hL:∃xs,gn S L=some xs)(hN:gn S N=some (nm.map .str))(hM:∃xs,gn S M=some xs)
  (dis:M≠L/\M≠N/\M≠a.R/\M≠b.R/\L≠a.p/\L≠b.p/\N≠a.p/\N≠b.p/\M≠a.p/\M≠b.p) (hb:rO S bg) (fr:bg≠L/\bg≠N/\bg≠M/\bg≠a.d/\bg≠a.o/\bg≠a.p/\bg≠a.R/\bg≠b.d/\bg≠b.o/\bg≠b.p/\bg≠b.R) (fh:∀q∈a.hs++[(a.K,a.f)],q.1≠bg) (fh2:∀q∈b.hs++[(b.K,b.f)],q.1≠bg) (hl:a.hs.length<=19) (hn3:nm.length=3) (hi:∀x∈nm,mV x) (ms:Nat->ae) :
  ∃(R':Nat) (S3 S4 S5:gr) (row:Str) (a':Dsk),kq [.ref bg,.ref N,.ref a.R] S=.ok (.tup [.str row,.ref R']) S3/\gn S3 L=gn S L/\gn S3 M=gn S M/\S4=S3.set M (.lst<|ms R')/\gn S4 L=gn S L/\gY [.ref a.d,.str row] S4=.ok (.str "ok") S5/\a'.R=R'/\a'.d=a.d/\Gd S5 nm a'/\Gd S5 nm b/\Ap a' b/\gn S5 L=gn S L/\gn S5 N=gn S N/\gn S5 M=some (ms R') /\
   (M≠a'.R/\L≠a'.p/\N≠a'.p/\M≠a'.p)/\a'.hs.length<=a.hs.length+1/\S.length<=S5.length/\Dk S4 a.d a.o a.p nm a.f a.past:=by
 obtain⟨m1,m2,m3,m4,l1,l2,n1,n2,m5,m6⟩:=dis;obtain⟨b1,b2,b3,b4,b5,b6,b7,b8,b9,b10,b11⟩:=fr;obtain⟨xL,hL⟩:=hL;obtain⟨xM,hM⟩:=hM;obtain⟨R',S3,row,hs',e3,lR,J,new,k3,act⟩:=N9 hb hN hn3 hi ga.st ga.ch.Ob b2.symm b7.symm fh (by omega);obtain⟨kva,j,ra⟩:=ga.dk.od;obtain⟨kvb,C,rb⟩:=gb.dk.od;have lta:=ga.lt;have ltb:=gb.lt;have lM:=iA hM;have lL:=iA hL;have lN:=iA hN;have G:=ga.kp k3 b4.symm b5.symm b6.symm b7.symm fh;have gb3:=gb.kp k3 b8.symm b9.symm b10.symm b11.symm fh2;have M3:=k3.lst M _ b3.symm hM;have L3:=k3.lst L _ b1.symm hL;have N3:=k3.lst N _ b2.symm hN;obtain⟨S4,h4⟩:∃S4,S4=S3.set M (.lst<|ms R'):=⟨_,rfl⟩;have k4:Kp (λn=>n=M) S3 S4:=by rw[h4];exact(Kp.refl (b:=λn=>n=M)).set (.inl rfl)
 have l34:S4.length=S3.length:=by rw[h4,bx]
 have l3:=k3.len;have Y:M≠a.d:=oz hM ga.dk.ob;have O:M≠b.d:=oz hM gb.dk.ob;have Z:M≠a.o:=mO hM j;have U:M≠b.o:=mO hM C;have nMh:∀q∈b.hs++[(b.K,b.f)],q.1≠M:=λq g z=>by
  obtain⟨kv,e,_⟩:=gb.st.ds q g;exact mO hM e z.symm
 have P:∀q∈hs',q.1≠M:=λq g z=>by
  obtain⟨kv,e,_⟩:=J.ds q g;exact mO M3 e z.symm
 have D4:=G.dk.kp k4 Y.symm Z.symm m5.symm;have V:=gb3.kp k4 O.symm U.symm m6.symm m4.symm nMh;have T:=J.kp k4 (by omega) P;have L4:=k4.lst L _ m1.symm L3;have N4:=k4.lst N _ m2.symm N3;have M4:gn S4 M=some (ms R'):=by rw[h4];exact jy (iA M3)
 obtain⟨B,S5,hs2,K2,f2,F,e5,k,eh,D5,c2,hl2,k5⟩:=O2 D4 ga.ch act hl hn3 hi;subst eh;have l5:=k5.len;have own:∀n,n≠a.d->n≠a.o->n≠a.p->¬(n=a.d\/n=a.o\/n=a.p):=λn h1 h2 h3 z=>by rcases z with z|z|z<;>contradiction
 have nLd:L≠a.d:=oz hL ga.dk.ob;have nLo:L≠a.o:=mO hL j;have nNd:N≠a.d:=oz hN ga.dk.ob;have nNo:N≠a.o:=mO hN j;have nRd:R'≠a.d:=by omega
 have nRo:R'≠a.o:=by omega
 have nRp:R'≠a.p:=by omega
 have m:∀q∈hs2++[(K2,f2)],q.1≠a.d/\q.1≠a.o/\q.1≠a.p:=λq g=>by
  obtain⟨kv,e,_⟩:=J.ds q g;refine⟨zD e G.dk.ob,?_,λz=>?_⟩
  ·rcases new q g with z|z
   ·exact ga.no q z
   ·omega
  ·exact mO G.dk.ps e z.symm
 obtain⟨kvb4,hob4,rb4⟩:=V.dk.od;have gb5:=V.kp k5 (own _ ap.d.symm (λz=>by have:=zD j gb.dk.ob;omega) (λz=>by have:=oz ga.dk.ps gb.dk.ob;omega))
  (own _ (λz=>by have:=zD C ga.dk.ob;omega) ap.o.symm (λz=>by have:=mO ga.dk.ps C;omega))
  (own _ (λz=>by have:=oz gb.dk.ps ga.dk.ob;omega) (λz=>by have:=mO gb.dk.ps j;omega) ap.p.symm)
  (own _ (λz=>by have:=oz gb.st.ls ga.dk.ob;omega) (λz=>by have:=mO gb.st.ls j;omega) ap.r1.symm)
  (λq g=>own _ (λz=>by
   obtain⟨kv,e,_⟩:=gb.st.ds q g;have:=zD e ga.dk.ob;omega) (ap.h1 q g) (λz=>by
   obtain⟨kv,e,_⟩:=gb.st.ds q g;have:=mO ga.dk.ps e;omega))
 have st5:=T.kp k5 (own _ nRd nRo nRp) λq g=>own _ (m q g).1 (m q g).2.1 (m q g).2.2;refine⟨R',S3,S4,S5,row,⟨a.d,a.o,B,R',K2,f2,F,hs2⟩,e3,by rw[L3,hL],by rw[M3,hM],h4,by rw[L4,hL],e5,rfl,rfl,⟨D5,st5,c2,λq g=>(m q g).2.1,?_⟩,gb5,⟨ap.d,ap.o,?_,?_,?_,ap.h1,λq g=>?_⟩,?_,?_,?_,⟨?_,?_,?_,?_⟩,hl2,by omega,D4⟩
 ·show B≠R'
  rcases k with z|z
  ·omega
  ·intro zz;have:=iA T.ls;omega
 ·show B≠b.p
  rcases k with z|z
  ·rw[z];exact ap.p
  ·omega
 ·show B≠b.R
  rcases k with z|z
  ·rw[z];exact ap.r1
  ·omega
 ·show b.p≠R';omega
 ·rcases new q g with z|z
  ·exact ap.h2 q z
  ·have:q.1≠b.o:=by omega
   exact this
 ·rw[k5.lst L _ (own _ nLd nLo l1) L4,hL]
 ·rw[k5.lst N _ (own _ nNd nNo n1) N4,hN]
 ·exact k5.lst M _ (own _ Y Z m5) M4
 ·show M≠R';omega
 ·show L≠B
  rcases k with z|z
  ·rw[z];exact l1
  ·omega
 ·show N≠B
  rcases k with z|z
  ·rw[z];exact n1
  ·omega
 ·show M≠B
  rcases k with z|z
  ·rw[z];exact m5
  ·omega
end K88
namespace K88
open PySem L2 Am
def Ld{nm:ba}{N:Nat}{a:Dsk}(ga:Gd S nm a)(gb:Gd S nm b)(h:Ls S nm L N M a b)(hi:∀x∈nm,mV x) :
  ∃y8 y9 S',qu zj (HV 2<|yp (iC 8)<|yp (iC 9) HC) qj [s,.ref L,.ref N,.ref M,x4,x5,x6,x7,x8,x9] S=.nx [s,.ref L,.ref N,.ref M,x4,x5,x6,x7,y8,y9] S'/\iX S S':=by
 have hs:zj [s,.ref L,.ref N,.ref M,x4,x5,x6,x7,x8,x9] S=.ok (wU L M 2) S:=G6 (S1:=S) (xs:=[.ref a.d,.ref b.d]) (ys:=[.ref a.R,.ref b.R]) (by dsimp[gV,bools]) (by dsimp[gV,bools]) h.l h.m;unfold qu;rw[hs];refine za (s:=wU L M 2) (λi τ S'=>∃y8 y9,τ=[s,.ref L,.ref N,.ref M,x4,x5,x6,x7,y8,y9]/\iX S S') (λr=>∃y8 y9 S',r=.nx [s,.ref L,.ref N,.ref M,x4,x5,x6,x7,y8,y9] S'/\iX S S') (λi τ T j J=>?_) (λτ T J=>?_) 2 0 _ S rfl ⟨_,_,rfl,Kp.refl⟩
 ·obtain⟨y8,y9,rfl,k⟩:=J;have Z:=k.lst L _ (λz=>z) h.l;have hN:=k.lst N _ (λz=>z) h.n;have Y:=k.lst M _ (λz=>z) h.m;have one:∀(c:Dsk),Gd S nm c->∃p,qj [s,.ref L,.ref N,.ref M,x4,x5,x6,x7,.ref c.d,.ref c.R] T=.nx [s,.ref L,.ref N,.ref M,x4,x5,x6,x7,.ref c.d,.ref c.R] p/\iX T p:=λc O=>by
   have g2:Gd T nm c:=O.kp k (λz=>z) (λz=>z) (λz=>z) (λz=>z) λ_ _ z=>z;obtain⟨kvs,hK,r⟩:=g2.st.ds (c.K,c.f) (by simp);obtain⟨p,e,G⟩:=AY g2.dk hN hi hK r g2.ch.Ob;have q2:jq (.ref c.R) (.int<|-1) T=.ok (.ref c.K) T:=by
    show opt (gn T c.R) _=_;rw[g2.st.ls,gH,bZ];show opt (lH (_++[A.ref c.K])<|-1) _=_;rw[wI];rfl
   have B:∀U:gr,vV (.int 1) U=.ok (.int<|-1) U:=λU=>rfl;have v9:gi 9 [s,.ref L,.ref N,.ref M,x4,x5,x6,x7,.ref c.d,.ref c.R] T=.ok (.ref c.R) T:=rfl;refine⟨p,?_,G⟩;unfold qj;dsimp[gV,mS,bools,B,v9,q2,e,ck]
  have j:i<2:=j;have get:∀(c:Dsk) (x:A),(([A.ref a.d,.ref b.d]:ae)[i]?=some (.ref c.d))->([A.ref a.R,.ref b.R]:ae)[i]?=some (.ref c.R)->(wU L M 2).get i T=some (.tup [.ref c.d,.ref c.R]):=λc x h1 P=>by
   show(gn T L).bind (λxs=>(gn T M).bind λys=>(xs[i]?).bind λx=>(ys[i]?).map λy=>A.tup [x,y])=_;rw[Z,Y,cK,cK,h1,P];rfl
  have V:∀c:Dsk,Gd S nm c->(([A.ref a.d,.ref b.d]:ae)[i]?=some (.ref c.d))->([A.ref a.R,.ref b.R]:ae)[i]?=some (.ref c.R)->_:=λc O h1 P=>(⟨_,_,T,get c .non h1 P,by dsimp[gV,bools,jo<|show([_,_]:ae).length=2 from rfl];rfl,by
   obtain⟨p,e,G⟩:=one c O;exact .inl ⟨_,p,e,_,_,rfl,k.trans G⟩⟩:∃x g S1,(wU L M 2).get i T=some x/\HV 2 (yp (iC 8)<|yp (iC 9) HC) x [s,.ref L,.ref N,.ref M,x4,x5,x6,x7,y8,y9] T=.ok g S1/\((∃F S',qj g S1=.nx F S'/\∃y8 y9,F=[s,.ref L,.ref N,.ref M,x4,x5,x6,x7,y8,y9]/\iX S S')\/(∃a S',qj g S1=.rt a S'/\∃y8 y9 C,RS.rt a S'=.nx [s,.ref L,.ref N,.ref M,x4,x5,x6,x7,y8,y9] C/\iX S C)))
  match i,j with
  | 0,_=>exact V a ga rfl rfl
  | 1,_=>exact V b gb rfl rfl
 ·obtain⟨y8,y9,rfl,k⟩:=J;refine⟨?_,y8,y9,T,rfl,k⟩;show(match gn T L,gn T M with
   | some xs,some ys=>decide (xs.length<=2) || decide (ys.length<=2)
   | _,_=>false)=true
  rw[k.lst L _ (λz=>z) h.l,k.lst M _ (λz=>z) h.m];rfl
def Ls.kp{nm:ba}{N:Nat}{a:Dsk}(h:Ls S nm L N M a b)(k:iX S S'):Ls S' nm L N M a b:=⟨k.lst L _ (λz=>z) h.l,k.lst N _ (λz=>z) h.n,k.lst M _ (λz=>z) h.m,h.dis⟩
def LB{nm:ba}{N:Nat}{a b:Dsk}{ns:am}(ga:Gd S nm a)(gb:Gd S nm b)(ap:Ap a b)(h:Ls S nm L N M a b)(hn3:nm.length=3)(hi:∀x∈nm,mV x)(i20:i<20)(la:a.hs.length<=i)(lb:b.hs.length<=i) :
  ∃y5 y6 y7 y8 y9 S' a' b',sJ [.frz<|ns.map .int,.ref L,.ref N,.ref M,.int i,x5,x6,x7,x8,x9] S=.nx [.frz<|ns.map .int,.ref L,.ref N,.ref M,.int i,y5,y6,y7,y8,y9] S'/\Gd S' nm a'/\Gd S' nm b'/\Ap a' b'/\Ls S' nm L N M a' b'/\a'.hs.length<=i+1/\b'.hs.length<=i+1:=by
 obtain⟨S1,e1,hb1,k1⟩:=DC (S:=S) (ns:=ns) (k:=i) (by omega) (by omega);obtain⟨d,V,e2,d0,d1,hb2,k2⟩:=digit (m:=2) hb1 ⋯ ⋯;have J:Kp (λn=>n=S.length) S V:=(Kp.of0 k1).trans k2;have lta:=ga.lt;have Y:=gb.lt;have lL:=iA h.l;have lN:=iA h.n;have lM:=iA h.m;have ga2:Gd V nm a:=ga.kp J (by omega) (by omega) (by omega) (by omega) λq U=>by have:=lta.2.2.2.2 q U;omega
 have gb2:Gd V nm b:=gb.kp J (by omega) (by omega) (by omega) (by omega) λq U=>by have:=Y.2.2.2.2 q U;omega
 have L2:=J.lst L _ (by omega) h.l;have N2:=J.lst N _ (by omega) h.n;have M2:=J.lst M _ (by omega) h.m;have f1:∀q∈a.hs++[(a.K,a.f)],q.1≠S.length:=λq U=>by have:=lta.2.2.2.2 q U;omega
 have f2:∀q∈b.hs++[(b.K,b.f)],q.1≠S.length:=λq U=>by have:=Y.2.2.2.2 q U;omega
 obtain⟨z1,z2,z3,z4,z5,z6,z7,z8,z9,P⟩:=h.dis;have fin:∀(r C D:Nat) (O F B:gr) (row:Str) (o p:Nat) (f:Str->Option (am)) (past:Hi) (a' b':Dsk),jq (.ref M) (.int d) V=.ok (.ref r) V->kq [.ref S.length,.ref N,.ref r] V=.ok (.tup [.str row,.ref C]) O->yM (.ref M) (.int d) (.ref C) O=.ok Unit.unit F->jq (.ref L) (.int d) F=.ok (.ref D) F->Dk F D o p nm f past->gY [.ref D,.str row] F=.ok (.str "ok") B ->
   Gd B nm a'->Gd B nm b'->Ap a' b'->Ls B nm L N M a' b'->a'.hs.length<=i+1->b'.hs.length<=i+1 ->
   ∃y5 y6 y7 y8 y9 S' a' b',sJ [.frz<|ns.map .int,.ref L,.ref N,.ref M,.int i,x5,x6,x7,x8,x9] S=.nx [.frz<|ns.map .int,.ref L,.ref N,.ref M,.int i,y5,y6,y7,y8,y9] S'/\Gd S' nm a'/\Gd S' nm b'/\Ap a' b'/\Ls S' nm L N M a' b'/\a'.hs.length<=i+1/\b'.hs.length<=i+1:=λr C D O F B row o p f past a' b' q1 e3 e4 q2 D4 Z g j G h' la' lb'=>by
  obtain⟨y8,y9,S',e6,k6⟩:=Ld (s:=.frz<|ns.map .int) (x4:=.int i) (x5:=.ref S.length) (x6:=.int d) (x7:=.str row) (x8:=x8) (x9:=x9) g j h' hi;have m:jj "Desk" "say" gY (gB jq (gi 1)<|gi 6) (gj (gi 7) gv) [.frz<|ns.map .int,.ref L,.ref N,.ref M,.int i,.ref S.length,.int d,.str row,x8,x9] F=.ok (.str "ok") B:=by
   rw[dm D4<|by dsimp[gV,bools,q2]];dsimp[gV,bools,Z]
  have ok:m_ true (.str "ok") (.str<|PySem.Str.ofString "ok") B=.ok (.bl false) B:=rfl;refine⟨.ref S.length,.int d,.str row,y8,y9,S',a',b',?_,g.kp k6 (λz=>z) (λz=>z) (λz=>z) (λz=>z) λ_ _ z=>z,j.kp k6 (λz=>z) (λz=>z) (λz=>z) (λz=>z) λ_ _ z=>z,G,h'.kp k6,la',lb'⟩;unfold sJ;dsimp[gV,mS,bools,iR,Nat.reduceAdd,Nat.reduceSub,e1,e2,q1,e3,e4,jo<|show([_,_]:ae).length=2 from rfl,↓m,ok,↓e6]
 have ix0:∀(X:Nat) (T:gr) (u v:A),gn T X=some [u,v]->jq (.ref X) (.int 0) T=.ok u T:=λX T u v e=>by
  show opt (gn T X) _=_;rw[e];rfl
 have ix1:∀(X:Nat) (T:gr) (u v:A),gn T X=some [u,v]->jq (.ref X) (.int 1) T=.ok v T:=λX T u v e=>by
  show opt (gn T X) _=_;rw[e];rfl
 by_cases c:d=0
 ·subst c;obtain⟨C,O,F,B,row,a',e3,L3,M3,h4,L4,Z,rR,rd,g,j,G,L5,N5,M5,⟨w1,w2,w3,w4⟩,la',lS,D4⟩:=Ec (a:=a) (b:=b) (L:=L) (M:=M) ga2 gb2 ap ⟨_,L2⟩ N2 ⟨_,M2⟩ ⟨z1,z2,z3,z4,z5,z6,z7,z8,z9,P⟩ hb2 ⟨by omega,by omega,by omega,by omega,by omega,by omega,by omega,by omega,by omega,by omega,by omega⟩ f1 f2 (by omega) hn3 hi λC=>[.ref C,.ref b.R];refine fin a.R C a.d O F B row _ _ _ _ a' b (ix0 _ _ _ _ M2) e3 ?_ (ix0 _ _ _ _<|L4.trans L2) D4 Z g j G ⟨?_,N5.trans N2,?_,⟨z1,z2,w1,z4,w2,z6,w3,z8,w4,P⟩⟩ (by omega) (by omega)
  ·show opt (gn O M) _=_;rw[M3,M2,h4];rfl
  ·rw[rd];exact L5.trans L2
  ·rw[rR];exact M5
 ·obtain rfl:d=1:=by omega
  obtain⟨C,O,F,B,row,b',e3,L3,M3,h4,L4,Z,rR,rd,j,g,G,L5,N5,M5,⟨w1,w2,w3,w4⟩,lb',lS,D4⟩:=Ec (a:=b) (b:=a) (L:=L) (M:=M) gb2 ga2 ap.symm ⟨_,L2⟩ N2 ⟨_,M2⟩ ⟨z1,z2,z4,z3,z6,z5,z8,z7,P,z9⟩ hb2 ⟨by omega,by omega,by omega,by omega,by omega,by omega,by omega,by omega,by omega,by omega,by omega⟩ f2 f1 (by omega) hn3 hi λC=>[.ref a.R,.ref C];refine fin b.R C b.d O F B row _ _ _ _ a b' (ix1 _ _ _ _ M2) e3 ?_ (ix1 _ _ _ _<|L4.trans L2) D4 Z g j G.symm ⟨?_,N5.trans N2,?_,⟨z1,z2,z3,w1,z5,w2,z7,w3,z9,w4⟩⟩ (by omega) (by omega)
  ·show opt (gn O M) _=_;rw[M3,M2,h4];rfl
  ·rw[rd];exact L5.trans L2
  ·rw[rR];exact M5
def Ox(ns:am)(hl:ns.length<=63):∃S',yt [.frz<|ns.map .int] []=.ok (.bl true) S':=by
 obtain⟨s,hs⟩:∃s,s=A.frz (ns.map .int):=⟨_,rfl⟩;have mk:∀(S:gr) (τ:ae),∃S',rT "Desk" gZ τ S=.ok (.ref S.length) S'/\(∀nm,Dk S' S.length (S.length+1) (S.length+2) nm (λ_=>none) [])/\iX S S'/\S'.length=S.length+3:=λS τ=>by
  obtain⟨S',e,_,k,l⟩:=CN (S:=S) (τ:=τ) (nm:=[]);refine⟨S',e,λnm=>?_,k,l⟩;obtain⟨G,e2,D,_⟩:=CN (S:=S) (τ:=τ) (nm:=nm);rw[e]at e2
  cases e2
  exact D
 obtain⟨S1,e1,D1,k1,Z⟩:=mk [] [s,.unb,.unb,.unb,.unb,.unb,.unb,.unb,.unb,.unb];obtain⟨G,e2,D2,k2,V⟩:=mk S1 [s,.unb,.unb,.unb,.unb,.unb,.unb,.unb,.unb,.unb];have Z:S1.length=3:=Z;rw[Z]at e2 D2 V;have D1:∀nm,Dk S1 0 1 2 nm (λ_=>none) []:=D1;obtain⟨p,Y⟩:∃p,p=G++[O.lst [.ref 0,.ref 3]]:=⟨_,rfl⟩;have l3:p.length=7:=by rw[Y];simp[V]
 have k23:iX G p:=by rw[Y];exact Kp.refl.lay
 have L3:gn p 6=some [.ref 0,.ref 3]:=by
  have:G.length=6:=V;rw[Y,<- this];exact gK
 obtain⟨S4,e4,hb4,k4⟩:=DC (S:=p) (ns:=ns) (k:=0) ⋯ ⋯;obtain⟨N,F,nm,e5,N5,n3,hi,_,lN,_,k5⟩:=GJ (n:=3) hb4 ⋯ ⋯;have n3:nm.length=3:=n3;have P:Kp (λn=>n=p.length) p F:=(Kp.of0 k4).trans k5;have l4:=k4.len;have l5:=k5.len;have lN5:=iA N5;have q45:∃q,q=F.length:=⟨_,rfl⟩;obtain⟨q,hq⟩:=q45;obtain⟨g,h6⟩:∃g,g=F++[O.jE []]++[O.lst [.ref q]]++[O.jE []]++[O.lst [.ref<|q+2]]++[O.lst [.ref<|q+1,.ref<|q+3]]:=⟨_,rfl⟩;have C:iX F g:=by rw[h6];exact Kp.refl.lay.lay.lay.lay.lay
 have at6:g[q]?=some (.jE [])/\g[q+1]?=some (.lst [.ref q])/\g[q+2]?=some (.jE [])/\g[q+3]?=some (.lst [.ref<|q+2])/\g[q+4]?=some (.lst [.ref<|q+1,.ref<|q+3]):=by
  have f:∀j,g[q+j]?=([O.jE [],O.lst [.ref q],O.jE [],O.lst [.ref<|q+2],O.lst [.ref<|q+1,.ref<|q+3]]:List O)[j]?:=λj=>by
   rw[h6,bL,bL,bL,bL,cV<|by omega,show q+j-F.length=j by omega];rfl
  exact⟨f 0,f 1,f 2,f 3,f 4⟩
 obtain⟨o0,o1,o2,o3,o4⟩:=at6;have l6:g.length=q+5:=by rw[h6,hq];simp
 have J:∀(τ:ae),mG (gj (mG<|gj (nE) gv)<|gj (mG<|gj (nE) gv) gv) τ F=.ok (.ref<|q+4) g:=λτ=>by
  have dn:∀(T:gr),nE τ T=.ok (.ref T.length) (T++[O.jE []]):=λT=>rfl;dsimp[gV,bools,dn,aU,dD,<- hq,Nat.add_assoc,Nat.reduceAdd];rw[h6]
 have L:Kp (λn=>n=p.length) G g:=((Kp.of0 k23).trans P).trans<|Kp.of0 C;have g1:Gd g nm ⟨0,1,2,q+1,q,λ_=>none,[],[]⟩:=⟨((D1 nm).kp k2 (λz=>z) (λz=>z) λz=>z).kp L (by omega) (by omega)<|by omega,⟨mP o1,λh d=>by
  have d:h∈[(q,λ_=>none)]:=d;rw[a_]at d;rw[d];exact⟨[],ly o0,Rp.nil⟩⟩,.nil (λx xs e=>by cases e),λh d=>by
  have d:h∈[(q,λ_=>none)]:=d;rw[a_]at d;rw[d];show q≠1;omega,by show 2≠q+1;omega⟩
 have g2:Gd g nm ⟨3,4,5,q+3,q+2,λ_=>none,[],[]⟩:=⟨(D2 nm).kp L (by omega) (by omega)<|by omega,⟨mP o3,λh d=>by
  have d:h∈[(q+2,λ_=>none)]:=d;rw[a_]at d;rw[d];exact⟨[],ly o2,Rp.nil⟩⟩,.nil (λx xs e=>by cases e),λh d=>by
  have d:h∈[(q+2,λ_=>none)]:=d;rw[a_]at d;rw[d];show q+2≠4;omega,by show 5≠q+3;omega⟩
 have ap:Ap ⟨0,1,2,q+1,q,λ_=>none,[],[]⟩ ⟨3,4,5,q+3,q+2,λ_=>none,[],[]⟩:=⟨by show 0≠3;omega,by show 1≠4;omega,by show 2≠5;omega,by show 2≠q+3;omega,by show 5≠q+1;omega,λh d=>by
  have d:h∈[(q+2,λ_=>none)]:=d;rw[a_]at d;rw[d];show q+2≠1;omega,λh d=>by
  have d:h∈[(q,λ_=>none)]:=d;rw[a_]at d;rw[d];show q≠4;omega⟩
 have ls:Ls g nm 6 N (q+4) ⟨0,1,2,q+1,q,λ_=>none,[],[]⟩ ⟨3,4,5,q+3,q+2,λ_=>none,[],[]⟩:=⟨C.lst _ _ (λz=>z)<|P.lst _ _ (by omega) L3,C.lst _ _ (λz=>z) N5,mP o4,by
  refine⟨?_,?_,?_,?_,?_,?_,?_,?_,?_,?_⟩
  ·omega
  ·omega
  ·show q+4≠q+1;omega
  ·show q+4≠q+3;omega
  ·show 6≠2;omega
  ·show 6≠5;omega
  ·show N≠2;omega
  ·show N≠5;omega
  ·show q+4≠2;omega
  ·show q+4≠5;omega⟩
 obtain⟨m,hm,m20⟩:∃m:Int,(∀T x,gP (f2 DR) (gj (eC<|.int 1)<|gj (gP (f2 CP)<|gj (eC<|.int 20)<|gj (gP (f1 jf)<|gj (gi 0) gv) gv) gv) (s::x) T=.ok (.int m) T)/\0<=m/\m<=20:=by
  refine⟨_,λT x=>by
   have al:jf s T=.ok (.int ns.length) T:=by rw[hs];dsimp[gV,aH]
   have v0:gi 0 (s::x) T=.ok s T:=by rw[hs];rfl
   dsimp[gV,bools,v0,al];rfl,?_,?_⟩
  ·split<;>split<;>omega
  ·split<;>split<;>omega
 have lp:∃τ S',qu DG (iC 4) sJ [s,.ref 6,.ref N,.ref<|q+4,.unb,.unb,.unb,.unb,.unb,.unb] g=.nx τ S'/\(∃B x5 x6 x7 x8 x9,τ=[s,.ref 6,.ref N,.ref<|q+4,B,x5,x6,x7,x8,x9])/\gn S' N=some (nm.map .str):=by
  refine u5 (S:=g) (S1:=g) (lo:=0) (hi:=m) (vX (hm _ _)<|by unfold bnd;omega) (λi τ S=>∃B x5 x6 x7 x8 x9 a b,τ=[s,.ref 6,.ref N,.ref<|q+4,B,x5,x6,x7,x8,x9]/\Gd S nm a/\Gd S nm b/\Ap a b/\Ls S nm 6 N (q+4) a b/\a.hs.length<=i/\b.hs.length<=i) (λr=>∃τ S',r=.nx τ S'/\(∃B x5 x6 x7 x8 x9,τ=[s,.ref 6,.ref N,.ref<|q+4,B,x5,x6,x7,x8,x9])/\gn S' N=some (nm.map .str)) ⟨_,_,_,_,_,_,_,_,rfl,g1,g2,ap,ls,aJ _,aJ _⟩ ?_ ?_
  ·rintro i τ S hi2 ⟨B,x5,x6,x7,x8,x9,a,b,rfl,ga,gb,ap,h,la,lb⟩;obtain⟨y5,y6,y7,y8,y9,S',a',b',e,ga',gb',ap',h',la',lb'⟩:=LB (ns:=ns) (i:=i) (x5:=x5) (x6:=x6) (x7:=x7) (x8:=x8) (x9:=x9) ga gb ap h n3 hi (by omega) la lb;refine .inl ⟨_,S',?_,.int i,y5,y6,y7,y8,y9,a',b',rfl,ga',gb',ap',h',la',lb'⟩;rw[<- hs]at e;rw[show(0:Int)+i=i by omega];exact e
  ·rintro τ S ⟨B,x5,x6,x7,x8,x9,a,b,rfl,_,_,_,h,_⟩;exact⟨_,S,rfl,⟨_,_,_,_,_,_,rfl⟩,h.n⟩
 obtain⟨τ,S7,e7,⟨B,x5,x6,x7,x8,x9,rfl⟩,N7⟩:=lp;obtain⟨U,e8,D8,k8,l8⟩:=mk S7 [s,.ref 6,.ref N,.ref<|q+4,B,x5,x6,x7,x8,x9];obtain⟨S10,e10,_⟩:=AY (S:=U++[O.jE []]) (N:=N) (K:=U.length) (nm2:=nm) ((D8 nm).kp (Kp.refl.lay:iX U<|U++[O.jE []]) (λz=>z) (λz=>z) λz=>z) (jL<|k8.lst _ _ (λz=>z) N7) hi (ly<|by simp) Rp.nil (λx xs e=>by cases e);have dn:∀(τ:ae) (T:gr),nE τ T=.ok (.ref T.length) (T++[O.jE []]):=λτ T=>rfl;have v0:∀(x:ae) (T:gr),gi 0 (s::x) T=.ok s T:=λx T=>by rw[hs];rfl
 rw[<- hs];rw[<- hs]at e4;unfold yt Hj GZ;have h3d:mG (gj (rT "Desk" gZ)<|gj (rT "Desk" gZ) gv) [s,.unb,.unb,.unb,.unb,.unb,.unb,.unb,.unb,.unb] []=.ok (.ref 6) p:=by
  dsimp[gV,bools,e1,e2,V];rw[Y];rfl
 dsimp[gV,mS,bools,iR,Nat.reduceAdd,Nat.reduceSub,↓h3d,v0,e4,e5,↓J,↓e7,e8,dn,e10];exact⟨_,rfl⟩
end K88
namespace K88
open PySem L2 Am
def all_mk{l:PySem.W.OpenLaw}{w:af}{K:au}{h:ak}{mg:Str->bi}{fa:aj}(X:K.In h)(G:h.Ns mainGlobals mg)(hfa:mg "law" = some (.ref fa))
  (a2:Df K "_law_digit" pS)
  (a3:Df K "_law_names" pJ)
  (a4:Df K "_law_bag" uy)
  (a5:Df K "_law_any" tu)
  (a6:Df K "_law_order" pH)
  (a7:Df K "_law_text" rj)
  (a8:Df K "_law_row" tU)
  (a9:Df K "is_name" sZ)
  (a10:Df K "has_form" qW)
  (a14:Df K "read_number" ny)
  (a15:Df K "read_numbers" lG)
  (a16:Df K "is_whole" rG)
  (a17:Df K "is_order" qO)
  (a18:Df K "read_order" nX)
  (a19:Df K "is_exchange" nk)
  (a20:Df K "is_word" sW)
  (a21:Df K "read_word" oZ)
  (a22:Df K "exchanged_places" jN)
  (a23:Df K "exchanged" qc)
  (a24:Df K "led_on" wB)
  (a27:Df K "show_numbers" lQ)
  (a28:Df K "show_order" oE)
  (a29:Df K "asked_of_one" lX)
  (a31:Df K "_law_said" qM)
  (a32:Df K "_law_shows" oY)
  (a33:Df K "law" IQ)
  (WO:PySem.W.nsIn K mainGlobals "range" = some none)
  (WQ:PySem.W.nsIn K mainGlobals "len" = some none)
  (WR:PySem.W.nsIn K mainGlobals "abs" = some none)
  (WS:PySem.W.nsIn K mainGlobals "int" = some none)
  (WT:PySem.W.nsIn K mainGlobals "list" = some none)
  (WU:PySem.W.nsIn K mainGlobals "tuple" = some none)
  (WV:PySem.W.nsIn K mainGlobals "str" = some none)
  (WW:PySem.W.nsIn K mainGlobals "dict" = some none)
  (WX:PySem.W.nsIn K mainGlobals "all" = some none)
  (WY:PySem.W.nsIn K mainGlobals "isinstance" = some none)
  (WZ:PySem.W.nsIn K mainGlobals "bool" = some none)
  (W0:PySem.W.nsIn K mainGlobals "sorted" = some none)
  (W2:PySem.W.nsIn K mainGlobals "max" = some none)
  (W3:PySem.W.nsIn K mainGlobals "min" = some none)
  (W5:PySem.W.nsIn K mainGlobals "zip" = some none)
  {WG:Tok} (W6:PySem.W.nsIn K mainGlobals "SMALL_LETTERS" = some (some<|.str (PySem.Str.ofString "abcdefghijklmnopqrstuvwxyz") WG))
  {WH:Tok} (W7:PySem.W.nsIn K mainGlobals "MOST_LETTERS" = some (some<|.int 8 WH))
  {WI:Tok} (W8:PySem.W.nsIn K mainGlobals "MOST_ROWS_BACK" = some (some<|.int 20 WI))
  {WJ:Tok} (W9:PySem.W.nsIn K mainGlobals "MOST_NAMES" = some (some<|.int 40 WJ))
  {WK:Tok} (W_:PySem.W.nsIn K mainGlobals "FIGURES" = some (some<|.str (PySem.Str.ofString "0123456789") WK))
  {WL:Tok} (Xa:PySem.W.nsIn K mainGlobals "MOST_FIGURES" = some (some<|.int 30 WL))
  {WM:Tok} (Xb:PySem.W.nsIn K mainGlobals "MOST_THINGS_orders" = some (some<|.int 20 WM))
  {WN:Tok} (Xc:PySem.W.nsIn K mainGlobals "MOST_NUMBERS" = some (some<|.int 200 WN))
  {a_NAMES:aj} {n_NAMES:Nat} {t0_NAMES u0_NAMES t1_NAMES u1_NAMES t2_NAMES u2_NAMES t3_NAMES u3_NAMES t4_NAMES u4_NAMES t5_NAMES u5_NAMES t6_NAMES u6_NAMES t7_NAMES u7_NAMES t8_NAMES u8_NAMES t9_NAMES u9_NAMES t10_NAMES u10_NAMES t11_NAMES u11_NAMES t12_NAMES u12_NAMES:Tok} (Xd:PySem.W.nsIn K mainGlobals "NAMES" = some (some<|.ref a_NAMES)) (sm_NAMES:(a_NAMES == sysModules)=false) (kp_NAMES:K.lookup a_NAMES=some { cls:=.type "dict",dict:=none,data:=.dict (QZ w iw [(t0_NAMES,u0_NAMES),(t1_NAMES,u1_NAMES),(t2_NAMES,u2_NAMES),(t3_NAMES,u3_NAMES),(t4_NAMES,u4_NAMES),(t5_NAMES,u5_NAMES),(t6_NAMES,u6_NAMES),(t7_NAMES,u7_NAMES),(t8_NAMES,u8_NAMES),(t9_NAMES,u9_NAMES),(t10_NAMES,u10_NAMES),(t11_NAMES,u11_NAMES),(t12_NAMES,u12_NAMES)]).toArray n_NAMES,slots:=#[]})
  {a_WITH_NUMBERS:aj} (Xe:PySem.W.nsIn K mainGlobals "WITH_NUMBERS" = some (some<|.ref a_WITH_NUMBERS)) (kp_WITH_NUMBERS:Qo K a_WITH_NUMBERS=some (["keep", "lead"]:ba))
  {C_Desk:aj} (n_Desk:PySem.W.nsIn K mainGlobals "Desk" = some (some<|.ref C_Desk)) (q_Desk:Cls K C_Desk)
  (nf_orders:je K C_Desk "orders")
  (nf_past:je K C_Desk "past")
  (a1:Q_ K C_Desk "Desk.__init__" kQ)
  (a11:KI K C_Desk "undo" "Desk.undo" p_)
  (a12:KI K C_Desk "remember" "Desk.remember" kL)
  (a13:KI K C_Desk "put" "Desk.put" rA)
  (a25:KI K C_Desk "named" "Desk.named" n5)
  (a26:KI K C_Desk "drop" "Desk.drop" pQ)
  (a30:KI K C_Desk "say" "Desk.say" rm)
  {U C_TooMany C_NoText C_NoWord C_NoName C_NoRow C_NoNumber C_NoPair:aj} (u0:PySem.W.nsIn K mainGlobals "UnderError" = some (some<|.ref U)) (u1:L2.mroIn K U=some Mx)
  (VJ:ExcK K U "TooMany" C_TooMany)
  (VE:ExcK K U "NoText" C_NoText)
  (VN:ExcK K U "NoWord" C_NoWord)
  (VM:ExcK K U "NoName" C_NoName)
  (VO:ExcK K U "NoRow" C_NoRow)
  (VR:ExcK K U "NoNumber" C_NoNumber)
  (VS:ExcK K U "NoPair" C_NoPair)
  (k_NoRow_NoName:PySem.W.kitOne K (.ref C_NoRow) (.ref C_NoName)=some false)
  (k_NoName_NoName:PySem.W.kitOne K (.ref C_NoName) (.ref C_NoName)=some true)
  (k_NoText_NoName:PySem.W.kitOne K (.ref C_NoText) (.ref C_NoName)=some false)
  (k_TooMany_NoName:PySem.W.kitOne K (.ref C_TooMany) (.ref C_NoName)=some false)
  (k_NoNumber_NoName:PySem.W.kitOne K (.ref C_NoNumber) (.ref C_NoName)=some false)
  (k_NoWord_NoName:PySem.W.kitOne K (.ref C_NoWord) (.ref C_NoName)=some false)
  (k_NoPair_NoName:PySem.W.kitOne K (.ref C_NoPair) (.ref C_NoName)=some false)
  : ∃fd:FuncData,(∀(s:aA) (v:aa),BindsTo s fd ⟨[v],[]⟩ [("_law_script",v)])/\∀base:ak,K.In base->base.Ns mainGlobals mg->FnOk l.prog w K mg base qA 8 fa fd ["_law_script"] (su K 1 yt):=by
 obtain⟨f,fd,a,F⟩:=a33;have e:=hfa.symm.trans (bT X G a)
 cases e
 have Wy:=bT X G VM.n;have L:=bF X G WO;have j:=bF X G WQ;have V6:=bF X G WR;have O:=bF X G WS;have B:=bF X G WT;have p:=bF X G WU;have VT:=bF X G WV;have V8:=bF X G WW;have C:=bF X G WX;have N:=bF X G WY;have Wh:=bF X G WZ;have Wi:=bF X G W0;have WA:=bF X G W2;have WB:=bF X G W3;have WC:=bF X G W5;have V_:∃t,mg "SMALL_LETTERS" = some (.str (PySem.Str.ofString "abcdefghijklmnopqrstuvwxyz") t):=⟨WG,bT X G W6⟩;have Wa:∃t,mg "MOST_LETTERS" = some (.int 8 t):=⟨WH,bT X G W7⟩;have Wb:∃t,mg "MOST_ROWS_BACK" = some (.int 20 t):=⟨WI,bT X G W8⟩;have Wc:∃t,mg "MOST_NAMES" = some (.int 40 t):=⟨WJ,bT X G W9⟩;have We:∃t,mg "FIGURES" = some (.str (PySem.Str.ofString "0123456789") t):=⟨WK,bT X G W_⟩;have Wf:∃t,mg "MOST_FIGURES" = some (.int 30 t):=⟨WL,bT X G Xa⟩;have VW:∃t,mg "MOST_THINGS_orders" = some (.int 20 t):=⟨WM,bT X G Xb⟩;have Wk:∃t,mg "MOST_NUMBERS" = some (.int 200 t):=⟨WN,bT X G Xc⟩;have k:∃a,mg "NAMES" = some (.ref a)/\KdS w K a iw:=⟨a_NAMES,bT X G Xd,⟨_,n_NAMES,rfl,by decide +kernel,sm_NAMES,kp_NAMES⟩⟩;have g:∃a,mg "WITH_NUMBERS" = some (.ref a)/\Qo K a=some (["keep", "lead"]:ba):=⟨a_WITH_NUMBERS,bT X G Xe,kp_WITH_NUMBERS⟩;have d:ClK K "Desk" C_Desk:=⟨n_Desk,q_Desk⟩;have m:=bT X G n_Desk;refine⟨fd,λs v=>(by obtain⟨_,_,_,_,_,_,_,_,_,rfl,_,_⟩:=F.ex;exact .of_eq rfl),λbase _ _=>?_⟩;have E:En l.prog w K mg base:=⟨h,X,G⟩;have V1:=a1.mk (P:=l.prog) (w:=w) (mg:=mg) (base:=base) (λF=>tH F d nf_orders nf_past)<|EY λ_ _ _ _ _ _ _=>rfl;have J:=a2.kA E (λF=>zp F)<|BX λ_ _ _ _ _ _ _ _=>rfl;have WD:=a3.kA E (λF=>yF F L J)<|BX λ_ _ _ _ _ _ _ _=>rfl;have V4:=a4.kA E (λF=>Bh F j V6 O)<|BX λ_ _ _ _ _ _ _ _=>rfl;have V7:=a5.kA E (λF=>Cg F B L j p J)<|BX λ_ _ _ _ _ _ _ _=>rfl;have V9:=a6.kA E (λF=>yG F B L p J V7)<|BX λ_ _ _ _ _ _ _ _=>rfl;have VU:=a7.kA E (λF=>Ah F VT)<|EY λ_ _ _ _ _ _ _=>rfl;have WE:=a8.kA E (λF=>B6 F V8 j B p J V9 VU)<|SG λ_ _ _ _ _ _ _ _ _=>rfl;have V2:=a9.kA E (λF=>B8 F C j V_ Wa)<|EY λ_ _ _ _ _ _ _=>rfl;have Wr:=a10.kA E (λF=>zO F j C k g V2)<|EY λ_ _ _ _ _ _ _=>rfl;have Ws:=a11.mk (P:=l.prog) (w:=w) (mg:=mg) (base:=base) (λF=>yD F d nf_past nf_orders VJ)<|EY λ_ _ _ _ _ _ _=>rfl;have VV:=a12.mk (P:=l.prog) (w:=w) (mg:=mg) (base:=base) (λF=>tF F d nf_past nf_orders Wb)<|BX λ_ _ _ _ _ _ _ _=>rfl;have V3:=a13.mk (P:=l.prog) (w:=w) (mg:=mg) (base:=base) (λF=>An F d nf_orders VJ j Wc VV)<|SG λ_ _ _ _ _ _ _ _ _=>rfl;have Wg:=a14.kX E (λF=>wR F VE C j O We Wf)<|EY λ_ _ _ _ _ _ _=>rfl;have Y:=a15.kX E (λF=>uP F Wg)<|EY λ_ _ _ _ _ _ _=>rfl;have T:=a16.kA E (λF=>As F N Wh O)<|EY λ_ _ _ _ _ _ _=>rfl;have Wj:=a17.kA E (λF=>A4 F j N p C Wi B L VW T)<|EY λ_ _ _ _ _ _ _=>rfl;have Wt:=a18.kX E (λF=>xq F VE p Y Wj)<|EY λ_ _ _ _ _ _ _=>rfl;have VZ:=a19.kA E (λF=>wH F T)<|BX λ_ _ _ _ _ _ _ _=>rfl;have Wl:=a20.kA E (λF=>BG F j N B C Wk VZ)<|BX λ_ _ _ _ _ _ _ _=>rfl;have Wu:=a21.kX E (λF=>yH F VE VW Y Wl)<|EY λ_ _ _ _ _ _ _=>rfl;have Wm:=a22.kA E (λF=>qq F B p)<|SG λ_ _ _ _ _ _ _ _ _=>rfl;have Wn:=a23.kX E (λF=>zh F VN j VZ Wm)<|BX λ_ _ _ _ _ _ _ _=>rfl;have Wv:=a24.kX E (λF=>EN F Wn)<|BX λ_ _ _ _ _ _ _ _=>rfl;have V:=a25.mk (P:=l.prog) (w:=w) (mg:=mg) (base:=base) (λF=>xj F d nf_orders VM)<|BX λ_ _ _ _ _ _ _ _=>rfl;have Ww:=a26.mk (P:=l.prog) (w:=w) (mg:=mg) (base:=base) (λF=>ze F d nf_orders V VV)<|BX λ_ _ _ _ _ _ _ _=>rfl;have Wo:=a27.kA E (λF=>uY F VT)<|EY λ_ _ _ _ _ _ _=>rfl;have Wq:=a28.kA E (λF=>xy F Wo)<|EY λ_ _ _ _ _ _ _=>rfl;have Wx:=a29.kX E (λF=>uO F Wq)<|BX λ_ _ _ _ _ _ _ _=>rfl;have Z:=a30.mk (P:=l.prog) (w:=w) (mg:=mg) (base:=base) (λF=>zV F d VO j Wr Ws V3 Wt Wu Wv V Ww Wx)<|BX λ_ _ _ _ _ _ _ _=>rfl;have Wz:=a31.kA E (λF=>Bb F d u0 u1 VO VM VE VJ VR VN VS Wy k_NoRow_NoName k_NoName_NoName k_NoText_NoName k_TooMany_NoName k_NoNumber_NoName k_NoWord_NoName k_NoPair_NoName N Z)<|BX λ_ _ _ _ _ _ _ _=>rfl;have V5:=a32.kA E (λF=>zq F VU Wz)<|SG λ_ _ _ _ _ _ _ _ _=>rfl;exact OC F d m L WA WB j WC V1 WD V4 J WE Z V5
def walk{l:PySem.W.OpenLaw}{q:ah}{U:(Str->bi)->ak->Prop}{L:af->ak->Prop}{d:DefRec}{K:Params->au}(hn:l.most=some 63)(J:d.params.defaults=[])
  (Z:∀(w:af) (h:ak),L w h->(K w.params).In h)
  (F:∀(w:af) (mg:Str->bi) (fa:aj) (h:ak),(K w.params).In h->h.Ns mainGlobals mg->mg d.name=some (.ref fa) ->
   ∃fd:FuncData,(∀(s:aA) (u:aa),BindsTo s fd ⟨[u],[]⟩ [("_law_script",u)])/\∀base:ak,(K w.params).In base->base.Ns mainGlobals mg->FnOk l.prog w (K w.params) mg base qA 8 fa fd ["_law_script"] (su (K w.params) 1 yt)) :
  PySem.W.WalkO q loose U L l.row.toRowW d [] (λf vs=>PySem.call f vs):=
 L2.KR (n:=63) (k:=8) (x := "_law_script") (CX:=λ_=>qA) (sp:=λw=>su (K w.params) 1 yt) hn ⋯ J ⟨rfl,by decide,by decide,rfl⟩ Z F (λ_ H a p m j g=>EI j g<|Ox p m) λ_ _ _ _ _ z=>z
end K88
open PySem PySem.W PyProof.Rows
namespace PySem.W.Fast
local macro_rules|`(command|universe $x*)=>do return Lean.mkNullNode (←x.mapM λx=>`(command|def $x:ident:=Nat))
universe tw3080573327809835139 tw14510311022033798077 tw11083121735457578877 tw8313723439674849025 tw9198621327366730941 tw12147127280632260974 tw10776895776087381345 tw1566657509897258912 tw5088316377222237400 tw15732209511583403890 tw17473826603072414450 tw3744568433179851867 tw16844666148783262695 tw14375800886904478639 tw13343621863127459179 tw1605699955608429712 tw1072435890966037182 tw2850776907260379394 tw16856397173879168447 tw5831899398818138623 tw11168070714429344745 tw13256339811324773086 tw15131150381076440238 tw14495135212793171843 tw4177918729651398530 tw2018496260511319131 tw1744112866849987536 tw12898711691253476833 tw5394745292136120107 tw4309727550001397489 tw816909078071308316 tw14016872397893790379 tw5016499388034109540 tw7737528560666505148 tw15897057723854132348 tw17644901784696735385 tw6408008620779299856 tw7691025661788585014 tw13331407020490435686 tw16775003214321275045 tw8208657589695961628 tw5511371749367727324 tw9541824877019872985 tw17597083670274323939 tw11780844812852689803 tw9091870974191904638 tw15126629182936718564 tw16193317494126180822 tw7531434358146676878 tw14975013105925487371 tw9579514937939371067 tw702508851631565760 tw4505992759368672668 tw2131094202486701904 tw1357496420783264590 tw2433955804931029951 tw6585239289218921965 tw15262297644702602137 tw2583356284139638230 tw18239908338392736279 tw11599876320631132120 tw15810222350672939403 tw5255752538892603234 tw3769072272159748420 tw17505543670731011332 tw10503964722321777916 tw4937972642219353183 tw309221784911102965 tw2779883560973220943 tw6693969962980132143 tw9068204861285880145 tw17782034568701805123 tw11803488273850486414 tw17304522172290709529 tw17794890030391642088 tw15426600242154595543 tw5300804161468765998 tw5940386278496241082 tw10769381662939737531 tw17537848548192221288 tw11211506097604847668 tw9774775026013568544 tw4078193057268588233 tw1365493781653148749 tw8018435794569982597 tw14750783782753663054 tw1744421039377705069 tw10573473881374421955 tw3555352368089073802 tw371694195071847 tw17304732106528514205 tw17266241512845001622 tw14303842697526781324 tw14307527955943587271 tw3461559874802409372 tw5063580387617096285 tw6818815317554685431 tw7635941546763084241 tw6687600286909829674 tw11237219926492410719 tw8859488765360043886 tw17884820008330971006 tw5705475304032850340 tw4267635198208410133 tw3609674407821020788 tw11700771434153423252 tw7541033868731083632 tw4646303361321842026 tw523385296537863568 tw16151634258652434253 tw13009315902426259588 tw11866763317696665951 tw15434172577563182392 tw9786061207236583090 tw3566760741479716061 tw1964340559001864943 tw4311882173009117919 tw14364209800585680011 tw15167328890168663754 tw10603244770670043322 tw16153369577772309500 tw9411648282896247062 tw12782107214706690751 tw5826867758955119720 tw10065220117352313517 tw5097077536286446568 tw17893350969155311356 tw8881603052231774819 tw7235338198269649042 tw16242135553565246654 tw17852564219785092288 tw2377519321952391250 tw1435345061896354564 tw8689096271151341472 tw4801135331507135098 tw11973478359208893948 tw9206497704533526669 tw12875875491034258143 tw17554231126920245455 tw444083565756554673
end PySem.W.Fast
set_option maxRecDepth 100000 in
set_option maxHeartbeats 0 in
theorem PySem.Challenge.cw_undercells_k88_desks_by_turns_holds : PySem.Challenge.rw_undercells_k88_desks_by_turns.Holds := by
 w_on;o_law;k_head;(case hw=>w_witness2)
 k_fill
 refine K88.walk (l:=PySem.Challenge.rw_undercells_k88_desks_by_turns) rfl rfl (fun w h Y=>PySem.W.kIn_of Y) ?F
 case F=>
  intro w mg fa h KX G hmg;refine' K88.all_mk KX G hmg (.of ?_ ?_ ?_ ?_) (.of ?_ ?_ ?_ ?_) (.of ?_ ?_ ?_ ?_) (.of ?_ ?_ ?_ ?_) (.of ?_ ?_ ?_ ?_) (.of ?_ ?_ ?_ ?_) (.of ?_ ?_ ?_ ?_) (.of ?_ ?_ ?_ ?_) (.of ?_ ?_ ?_ ?_) (.of ?_ ?_ ?_ ?_) (.of ?_ ?_ ?_ ?_) (.of ?_ ?_ ?_ ?_) (.of ?_ ?_ ?_ ?_) (.of ?_ ?_ ?_ ?_) (.of ?_ ?_ ?_ ?_) (.of ?_ ?_ ?_ ?_) (.of ?_ ?_ ?_ ?_) (.of ?_ ?_ ?_ ?_) (.of ?_ ?_ ?_ ?_) (.of ?_ ?_ ?_ ?_) (.of ?_ ?_ ?_ ?_) (.of ?_ ?_ ?_ ?_) (.of ?_ ?_ ?_ ?_) (.of ?_ ?_ ?_ ?_) (.of ?_ ?_ ?_ ?_) (.of ?_ ?_ ?_ ?_) ?_ ?_ ?_ ?_ ?_ ?_ ?_ ?_ ?_ ?_ ?_ ?_ ?_ ?_ ?_ ?_ ?_ ?_ ?_ ?_ ?_ ?_ ?_ ?_ ?_ ?_ ?_ ?_ ?_ ⟨?_,?_,?_,?_⟩ (show PySem.W.findIn _ _ _=_ from ?_) (show PySem.W.findIn _ _ _=_ from ?_) (.of ?_ ?_ ?_ ?_ ?_ ?_ ?_) (.of ?_ ?_ ?_ ?_ ?_) (.of ?_ ?_ ?_ ?_ ?_) (.of ?_ ?_ ?_ ?_ ?_) (.of ?_ ?_ ?_ ?_ ?_) (.of ?_ ?_ ?_ ?_ ?_) (.of ?_ ?_ ?_ ?_ ?_) ?_ ?_ ⟨(show nsIn _ _ _=_ from ?_),?_,?_,⟨?_,?_,?_,?_,?_⟩,?_,?_⟩ ⟨(show nsIn _ _ _=_ from ?_),?_,?_,⟨?_,?_,?_,?_,?_⟩,?_,?_⟩ ⟨(show nsIn _ _ _=_ from ?_),?_,?_,⟨?_,?_,?_,?_,?_⟩,?_,?_⟩ ⟨(show nsIn _ _ _=_ from ?_),?_,?_,⟨?_,?_,?_,?_,?_⟩,?_,?_⟩ ⟨(show nsIn _ _ _=_ from ?_),?_,?_,⟨?_,?_,?_,?_,?_⟩,?_,?_⟩ ⟨(show nsIn _ _ _=_ from ?_),?_,?_,⟨?_,?_,?_,?_,?_⟩,?_,?_⟩ ⟨(show nsIn _ _ _=_ from ?_),?_,?_,⟨?_,?_,?_,?_,?_⟩,?_,?_⟩ ?_ ?_ ?_ ?_ ?_ ?_ ?_
  any_goals first|k_is|kernel_rfl
