import PyProof.Rows.All
import Wide.All
import OpenK.AllK
import Wide.FinOn
import Lean
import PyProof.EqAt
import PyProof.EqKinds
import PyProof.TupleCall
import PySem.Challenge.RW_undercells_k87_forty_names_and_twenty_ro
set_option autoImplicit true
set_option relaxedAutoImplicit true
set_option Elab.async false
set_option linter.all false
set_option maxRecDepth 100000
set_option compiler.extract_closed false
set_option maxHeartbeats 4000000
local macro_rules|`($a<|>$b)=>`(autoParam $a $b)
local macro_rules|`(command|abbrev $n:declId $s:optDeclSig $v:declVal)=>`(command|noncomputable def $n:declId $s:optDeclSig $v:declVal)|`(command|meta abbrev $n:declId $s:optDeclSig $v:declVal)=>`(command|@[reducible]noncomputable def $n:declId $s:optDeclSig $v:declVal)
local macro_rules|`(∅)=>`(by decide +kernel)
local macro_rules|`(⋯)=>`(by decide)
local macro_rules|`(tactic|dsimp[$l,*])=>`(tactic|simp only[$l,*])|`(tactic|dsimp[$l,*]$o:location)=>`(tactic|simp only[$l,*]$o:location)
local macro_rules(kind:=Lean.Parser.Term.structInst)|`({})=>`({cls:=.type "list",data:=.seq ([]:List PySem.Value).toArray})
set_option hygiene false
local macro_rules|`(tactic|room)=>`(tactic|obtain⟨ρ,S,τ,R,r,h⟩:=h9)
local macro_rules|`(tactic|z_go)=>`(tactic|intro pins s σ H Q I h)
local macro_rules|`(tactic|x_go)=>`(tactic|intro X hP hw hK hc i pins s σ H E I hf st hg)
local macro_rules|`(tactic|w_up)=>`(tactic|obtain⟨ρ,S,a,b,R,va,vb,h⟩:=h9)
local macro_rules|`(tactic|fin2)=>`(tactic|intro pins s σ H xs us Q I r h)
local macro_rules|`(tactic|k_ne)=>`(tactic|obtain⟨w,rfl,ρ,S,x,R,hv,h⟩:=Hw h0)
local macro_rules|`(tactic|kt_k)=>`(tactic|intro pins s σ H x y v u Q I rx ry h)
local macro_rules|`(tactic|kd_p)=>`(tactic|obtain⟨f0,f1,f2,f3,f4,f5⟩:=hf it (by simp))
local macro_rules|`(tactic|gn_on)=>`(tactic|obtain⟨xs,hn,h⟩:=gZ h)
local macro_rules|`(tactic|gp_on)=>`(tactic|obtain⟨ρ,S,τ,R,r,h⟩:=h)
local macro_rules|`(tactic|kj_on)=>`(tactic|obtain⟨t,rfl⟩:=rx)
local macro_rules|`(tactic|kcf_m)=>`(tactic|intro pins s σ H D I h)
local macro_rules|`(tactic|kcj_m)=>`(tactic|obtain⟨u,rfl,rx⟩:=vals1 r)
local macro_rules|`(tactic|kpc_g)=>`(tactic|exact⟨ρ1,S1,τ,R1,r.ext e1,gP h1 e1 λ_ _ z=>z.ext e1⟩)
local macro_rules|`(tactic|kpf_c)=>`(tactic|have hfree:∀y∈scope.names,y.2=.free->∃c,X.env.cells.lookup y.1=some c:=λy hy e=>I.ok.has _ (S.fr y hy e))
local macro_rules|`(tactic|ksr_p)=>`(tactic|refine⟨ρ,S,τ,R,r,gP (gU h) .refl λx S1 h1 ρ1 H1 v e1 R1 v1=>?_⟩)
local macro_rules|`(tactic|kst_p)=>`(tactic|have k1:(PySem.W.hideAll g' (frs (X.env::X.outer))).StaysIn s'.heap:=λb o q=>M.keeps b o (cG _ q))
set_option hygiene true
local macro_rules|`(())=>`(by lia)
@[reducible]def ag:=List Int
@[reducible]def am:=List Nat
@[reducible]def ar:=List PySem.Str
@[reducible]def ba:=List PySem.Value
@[reducible]def bb:=List PySem.Addr
@[reducible]def bd:=Option PySem.Value
@[reducible]def be:=Option Int
@[reducible]def bi:=Option Bool
@[reducible]def bj:=Option Nat
@[reducible]def bo:=List<|PySem.Addr×PySem.Obj
def aH:=@PySem.wpAny_bind
def aI:=@PySem.Heap.get?_push_of_some
def aJ:=@List.forall_mem_cons
def aK:=@List.length_map
def aL:=@PySem.wpAny_pure
def aM:=@List.getElem?_eq_some_iff
def aN:=@List.getElem?_eq_getElem
def aO:=@Nat.le_refl
def aP:=@List.size_toArray
def aQ:=@if_neg
def aR:=@Option.some.inj
def aS:=@PySem.Heap.lt_size
def aT:=@if_pos
def aU:=@PySem.Heap.get?_push_size
def aV:=@Option.map_eq_some_iff
def aW:=@List.getElem?_append_left
def aX:=@List.getD_eq_getElem?_getD
def aY:=@List.map_cons
def aZ:=@List.length_append
def a_:=@List.getElem?_set_ne
def bf:=@List.mem_cons_of_mem
def bh:=@Bool.false_ne_true
def bq:=@List.length_cons
def br:=@Nat.ne_of_lt
def bu:=@Nat.lt_of_lt_of_le
def bw:=@List.mem_cons_self
def bx:=@List.mem_append_right
def bz:=@List.getElem?_set_self
def bA:=@PySem.wpAny_newObj_type
def bB:=@List.mem_singleton
def bC:=@List.mem_append_left
def bD:=@PySem.sizeLine_eq
def bE:=@List.getElem?_map
def bF:=@decide_eq_true
def bG:=@List.mem_cons
def bH:=@PySem.W.mg_none_of
def bI:=@List.mem_of_getElem?
def bJ:=@List.mem_map
def bK:=@decide_eq_false
def bL:=@List.length_set
def bM:=@PySem.W.mg_of
def bN:=@Nat.le_trans
def bO:=@PySem.F.slot_dict_itemiterator_next
def bP:=@Ne.symm
def bQ:=@List.mem_append
def bR:=@PySem.wpAny_field
def bS:=@Option.bind_eq_some_iff
def bT:=@List.append_nil
def bV:=@List.map_append
def bW:=@List.append_assoc
def bX:=@PySem.wpAny_holding
def bY:=@Option.isSome_iff_exists
def bZ:=@PyProof.Rows.slot_tuple_getitem
def b7:=@beq_eq_false_iff_ne
def b8:=@PySem.mem_of_lookup
def b9:=@PySem.W.kia_one
def b_:=@PySem.wpAny_mono
def cg:=@List.all_eq_true
def cj:=@Bool.not_true
def ck:=@Nat.lt_succ_self
def cz:=@PySem.wpAny_call_entry
def cA:=@Bool.and_eq_true
def cB:=@beq_self_eq_true
def cC:=@List.lookup_cons
def cD:=@PySem.W.hideAll_get
def cE:=@Array.length_toList
def cF:=@PySem.wpAny_callSpecial?_slot
def cG:=@PySem.W.of_hideAll
def cH:=@PySem.Heap.size_push
def cI:=@List.replicate_succ
def cJ:=@PySem.wpAny_truthy_bool
def cK:=@List.nodup_append
def cL:=@List.find?_cons
def cM:=@List.length_take
def cN:=@List.filter_cons_of_neg
def cO:=@Int.toNat_natCast
def cP:=@PySem.Heap.get?_update_other
def cQ:=@List.take_of_length_le
def cR:=@List.length_drop
def cS:=@Option.getD_some
def cT:=@PySem.wpAny_typeNameOfWhole_itemiter
def cU:=@PySem.AutoSeq1.wpAny_loadPart'
def cV:=@List.map_map
def cW:=@congrArg
def cX:=@List.flatten_cons
def cY:=@List.filter_cons_of_pos
def cZ:=@PySem.PassesOwn.never
def c5:=@PyProof.Rows.callWith_type1
def c6:=@Nat.lt_irrefl
def c7:=@List.getElem_mem
def c8:=@Option.bind_some
def c9:=@List.mem_filterMap
def c_:=@List.getElem?_append_right
def dc:=@PySem.F.slot_tuple_iterator_next
def dg:=@PySem.Obj.data_mapFields
def dh:=@PySem.Heap.get?_update_self
def dj:=@List.length_singleton
def dw:=@PySem.wpAny_typeNameOf_itemiter
def dz:=@PySem.wpAny_passesOwn
def dB:=@List.nodup_cons
def dD:=@if_true
def dF:=@List.range_eq_range'
def dG:=@List.mem_iff_getElem
def dH:=@PySem.F.slot_list_append
def dI:=@PySem.F.type_list_append
def dJ:=@List.filterMap_cons
def dM:=@List.length_reverse
def dN:=@List.range'_succ
def dO:=@List.prefix_refl
def dP:=@PySem.W.cellsFrom_some
def dQ:=@PySem.wpAny_isOneOf_itemiter
def dR:=@PySem.wpAny_setField_rec
def dS:=@List.prefix_append
def dW:=@List.any_cons
def dX:=@PySem.Obj.isFreed_of_fields
def dY:=@PySem.F.slot_str_join
def dZ:=@PySem.F.type_str_join
def d7:=@of_decide_eq_true
def d8:=@beq_iff_eq
def d_:=@PySem.wpAny_setField
def ef:=@PySem.F.excBase_ValueError
def eg:=@Nat.le_of_lt
def eo:=@List.getElem_inj
def ez:=@Nat.ne_of_gt
def eB:=@List.filter_cons
def eE:=@PySem.F.args_dict_itemiterator_next_1
def eF:=@PySem.Heap.SameBut.update
def eG:=@PySem.F.entry_dict_itemiterator_next
def eK:=@PySem.F.args_tuple_add_2
def eN:=@if_false
def eO:=@PySem.wpAny_attempt
def eS:=@PySem.F.slot_dict_itemiterator_iter
def eT:=@PySem.wpAny_execs_nil
def eU:=@PySem.wpAny_pyIter_tuple
def eV:=@PySem.wpAny_Call_Name_kw
def eW:=@PySem.call_meets
def eX:=@PySem.tupleKind_room_in1
def eY:=@Int.emod_lt_of_pos
def eZ:=@Nat.zero_le
def e_:=@List.getElem?_replicate
def ff:=@PySem.F.entry_tuple_add
def fh:=@List.mem_range
def fj:=@PySem.codeAny_mono
def fm:=@PySem.F.slot_tuple_add
def fq:=@PySem.Calls.callWith_builtin
def fu:=@List.reverse_cons
def fy:=@PySem.W.funFrames_hide
def fB:=@PySem.wpAny_noteFrame_againW
def fD:=@List.Perm.refl
def fE:=@List.drop_zero
def fF:=@Bool.not_false
def fG:=@Array.getElem?_toList
def fH:=@List.length_filter_le
def fJ:=@PySem.F.slot_dict_get
def fK:=@PySem.W.KIN.num_reads
def fL:=@PySem.wpAny_standAt
def fM:=@PySem.strLen_append
def fN:=@PySem.Sem.wp_pure
def fQ:=@List.take_append_of_le_length
def fR:=@List.drop_append_of_le_length
def fS:=@PySem.F.slot_dict_items_iter
def fU:=@PyProof.Rows.joinParts_consE
def fV:=@Int.emod_nonneg
def fW:=@PySem.W.plainGet_of
def fX:=@ne_true_of_eq_false
def fY:=@List.filter_eq_self
def fZ:=@List.map_set
def f6:=@PySem.Calls.Constant_str
def f7:=@PySem.Heap.IsSliceOf.new
def f9:=@PySem.typeIs_str
def f_:=@Bool.false_eq_true
def gb:=@Option.isSome_some
def gc:=@PySem.F.args_str_split_2
def gf:=@PySem.wpAny_fieldsOf
def gh:=@List.pairwise_cons
def gi:=@Array.getElem?_eq_some_iff
def gj:=@PySem.wpAny_pyIter_list
def gk:=@PySem.slot_list_getitem
def gp:=@PySem.F.entry_str_split
def gq:=@Option.isSome_map
def gr:=@PySem.wpAny_dictEntries
def gu:=@decide_eq_true_eq
def gv:=@PySem.Paired.length
def gw:=@PySem.evalPart_none
def gx:=@List.cons_append
def gy:=@List.not_mem_nil
def gz:=@PySem.wpAny_call
def gA:=@List.map_nil
def gB:=@PySem.call_meetsIn
def gC:=@Nat.sub_self
def gD:=@List.mem_filter
def gE:=@List.of_mem_zip
def gF:=@List.length_nil
def gG:=@Nat.min_eq_left
def gH:=@Bool.and_false
@[reducible]def aa:=PySem.Value
@[reducible]def af:=PySem.World
@[reducible]def ah:=PySem.Program
@[reducible]def aj:=PySem.Addr
@[reducible]def au:=PySem.Heap
@[reducible]def az:=PySem.W.Frag
@[reducible]def aA:=PySem.Around
@[reducible]def aE:=PySem.Shared
@[reducible]def aF:=PySem.Expr
@[reducible]def aG:=PySem.Stmt
def anI{a b:Prop}(h:a)(k:b):a/\b:=⟨h,k⟩
open Array (all_toList)
open List (all_cons map_drop map_take)
open Nat (le_succ not_lt succ_mul zero_add)
open Option (getD_none)
namespace L2
open PySem PySem.Spec PyProof.Rows
meta abbrev Key:=Sum Int Str
abbrev wK:Key->aa->Bool
 | .inl k,v=>Value.isInt k v
 | .inr x,v=>Value.isStrOf x v
abbrev Uy (w:af):Key->Int
 | .inl k=>hashInt k
 | .inr x=>hashStr w x
def ju:∀{k:Key}{v:aa},wK k v=true->(∃i t,k=Sum.inl i/\v=Value.int i t)\/(∃x t,k=Sum.inr x/\v=Value.str x t)
 | .inl i,v,h=>by
  obtain⟨t,e⟩:=Value.isInt_shape (k:=i) (v:=v) h;exact .inl ⟨i,t,rfl,e⟩
 | .inr x,v,h=>by
  obtain⟨t,e⟩:=Value.isStrOf_shape (x:=x) (v:=v) h;exact .inr ⟨x,t,rfl,e⟩
def FO(i:Int)(t:Tok):wK (.inl i) (.int i t)=true:=by simp[wK,Value.isInt]
def F9(x:Str)(t:Tok):wK (.inr x) (.str x t)=true:=by simp[wK,Value.isStrOf]
def O3(a b:Int):decide ((Sum.inl a:Key)=Sum.inl b)=(a == b):=by
 by_cases e:a=b
 ·subst e;simp
 ·have h:¬(Sum.inl a:Key)=Sum.inl b:=λq=>e<|Sum.inl.inj q;rw[bK h];exact(b7.mpr e).symm
def Pn(a b:Str):decide ((Sum.inr a:Key)=Sum.inr b)=decide (a=b):=by
 by_cases e:a=b
 ·subst e;simp
 ·have h:¬(Sum.inr a:Key)=Sum.inr b:=λq=>e<|Sum.inr.inj q;rw[bK h,bK e]
def O0(a:Int)(b:Str):decide ((Sum.inl a:Key)=Sum.inr b)=false:=bK λq=>nomatch q
def Pk(a:Str)(b:Int):decide ((Sum.inr a:Key)=Sum.inl b)=false:=bK λq=>nomatch q
abbrev iR (prog:ah)(w:af):PySem.KeyKind prog w Key where
 is:=wK
 hash:=Uy w
 inj:=λv a b g d=>by
  rcases ju g with⟨i,t,rfl,rfl⟩|⟨x,t,rfl,rfl⟩
  ·rcases ju d with⟨j,u,rfl,e⟩|⟨y,u,rfl,e⟩
   ·injection e with e1 _;rw[e1]
   ·exact nomatch e
  ·rcases ju d with⟨j,u,rfl,e⟩|⟨y,u,rfl,e⟩
   ·exact nomatch e
   ·injection e with e1 _;rw[e1]
 byValue:=λk v h=>by
  rcases ju h with⟨i,t,rfl,rfl⟩|⟨x,t,rfl,rfl⟩<;>rfl
 pyHash:=λhv h=>by
  rcases ju hv with⟨i,t,rfl,rfl⟩|⟨x,t,rfl,rfl⟩
  ·exact wpAny_pyHash_int h
  ·exact wpAny_pyHash_str h
 eqBool:=λf hv h=>by
  rcases ju f with⟨i,t,rfl,rfl⟩|⟨x,t,rfl,rfl⟩
  ·rcases ju hv with⟨j,u,rfl,rfl⟩|⟨y,u,rfl,rfl⟩
   ·rw[O3]at h;exact wpAny_eqBool_int h
   ·rw[O0]at h;exact SeqAt.EqAt.int_str i t y u _ _ _ _ h
  ·rcases ju hv with⟨j,u,rfl,rfl⟩|⟨y,u,rfl,rfl⟩
   ·rw[Pk]at h;exact SeqAt.EqAt.str_int x t j u _ _ _ _ h
   ·rw[Pn]at h;exact wpAny_eqBool_str h
 «strs»:=λk x t v h=>by
  rcases ju h with⟨i,u,rfl,e⟩|⟨y,u,rfl,e⟩
  ·exact nomatch e
  ·injection e with e1 _
   subst e1
   cases v<;>rfl
def Aj(prog:ah)(w:af)(i:Int)(t:Tok):(iR prog w).is (.inl i) (.int i t)=true:=FO i t
def A9(prog:ah)(w:af)(x:Str)(t:Tok):(iR prog w).is (.inr x) (.str x t)=true:=F9 x t
inductive V where
 | non|bl (b:Bool)|int (i:Int)|str (x:Str)|byt (b:Array UInt8)|flt (b:UInt64)|ref (a:aj)|ty (n:String)
 deriving DecidableEq
abbrev RelV:V->aa->Prop
 | .non,u=>u=Value.none
 | .bl b,u=>u=Value.bool b
 | .int i,u=>∃t,u=Value.int i t
 | .str x,u=>∃t,u=Value.str x t
 | .byt b,u=>∃t,u=Value.bytes b t
 | .flt b,u=>∃t,u=Value.float b t
 | .ref a,u=>u=Value.ref a
 | .ty n,u=>u=Value.type n
meta abbrev Vals:List V->ba->Prop:=Paired RelV
def Vals.length{xs:List V}{us:ba}(r:Vals xs us):xs.length=us.length:=gv r
theorem Vals.get:∀{xs:List V}{us:ba}{i:Nat}{x:V},Vals xs us->xs[i]?=some x->∃u,us[i]?=some u/\RelV x u
 | _,_,_,_,.nil,e=>by simp at e
 | _,_,0,_,.cons r _,e=>by simp at e;subst e;exact⟨_,rfl,r⟩
 | _,_,i+1,x,.cons _ t,e=>by
  obtain⟨u,h1,d⟩:=Vals.get (i:=i) (x:=x) t (by simpa using e);exact⟨u,by simpa using h1,d⟩
theorem Vals.set{x:V}(r:RelV x u):∀{xs:List V}{us:ba}(i:Nat),Vals xs us->Vals (xs.set i x) (us.set i u)
 | _,_,_,.nil=>.nil
 | _,_,0,.cons _ t=>.cons r t
 | _,_,i+1,.cons q t=>.cons q<|Vals.set r i t
theorem Vals.append:∀{xs ys:List V}{us ws:ba},Vals xs us->Vals ys ws->Vals (xs++ys) (us++ws)
 | _,_,_,_,.nil,s=>s
 | _,_,_,_,.cons r t,s=>.cons r<|Vals.append t s
theorem Vals.take:∀{xs:List V}{us:ba}(n:Nat),Vals xs us->Vals (xs.take n) (us.take n)
 | _,_,0,_=>.nil
 | _,_,_+1,.nil=>.nil
 | _,_,n+1,.cons r t=>.cons r<|Vals.take n t
theorem Vals.drop:∀{xs:List V}{us:ba}(n:Nat),Vals xs us->Vals (xs.drop n) (us.drop n)
 | _,_,0,r=>r
 | _,_,_+1,.nil=>.nil
 | _,_,n+1,.cons _ t=>Vals.drop n t
abbrev pT:Option V->bd->Prop
 | some v,some u=>RelV v u
 | none,none=>True
 | _,_=>False
abbrev KV {κ:Type}:List (κ×V)->List (κ×aa)->Prop:=Paired λ(p:κ×V) (q:κ×aa)=>p.1=q.1/\RelV p.2 q.2
abbrev kV:Key->V
 | .inl i=>.int i
 | .inr x=>.str x
inductive HO where
 | lst (xs:List V)
 | tup (xs:List V)
 | dK (kvs:List<|Key×V)|dT (kvs:List<|List Key×V)
 | set (S:Int->Bool) (n:Nat)
 | ins (C dx:aj) (fs:List<|Str×V)
 | own (x:aj)
 | xd (fs:List<|Str×V)
 | met (f x:aj)
 | rng (lo hi:Int)
 | frz (o:Obj) (u:HO)
 | tbl (ps:Array aa)
 | ext (φ:au->Prop)
meta abbrev Hp:=aj->Option HO
abbrev upd (H:Hp)(a:aj)(o:HO):Hp:=λb=>if b=a then some o else H b
def iF{H:Hp}{a:aj}:upd H a o a=some o:=by unfold upd;rw[aT rfl]
def gV{H:Hp}{a:aj}(h:b≠a):upd H a o b=H b:=by unfold upd;rw[aQ h]
def NV{H:Hp}{a:aj}(h:H a=some o)(h':H b=some u)(d:o≠u):a≠b:=by
 intro e;subst e;rw[h]at h';exact d<|aR h'
def g9{H:Hp}{a:aj}(h:H a=some o)(h':H b=none):a≠b:=by
 intro e;subst e;rw[h]at h';cases h'
abbrev lC (h:au)(a:aj)(j:Array aa):Prop:=∃o,h.get? a=some o/\o.cls=.type "tuple" /\ o.dict=none/\∃n,o.data=.seq j n
def lC.tup{a:aj}:lC h a items->IsTup h a items:=λ⟨o,e,c,_,n,d⟩=>⟨o,e,c,n,d⟩
def lC.new(h:au)(j:Array aa):lC (h.push { cls:=.type "tuple",data:=.seq j }) h.objs.size j:=⟨_,aU _ rfl,rfl,rfl,_,rfl⟩
def lC.lt{h:au}{a:aj}(x:lC h a items):a<h.objs.size:=let⟨_,ho,_⟩:=x;aS ho
section
variable (P:ah) (w:af)
abbrev jm (H:Hp)(h:au)(a:aj):HO->Prop
 | .lst xs=>xs.length<=sizeLine/\∃(d:ba) (n:Nat),Vals xs d/\h.get? a=some { cls:=.type "list",data:=.seq d.toArray n }
 | .tup xs=>xs.length<=sizeLine/\∃d:ba,Vals xs d/\lC h a d.toArray
 | .dK kvs=>kvs.length<=sizeLine/\(a == sysModules)=false/\∃vs,KV kvs vs/\h.DictOf (iR P w) a vs
 | .dT kvs=>kvs.length<=sizeLine/\(a == sysModules)=false/\∃xs:List<|List Key×aj×aa,
   Paired (λ(p:List Key×V) (q:List Key×aj×aa)=>p.1=q.1/\H q.2.1=some (.tup<|p.1.map kV)/\RelV p.2 q.2.2) kvs xs /\
   ∃o es ep,h.get? a=some o/\o.ExactDict/\o.data=.dict es ep/\es.toList=xs.map (entryOfKey<|tupleKind<|iR P w)/\(xs.map (·.1)).Nodup
 | .set S n=>h.SetOf (intKind P w) a S n
 | .ins C dx fs=>H dx=some (.own a)/\fs.length<=1000/\dx≠a/\h.get? a=some (PySem.W.instObj C dx) /\
   ∃mA,h.Ns1 dx mA/\(∀f,pT (fs.lookup f)<|mA f)/\PySem.Within mA (fs.map (·.1))
 | .own _=>∃o,h.get? a=some o
 | .xd fs=>∃mA,h.Ns1 a mA/\∀f,pT (fs.lookup f) (mA f)
 | .rng lo hi=>∃t u v,h.get? a=some { cls:=.type "range",data:=.fields #[.int lo t,.int hi u,.int 1 v]}
 | .frz o u=>h.get? a=some o/\jm H h a u
 | .tbl ps=>h.get? a=some { cls:=.none,data:=.fields ps }
 | .met f x=>h.get? a=some (PySem.W.methodObj (.ref f)<|.ref x)
 | .ext g=>g h/\(∃o,h.get? a=some o)/\∀h1 j:au,g h1->(∀o,h1.get? a=some o->j.get? a=some o)->g j
abbrev qR (H:Hp)(h:au):Prop:=∀a o,H a=some o->jm P w H h a o
end
section
variable {P:ah}{w:af}{H H':Hp}{h h':au}{a:aj}{o:HO}
def jm.lt(x:jm P w H h a o):a<h.objs.size:=by
 cases o with
 | lst xs=>obtain⟨_,_,_,_,e⟩:=x;exact aS e
 | tup xs=>obtain⟨_,_,_,p⟩:=x;exact lC.lt p
 | dK kvs=>obtain⟨_,_,_,_,o,_,_,e,_⟩:=x;exact aS e
 | dT kvs=>obtain⟨_,_,_,_,o,_,_,e,_⟩:=x;exact aS e
 | set S n=>obtain⟨o,_,_,_,e,_⟩:=x;exact aS e
 | ins C dx fs=>obtain⟨_,_,_,e,_⟩:=x;exact aS e
 | own y=>obtain⟨_,e⟩:=x;exact aS e
 | xd fs=>obtain⟨_,⟨_,_,_,e,_⟩,_⟩:=x;exact aS e
 | rng lo hi=>obtain⟨_,_,_,e⟩:=x;exact aS e
 | frz ob u=>obtain⟨e,_⟩:=x;exact aS e
 | tbl ps=>exact aS (show h.get? a=some _ from x)
 | met f y=>exact aS (show h.get? a=some _ from x)
 | ext d=>obtain⟨_,⟨_,e⟩,_⟩:=x;exact aS e
theorem Paired.Qt{α β:Type}{F G:α->β->Prop}:∀{l₁:List α}{l₂:List β},Paired F l₁ l₂->(∀a b,F a b->G a b)->Paired G l₁ l₂
 | _,_,.nil,_=>.nil
 | _,_,.cons r t,f=>.cons (f _ _ r)<|Paired.Qt t f
def jm.stay(x:jm P w H h a o)(k:∀b u,(b=a\/H b=some (.own a))->h.get? b=some u->h'.get? b=some u)
  (J:∀b,H b=some (.own a)->H' b=some (.own a)) (L:∀b xs,H b=some (.tup xs)->H' b=some (.tup xs)):jm P w H' h' a o:=by
 induction o with
 | lst xs=>obtain⟨z,g,n,r,e⟩:=x;exact⟨z,g,n,r,k _ _ (.inl rfl) e⟩
 | tup xs=>obtain⟨z,g,r,ob,e,c⟩:=x;exact⟨z,g,r,ob,k _ _ (.inl rfl) e,c⟩
 | dK kvs=>obtain⟨z,y,vs,r,ob,es,ep,e,c⟩:=x;exact⟨z,y,vs,r,ob,es,ep,k _ _ (.inl rfl) e,c⟩
 | dT kvs=>
  obtain⟨z,y,xs,r,ob,es,ep,e,c⟩:=x;exact⟨z,y,xs,Paired.Qt r λp q z=>⟨z.1,L _ _ z.2.1,z.2.2⟩,ob,es,ep,k _ _ (.inl rfl) e,c⟩
 | set S n=>obtain⟨ob,es,ep,t,e,c⟩:=x;exact⟨ob,es,ep,t,k _ _ (.inl rfl) e,c⟩
 | ins C dx fs=>
  obtain⟨d,z,ne,e,mA,⟨od,es,ep,e2,c⟩,r⟩:=x;exact⟨J _ d,z,ne,k _ _ (.inl rfl) e,mA,⟨od,es,ep,k _ _ (.inr d) e2,c⟩,r⟩
 | own y=>obtain⟨ob,e⟩:=x;exact⟨ob,k _ _ (.inl rfl) e⟩
 | xd fs=>obtain⟨mA,⟨od,es,ep,e,c⟩,r⟩:=x;exact⟨mA,⟨od,es,ep,k _ _ (.inl rfl) e,c⟩,r⟩
 | rng lo hi=>obtain⟨t,u,v,e⟩:=x;exact⟨t,u,v,k _ _ (.inl rfl) e⟩
 | frz ob u j=>obtain⟨e,q⟩:=x;exact⟨k _ _ (.inl rfl) e,j q⟩
 | tbl ps=>
  have e:h.get? a=some { cls:=.none,data:=.fields ps }:=x
  skip
  exact k a _ (.inl rfl) e
 | met f y=>
  have e:h.get? a=some (PySem.W.methodObj (.ref f)<|.ref y):=x
  skip
  exact k a _ (.inl rfl) e
 | ext m=>obtain⟨p,⟨o,e⟩,st⟩:=x;exact⟨st _ _ p λo q=>k _ _ (.inl rfl) q,⟨o,k _ _ (.inl rfl) e⟩,st⟩
def qR.lt(x:qR P w H h)(e:H a=some o):a<h.objs.size:=(x a o e).lt
def qR.fresh(x:qR P w H h)(e:h.objs.size<=a):H a=none:=by
 cases q:H a with
 | none=>rfl
 | some u=>exact absurd (bu (x.lt q) e)<|c6 _
def qR.kept(x:qR P w H h)(k:∀b u,h.get? b=some u->h'.get? b=some u):qR P w H h':=λa o e=>
 (x a o e).stay (λb u _ q=>k b u q) (λ_ q=>q) λ_ _ q=>q
def qR.laid(x:qR P w H h)(k:∀b u,h.get? b=some u->h'.get? b=some u)(hp:h.objs.size<=a)(new:jm P w (upd H a o) h' a o):qR P w (upd H a o) h':=λb u e=>by
 have hn:=x.fresh hp;by_cases d:b=a
 ·subst d;rw[iF]at e;cases e;exact new
 ·rw[gV d]at e;exact(x b u e).stay (λc v _ q=>k c v q) (λc q=>by rw[gV<|g9 q hn];exact q) λc xs q=>by rw[gV<|g9 q hn];exact q
end
abbrev Rd (H:Hp)(a:aj)(u:HO):Prop:=H a=some u\/∃o,H a=some (.frz o u)
def Rd.ok{P:ah}{w:af}{H:Hp}{a:aj}(r:Rd H a u)(x:qR P w H h):jm P w H h a u:=by
 rcases r with r|⟨o,r⟩
 ·exact x a u r
 ·obtain⟨_,q⟩:=x a _ r;exact q
abbrev Sa:Option HO->Prop
 | some (.lst _)=>True
 | some (.dK _)=>True
 | some (.dT _)=>True
 | some (.set _ _)=>True
 | some (.ins _ _ _)=>True
 | some (.ext _)=>True
 | _=>False
section
variable {P:ah}{w:af}{H:Hp}{h h':au}{x e:aj}{o':HO}
def qR.write(ok:qR P w H h)(J:Sa<|H x)(U:e=x\/H e=some (.own x))(k:∀b u,b≠e->h.get? b=some u->h'.get? b=some u)(L:∃u,h'.get? e=some u)
  (new:jm P w (upd H x o') h' x o'):qR P w (upd H x o') h':=λb u q=>by
 have f:∀c y,H c=some (.own y)->c≠x:=λc y r z=>by subst z;rw[r]at J;exact J
 have g:∀c xs,H c=some (.tup xs)->c≠x:=λc xs r z=>by subst z;rw[r]at J;exact J
 by_cases j:b=x
 ·subst j;rw[iF]at q;cases q;exact new
 ·rw[gV j]at q;by_cases d:b=e
  ·have q':H b=some (.own x):=by
    rcases U with z|z
    ·exact absurd (d.trans z) j
    ·rw[d];exact z
   rw[q]at q';cases q';obtain⟨v,hv⟩:=L;exact⟨v,by rw[d];exact hv⟩
  ·refine(ok b u q).stay (λc v hc r=>k c v ?_ r) (λc r=>by rw[gV<|f c b r];exact r) λc xs r=>by rw[gV<|g c xs r];exact r
   rcases hc with rfl|hc
   ·exact d
   ·rintro rfl
    rcases U with z|z
    ·exact f c b hc z
    ·rw[hc]at z;cases z;exact j rfl
end
structure Un (fs ex:bb)(H H':Hp)(h h':au):Prop where
 keep:∀b o,h.get? b=some o->H b=none->b∉fs->b∉ex->h'.get? b=some o
 slot:∀b o,h.get? b=some o->H b=none->b∈fs->b∉ex->∃sl,h'.get? b=some { o with slots:=sl }
 free:∀b o,h.get? b=some o->H b=none->b∉ex->H' b=none
 there:∀b o,h.get? b=some o->b∉ex->∃o',h'.get? b=some o'
 tups:∀b xs,H b=some (.tup xs)->H' b=some (.tup xs)
 frzs:∀b o u,H b=some (.frz o u)->H' b=some (.frz o u)
 tbls:∀b ps,H b=some (.tbl ps)->∃more,H' b=some (.tbl<|ps++more)
section
variable {fs ex:bb}{H H1:Hp}{h h1 h':au}{a x e:aj}{o:HO}
def Un.any(u:Un fs ex H H1 h h1){ob:Obj}(q:h.get? b=some ob)(n:H b=none)(j:b∉ex):∃sl,h1.get? b=some { ob with slots:=sl }:=by
 by_cases d:b∈fs
 ·exact u.slot b ob q n d j
 ·exact⟨ob.slots,u.keep b ob q n d j⟩
def Un.kept(k:∀b u,h.get? b=some u->h'.get? b=some u):Un fs ex H H h h':=
 ⟨λb ob q _ _ _=>k b ob q,λb ob q _ _ _=>⟨ob.slots,k b ob q⟩,λ_ _ _ n _=>n,λb ob q _=>⟨ob,k b ob q⟩,λ_ _ q=>q,λ_ _ _ q=>q,λ_ ps q=>⟨#[],by rw[q];simp⟩⟩
def Un.refl:Un fs ex H H h h:=Un.kept λ_ _ q=>q
def Un.laid(k:∀b u,h.get? b=some u->h'.get? b=some u)(hp:h.objs.size<=a)(hn:H a=none):Un fs ex H (upd H a o) h h' where
 keep:=λb u q _ _ _=>k b u q
 slot:=λb u q _ _ _=>⟨u.slots,k b u q⟩
 free:=λb u q n _=>by rw[gV<|br<|bu (aS q) hp];exact n
 there:=λb u q _=>⟨u,k b u q⟩
 tups:=λb xs q=>by rw[gV<|g9 q hn];exact q
 frzs:=λb u xs q=>by rw[gV<|g9 q hn];exact q
 tbls:=λb ps q=>⟨#[],by rw[gV<|g9 q hn,q];simp⟩
def Un.write(J:Sa<|H x)(U:e=x\/H e=some (.own x))(k:∀b u,b≠e->h.get? b=some u->h'.get? b=some u)(L:∃u,h'.get? e=some u):Un fs ex H (upd H x o) h h':=by
 have g:∀b,H b=none->b≠x:=λb n z=>by subst z;rw[n]at J;exact J
 have j:∀b,H b=none->b≠e:=λb n z=>by
  subst z
  rcases U with r|r
  ·exact g b n r
  ·rw[n]at r;cases r
 have f:∀b u,H b=some u->¬Sa (some u)->b≠x:=λb u q nm z=>by subst z;rw[q]at J;exact nm J
 refine⟨λb u q n _ _=>k b u (j b n) q,λb u q n _ _=>⟨u.slots,k b u (j b n) q⟩,λb u q n _=>by rw[gV<|g b n];exact n,λb u q _=>?_,
  λb xs q=>by rw[gV<|f b _ q λz=>z];exact q,λb u xs q=>by rw[gV<|f b _ q λz=>z];exact q,λb ps q=>⟨#[],by rw[gV<|f b _ q λz=>z,q];simp⟩⟩
 by_cases d:b=e
 ·subst d;exact L
 ·exact⟨u,k b u d q⟩
end
abbrev TJ (h:au)(H:Hp):bb:=(List.range h.objs.size).filter λa=>(H a).isSome
abbrev ze (h:au)(H:Hp):au:=PySem.W.hideAll h<|TJ h H
def FW(h:au)(H:Hp):(ze h H).objs.size=h.objs.size:=PySem.W.hideAll_size _ _
def IP{h:au}{H:Hp}(e:h.get? b=some o)(n:H b=none):(ze h H).get? b=some o:=
 cD _ e λd=>by
  have q:(H b).isSome=true:=(gD.mp d).2;rw[n]at q;simp at q
def L3{h:au}{H:Hp}(e:(ze h H).get? b=some o):h.get? b=some o/\H b=none:=by
 have d:h.get? b=some o:=cG (TJ h H) e;refine⟨d,?_⟩
 cases q:H b with
 | none=>rfl
 | some x=>
  have f:b∈TJ h H:=gD.mpr ⟨fh.mpr<|aS d,by simp[q]⟩;have z:(ze h H).get? b=none:=PySem.W.hideAll_none (TJ h H) f;rw[z]at e;cases e
abbrev LU (g h:au)(L:aj):bo:=(List.range h.objs.size).filterMap λa=>if a=L\/(g.get? a).isSome=true then none else(h.get? a).map λo=>(a,o)
abbrev rest (g h:au)(L d:aj):bo:=(LU g h L).filter λp=>decide<|p.1≠d
structure Mod (K:az)(mg:Str->bd)(base:au):Prop where
 kin:K.In base
 glob:base.Ns mainGlobals mg
 blt:∃mb,base.Ns builtinsNs mb/\∀x:Str,x ≠ "__name__" -> mb x=bootBuiltins x
 nolimit:base.NoLimit
structure Cx where
 prog:ah
 w:af
 K:az
 mg:Str->bd
 base:au
 A:aA
 N:ar
 s₀:aE
 H₀:Hp
 env:Env
 outer:List Env
 stack:List Env
 ex:bb
 fn:Str->Bool
 calm:Bool
 pn:bo
 xe:aa->aE->Prop
abbrev frs (l:List Env):bb:=l.filterMap (·.frame)
meta abbrev Cx.fs (X:Cx):bb:=frs X.outer
abbrev TN (j:Scope)(x:Str):Prop:=j.names.lookup x=some .local\/j.names.lookup x=some .cell\/j.names.lookup x=some .free
abbrev Loc (j:Scope)(x:Str):Prop:=j.names.lookup x=some .local\/j.names.lookup x=some .cell
abbrev Look (env:Env)(h:au)(m:Str->bd)(x:Str)(u:aa):Prop:=
 (env.kindOf x=some .local/\m x=some u)\/((env.kindOf x=some .cell\/env.kindOf x=some .free)/\∃c,env.cells.lookup x=some c/\h.IsCell c (some u))
structure Cx.Ok (X:Cx):Prop where
 mod:Mod X.K X.mg X.base
 kind:X.env.scope.kind=.function
 glob:X.env.globals=mainGlobals
 blt:X.env.builtins=builtinsNs
 above:X.s₀.heap.objs.size<=X.env.locals
 inj:∀x y c,X.env.cells.lookup x=some c->X.env.cells.lookup y=some c->x=y
 has:∀x,(X.env.kindOf x=some .cell\/X.env.kindOf x=some .free)->∃c,X.env.cells.lookup x=some c
 cab:∀x c,X.fn x=true->X.env.cells.lookup x=some c->X.s₀.heap.objs.size<=c
 hd:X.calm=true->X.A.handled=none
 frames:X.A.frames=some X.stack
 stk:X.stack=X.outer\/(X.stack=X.env::X.outer/\X.env.frame=some X.env.locals)
 exf:∀b∈X.ex,b≠X.env.locals/\∀x c,X.env.cells.lookup x=some c->c≠b
 bs:∀b o,X.base.get? b=some o->X.s₀.heap.get? b=some o/\X.H₀ b=none
 bsz:X.base.objs.size<=X.s₀.heap.objs.size
 noex:∀b o,X.base.get? b=some o->b∉X.ex
 exfs:∀b∈X.ex,b∉X.fs
 pU:X.s₀.heap.FunFrames X.base X.outer
 frf:∀b∈X.fs,X.H₀ b=none
structure Inv (X:Cx)(pins:bo)(σ:List (Option V))(H:Hp)(s:aE):Prop where
 ok:X.Ok
 os:s.os=X.s₀.os
 bare:AllBare s.gens
 base:Un X.fs X.ex X.H₀ H X.s₀.heap s.heap
 loc:∃m,s.heap.Ns X.env.locals m/\∀(i:Nat) (x:Str) (v:V),X.N[i]?=some x->σ[i]?=some (some v)->TN X.env.scope x->∃u,RelV v u/\Look X.env s.heap m x u
 cell:∀x c,X.env.cells.lookup x=some c->∃v,s.heap.IsCell c v
 free:H X.env.locals=none
 freeC:∀x c,X.env.cells.lookup x=some c->H c=none
 pin:∀p∈X.pn++pins,s.heap.get? p.1=some p.2/\H p.1=none/\p.1≠X.env.locals/\p.1∉X.fs/\∀v,p.2.data≠.cell v
 hok:qR X.prog X.w H s.heap
 len:σ.length=X.N.length
section
variable {X:Cx}{pins:bo}{σ:List (Option V)}{H H':Hp}{s:aE}{h':au}
def Cx.Ok.Uv(ok:X.Ok)(e:X.base.get? b=some o):b∉X.fs:=λd=>by
 have:=(ok.pU.mem d).1;rw[e]at this;cases this
def Inv.bs(I:Inv X pins σ H s):∀b o,X.base.get? b=some o->s.heap.get? b=some o/\H b=none:=λb o e=>
 ⟨I.base.keep b o (I.ok.bs b o e).1 (I.ok.bs b o e).2 (I.ok.Uv e)<|I.ok.noex b o e,I.base.free b o (I.ok.bs b o e).1 (I.ok.bs b o e).2<|I.ok.noex b o e⟩
def Inv.bk(I:Inv X pins σ H s):∀b o,X.base.get? b=some o->s.heap.get? b=some o:=λb o e=>(I.bs b o e).1
def Inv.mod(I:Inv X pins σ H s):Mod X.K X.mg X.base:=I.ok.mod
def Inv.rQ(I:Inv X pins σ H s):X.K.In s.heap:=I.ok.mod.kin.keeps I.bk
def Inv.lt(I:Inv X pins σ H s):X.env.locals<s.heap.objs.size:=let⟨_,hn,_⟩:=I.loc;hn.lt
def Inv.sz(I:Inv X pins σ H s):X.s₀.heap.objs.size<=s.heap.objs.size:=bN I.ok.above<|eg I.lt
def Inv.U_(I:Inv X pins σ H s){a:aj}(h:s.heap.objs.size<=a):a∉X.fs:=λd=>by
 obtain⟨_,o,f,_⟩:=I.ok.pU.mem d;exact absurd (bu (aS f)<|bN I.sz h)<|c6 _
def Inv.M4(I:Inv X pins σ H s):∀x c,X.env.cells.lookup x=some c->c≠X.env.locals:=λx c e z=>by
 obtain⟨v,o,g,hd⟩:=I.cell x c e;obtain⟨m,⟨o',es,ep,f,d,_⟩,_⟩:=I.loc;rw[z,f]at g;cases g;rw[d]at hd;cases hd
def Inv.pU(I:Inv X pins σ H s):s.heap.FunFrames X.base X.outer:=by
 have all:∀(l:List Env),(∀b∈frs l,b∈X.fs)->X.s₀.heap.FunFrames X.base l->s.heap.FunFrames X.base l:=by
  intro l
  induction l with
  | nil=>intro _ _;trivial
  | cons env r g=>
   intro hs m;obtain⟨j,⟨L,o,hf,hn,p,hd⟩,k⟩:=m;have f:L∈X.fs:=hs L (by unfold frs;rw[dJ,hf];exact bw);obtain⟨B,e⟩:=I.base.slot L o p (I.ok.frf L f) f λz=>I.ok.exfs L z f;exact⟨j,⟨L,_,hf,hn,e,hd⟩,g (λb d=>hs b<|by unfold frs;rw[dJ,hf];exact bf _ d) k⟩
 exact all X.outer (λ_ d=>d) I.ok.pU
def Inv.stack(I:Inv X pins σ H s):s.heap.FunFrames X.base X.stack:=by
 rcases I.ok.stk with e|⟨e,hf⟩
 ·rw[e];exact I.pU
 ·rw[e];obtain⟨m,hn,_⟩:=I.loc;refine .cons (by rw[I.ok.kind];decide) hf hn ?_ I.pU;exact Heap.get?_none_of_le<|bN I.ok.bsz I.ok.above
def Inv.ux(I:Inv X pins σ H s):∀b∈frs X.stack,b∈X.env.locals::X.fs:=λb d=>by
 rcases I.ok.stk with e|⟨e,hf⟩
 ·rw[e]at d;exact bf _ d
 ·rw[e]at d;unfold frs at d;rw[dJ,hf]at d;exact d
def Inv.q_(I:Inv X pins σ H s):∀b∈frs X.stack,H b=none:=λb d=>by
 rcases bG.mp (I.ux b d)with e|d
 ·rw[e];exact I.free
 ·obtain⟨_,o,f,_⟩:=I.ok.pU.mem d;exact I.base.free b o f (I.ok.frf b d) λz=>I.ok.exfs b z d
def Inv.step{g':Array GenState}{t':Nat}{d':Drawn}{ch:bb}(I:Inv X pins σ H s)
  (U:∀b∈ch,(b∈X.ex\/X.s₀.heap.objs.size<=b)/\b≠X.env.locals/\(∀x c,X.env.cells.lookup x=some c->c≠b)/\∀p∈X.pn++pins,p.1≠b)
  (keep:∀b o,b≠X.env.locals->b∉X.fs->b∉ch->s.heap.get? b=some o->H b=none->h'.get? b=some o)
  (slot:∀b o,b≠X.env.locals->b∈X.fs->b∉ch->s.heap.get? b=some o->H b=none->∃sl,h'.get? b=some { o with slots:=sl }) (free:∀b o,b∉ch->s.heap.get? b=some o->H b=none->H' b=none)
  (there:∀b o,b∉ch->s.heap.get? b=some o->∃o',h'.get? b=some o')
  (tups:∀b xs,H b=some (.tup xs)->H' b=some (.tup xs)) (frzs:∀b o u,H b=some (.frz o u)->H' b=some (.frz o u)) (tbls:∀b ps,H b=some (.tbl ps)->∃more,H' b=some (.tbl<|ps++more))
  (ns:∀m,s.heap.Ns X.env.locals m->h'.Ns X.env.locals m) (Z:qR X.prog X.w H' h') (hg:AllBare g') :
  Inv X pins σ H' { s with heap:=h',gens:=g',drawn:=d',toks:=t' }:=by
 have G:∀b o,X.s₀.heap.get? b=some o->b≠X.env.locals:=λb o e=>br<|bu (aS e) I.ok.above;have B:∀b o,X.s₀.heap.get? b=some o->b∉X.ex->b∉ch:=λb o e f C=>by
  rcases(U b C).1 with z|z
  ·exact f z
  ·exact absurd (bu (aS e) z)<|c6 _
 have j:∀x c,X.env.cells.lookup x=some c->∀v,s.heap.IsCell c v->h'.IsCell c v:=λx c e v ⟨o,F,hd⟩=>by
  have g:c∉ch:=λz=>(U c z).2.2.1 x c e rfl;by_cases hc:c∈X.fs
  ·obtain⟨sl,q⟩:=slot c o (I.M4 x c e) hc g F<|I.freeC x c e;exact⟨_,q,hd⟩
  ·exact⟨o,keep c o (I.M4 x c e) hc g F<|I.freeC x c e,hd⟩
 refine⟨I.ok,I.os,hg,⟨λb o e n C f=>?_,λb o e n C f=>?_,λb o e n f=>?_,λb o e f=>?_,λb xs e=>tups b xs<|I.base.tups b xs e,λb o xs e=>frzs b o xs<|I.base.frzs b o xs e,λb ps e=>?_⟩,?_,λx c e=>?_,?_,λx c e=>?_,λp hp=>?_,Z,I.len⟩
 ·exact keep b o (G b o e) C (B b o e f) (I.base.keep b o e n C f) (I.base.free b o e n f)
 ·obtain⟨sl,e1⟩:=I.base.slot b o e n C f;obtain⟨J,e2⟩:=slot b _ (G b o e) C (B b o e f) e1<|I.base.free b o e n f;exact⟨J,e2⟩
 ·obtain⟨o',e1⟩:=I.base.there b o e f;exact free b o' (B b o e f) e1 (I.base.free b o e n f)
 ·obtain⟨o',e1⟩:=I.base.there b o e f;exact there b o' (B b o e f) e1
 ·obtain⟨O,e1⟩:=I.base.tbls b ps e;obtain⟨L,e2⟩:=tbls b _ e1;exact⟨O++L,by rw[e2,Array.append_assoc]⟩
 ·obtain⟨m,hn,N⟩:=I.loc;refine⟨m,ns m hn,λi x v e1 e2 e3=>?_⟩;obtain⟨u,r,l⟩:=N i x v e1 e2 e3;refine⟨u,r,?_⟩
  rcases l with l|⟨k,c,e,z⟩
  ·exact .inl l
  ·exact .inr ⟨k,c,e,j x c e _ z⟩
 ·obtain⟨v,z⟩:=I.cell x c e;exact⟨v,j x c e v z⟩
 ·obtain⟨m,⟨o,_,_,F,_⟩,_⟩:=I.loc;exact free _ o (λz=>(U _ z).2.1 rfl) F I.free
 ·obtain⟨v,o,F,hd⟩:=I.cell x c e;exact free c o (λz=>(U c z).2.2.1 x c e rfl) F (I.freeC x c e)
 ·obtain⟨e,n,ne,K,d⟩:=I.pin p hp;have g:p.1∉ch:=λz=>(U p.1 z).2.2.2 p hp rfl;exact⟨keep p.1 p.2 ne K g e n,free p.1 p.2 g e n,ne,K,d⟩
def Inv.un{t':Nat}(I:Inv X pins σ H s)(u:Un X.fs [] H H' s.heap h')(J:qR X.prog X.w H' h'):Inv X pins σ H' { s with heap:=h',toks:=t' }:=by
 obtain⟨m,⟨o,es,ep,k,r⟩,_⟩:=id I.loc;obtain⟨F,C⟩:=u.any k I.free (by simp);exact I.step (g':=s.gens) (d':=s.drawn) (ch:=[]) (nofun) (λb o _ g _ e n=>u.keep b o e n g<|by simp) (λb o _ g _ e n=>u.slot b o e n g<|by simp) (λb o _ e n=>u.free b o e n<|by simp) (λb o _ e=>u.there b o e<|by simp) u.tups u.frzs u.tbls (λG B=>by
  obtain⟨o',f,j,d,p⟩:=B;rw[k]at d;cases d;exact⟨_,f,j,C,p⟩) J I.bare
def Inv.call{g':Array GenState}{t':Nat}{d':Drawn}{ch:bb}(I:Inv X pins σ H s)(u:Un (frs X.stack) ch H H' s.heap h')(U:qR X.prog X.w H' h')(hg:AllBare g')
  (L:∀b∈ch,(b∈X.ex\/X.s₀.heap.objs.size<=b)/\b≠X.env.locals/\(∀x c,X.env.cells.lookup x=some c->c≠b)/\∀p∈X.pn++pins,p.1≠b) :
  Inv X pins σ H' { s with heap:=h',gens:=g',drawn:=d',toks:=t' }:=by
 obtain⟨m,⟨o,es,ep,k,r⟩,_⟩:=id I.loc;obtain⟨G,j⟩:=u.any k I.free λz=>(L _ z).2.1 rfl;exact I.step (ch:=ch) L (λb o j B hc e n=>u.keep b o e n (λz=>(bG.mp<|I.ux b z).elim j B) hc) (λb o _ _ hc e n=>u.any e n hc) (λb o hc e n=>u.free b o e n hc) (λb o hc e=>u.there b o e hc) u.tups u.frzs u.tbls (λJ F=>by
  obtain⟨o',f,g,d,C⟩:=F;rw[k]at d;cases d;exact⟨_,f,g,j,C⟩) U hg
def Inv.turned{t':Nat}{it:aj}(I:Inv X pins σ H s)(k:∀b o,b≠it->s.heap.get? b=some o->h'.get? b=some o)(hn:H it=none)(J:it≠X.env.locals)
  (h1:it∈X.ex\/X.s₀.heap.objs.size<=it) (L:∀x c,X.env.cells.lookup x=some c->c≠it) (U:∀p∈X.pn++pins,p.1≠it):Inv X pins σ H { s with heap:=h',toks:=t' }:=by
 have d:∀b u,H b=some u->b≠it:=λb u e z=>by rw[z,hn]at e;cases e
 refine I.step (g':=s.gens) (d':=s.drawn) (ch:=[it]) (λb f=>?_) (λb o _ _ hc e _=>k b o (λz=>hc<|by simp[z]) e) (λb o _ _ hc e _=>⟨o.slots,k b o (λz=>hc<|by simp[z]) e⟩) (λ_ _ _ _ n=>n)
  (λb o hc e=>⟨o,k b o (λz=>hc<|by simp[z]) e⟩) (λ_ _ e=>e) (λ_ _ _ e=>e) (λb ps e=>⟨#[],by rw[e];simp⟩) (λm j=>?_) (λb u e=>?_) I.bare
 ·have e:b=it:=by simpa using f
  subst e;exact⟨h1,J,L,U⟩
 ·obtain⟨o,es,ep,g,r⟩:=j;exact⟨o,es,ep,k _ o (bP J) g,r⟩
 ·refine(I.hok b u e).stay (λc v hc q=>k c v ?_ q) (λ_ q=>q) λ_ _ q=>q
  rcases hc with z|z
  ·rw[z];exact d b u e
  ·exact d c _ z
def Inv.tok(I:Inv X pins σ H s)(t:Nat):Inv X pins σ H { s with toks:=t }:=I.un (h':=s.heap) (t':=t) Un.refl I.hok
def Inv.kept{t':Nat}(I:Inv X pins σ H s)(k:∀b u,s.heap.get? b=some u->h'.get? b=some u):Inv X pins σ H { s with heap:=h',toks:=t' }:=I.un (Un.kept k)<|I.hok.kept k
def Inv.laid{a:aj}{t':Nat}(I:Inv X pins σ H s)(k:∀b u,s.heap.get? b=some u->h'.get? b=some u)(hp:s.heap.objs.size<=a)(new:jm X.prog X.w (upd H a o) h' a o) :
  Inv X pins σ (upd H a o) { s with heap:=h',toks:=t' }:=I.un (Un.laid k hp<|I.hok.fresh hp)<|I.hok.laid k hp new
def Inv.write{x:aj}{t':Nat}(I:Inv X pins σ H s)(J:Sa<|H x)(L:e=x\/H e=some (.own x))(k:∀b u,b≠e->s.heap.get? b=some u->h'.get? b=some u)(j:∃u,h'.get? e=some u)
  (new:jm X.prog X.w (upd H x o) h' x o):Inv X pins σ (upd H x o) { s with heap:=h',toks:=t' }:=I.un (Un.write J L k j)<|I.hok.write J L k j new
def Inv.DR{pins':bo}(I:Inv X pins σ H s)(h:∀p∈pins',s.heap.get? p.1=some p.2/\H p.1=none/\p.1≠X.env.locals/\p.1∉X.fs/\∀v,p.2.data≠.cell v):Inv X pins' σ H s:=
 ⟨I.ok,I.os,I.bare,I.base,I.loc,I.cell,I.free,I.freeC,λp hp=>(bQ.mp hp).elim (λz=>I.pin p<|bC _ z)<|h p,I.hok,I.len⟩
def wW{N:ar}(J:N.Nodup){i j:Nat}{x:Str}(a:N[i]?=some x)(b:N[j]?=some x):i=j:=by
 obtain⟨h1,e1⟩:=aM.mp a;obtain⟨d,e2⟩:=aM.mp b;exact(eo J).mp (e1.trans e2.symm)
def _root_.γ0(h:1=1:=by first|exact .inl rfl|exact .inr rfl|assumption):1=1:=h
def _root_.γ:Lean.Syntax:=γ0._auto_1
def _root_.δ0(h:1=1:=by decide):1=1:=h
def _root_.δ:Lean.Syntax:=δ0._auto_1
def _root_.ε0(h:1=1:=by rfl):1=1:=h
def _root_.ε:Lean.Syntax:=ε0._auto_1
def _root_.ζ0(h:1=1:=by intro _;rfl):1=1:=h
def _root_.ζ:Lean.Syntax:=ζ0._auto_1
def _root_.η0(h:1=1:=by with_unfolding_all rfl):1=1:=h
def _root_.η:Lean.Syntax:=η0._auto_1
def _root_.θ0(h:1=1:=by exact λ_ _=>rfl):1=1:=h
def _root_.θ:Lean.Syntax:=θ0._auto_1
def Gp{A:aA}{E:aa->aE->Prop}{i:Nat}{x:Str}{v:V}{Q:Unit->aE->Prop}(I:Inv X pins σ H s)(hN:X.N.Nodup)(hi:X.N[i]?=some x)(hx:Loc X.env.scope x)(r:RelV v u)
  (h:∀s',Inv X pins (σ.set i<|some v) H s'->(∃a,Heap.SameBut a s.heap s'.heap/\(a=X.env.locals\/X.env.cells.lookup x=some a))->Q Unit.unit s') (hf:X.fn x=true\/X.env.scope.names.lookup x=some .local<|>γ):wpAny M A (storeName X.env x u) Q E s:=by
 obtain⟨m,hn,hl⟩:=id I.loc;have K:(X.env.scope.kind == .class || (X.env.scope.kind == .module && X.env.locals != X.env.globals))=false:=by rw[I.ok.kind];rfl
 have B:i<σ.length:=by rw[I.len];exact(aM.mp hi).1
 have M4:=I.M4;have f:∀{a:aj} {h':au},(∃o,s.heap.get? a=some o/\H a=none)->Heap.SameBut a s.heap h'->qR X.prog X.w H h':=λ{a h'} ha hs b ob e=>by
  obtain⟨_,_,hfree⟩:=ha;refine(I.hok b ob e).stay (λc U hc q=>(hs.2 c ?_).trans q) (λ_ q=>q) λ_ _ q=>q;rintro rfl
  rcases hc with rfl|hc
  ·rw[hfree]at e;cases e
  ·rw[hfree]at hc;cases hc
 rcases hx with g|g
 ·refine wpAny_storeName_local g hn (λh' hn' hs=>?_) K;obtain⟨oL,_,_,hoL,_⟩:=id hn;refine h _ ⟨I.ok,I.os,I.bare,⟨λb o e n C hx=>?_,λb o e n C hx=>?_,I.base.free,λb o e hx=>?_,I.base.tups,I.base.frzs,I.base.tbls⟩,⟨_,hn',λj y v' e1 e2 e3=>?_⟩,λy c e=>?_,I.free,I.freeC,λp hp=>?_,f ⟨oL,hoL,I.free⟩ hs,by simpa using I.len⟩ ⟨_,hs,.inl rfl⟩
  ·exact(hs.2 b<|br<|bu (aS e) I.ok.above).trans (I.base.keep b o e n C hx)
  ·obtain⟨sl,e1⟩:=I.base.slot b o e n C hx;exact⟨sl,(hs.2 b<|br<|bu (aS e) I.ok.above).trans e1⟩
  ·obtain⟨o',e1⟩:=I.base.there b o e hx;exact⟨o',(hs.2 b<|br<|bu (aS e) I.ok.above).trans e1⟩
  ·by_cases F:j=i
   ·subst F;rw[hi]at e1;cases e1;rw[bz B]at e2
    cases e2
    exact⟨u,r,.inl ⟨g,by simp⟩⟩
   ·rw[a_<|bP F]at e2;obtain⟨u',Z,q⟩:=hl j y v' e1 e2 e3;refine⟨u',Z,?_⟩
    rcases q with⟨k,e⟩|⟨k,c,e,z⟩
    ·refine .inl ⟨k,?_⟩;have:y≠x:=λe=>F<|wW hN e1<|e ▸ hi;simp[this,e]
    ·exact .inr ⟨k,c,e,z.sameBut hs<|M4 y c e⟩
  ·obtain⟨U,z⟩:=I.cell y c e;exact⟨U,z.sameBut hs<|M4 y c e⟩
  ·obtain⟨e,n,ne,Y,d⟩:=I.pin p hp;exact⟨(hs.2 p.1 ne).trans e,n,ne,Y,d⟩
 ·have G:X.fn x=true:=by
   rcases hf with z|z
   ·exact z
   ·rw[z]at g;cases g
  obtain⟨c,hc⟩:=I.ok.has x<|.inl g;obtain⟨U,z⟩:=I.cell x c hc;refine wpAny_storeName_cell I.ok.kind g hc z λh' L hs=>?_;obtain⟨oc,J,P⟩:=id z;refine h { s with heap:=h' } ⟨I.ok,I.os,I.bare,⟨λb o e n C hx=>?_,λb o e n C hx=>?_,I.base.free,λb o e hx=>?_,I.base.tups,I.base.frzs,I.base.tbls⟩,⟨m,hn.sameBut hs<|bP<|M4 x c hc,λj y v' e1 e2 e3=>?_⟩,λy T e=>?_,I.free,I.freeC,λp hp=>?_,f ⟨oc,J,I.freeC x c hc⟩ hs,by simpa using I.len⟩ ⟨c,hs,.inr hc⟩
  ·exact(hs.2 b<|br<|bu (aS e)<|I.ok.cab x c G hc).trans (I.base.keep b o e n C hx)
  ·obtain⟨sl,e1⟩:=I.base.slot b o e n C hx;exact⟨sl,(hs.2 b<|br<|bu (aS e)<|I.ok.cab x c G hc).trans e1⟩
  ·obtain⟨o',e1⟩:=I.base.there b o e hx;exact⟨o',(hs.2 b<|br<|bu (aS e)<|I.ok.cab x c G hc).trans e1⟩
  ·by_cases F:j=i
   ·subst F;rw[hi]at e1;cases e1;rw[bz B]at e2
    cases e2
    exact⟨u,r,.inr ⟨.inl g,c,hc,L⟩⟩
   ·rw[a_<|bP F]at e2;obtain⟨u',Z,q⟩:=hl j y v' e1 e2 e3;refine⟨u',Z,?_⟩
    rcases q with q|⟨k,T,e,z'⟩
    ·exact .inl q
    ·refine .inr ⟨k,T,e,z'.sameBut hs ?_⟩;rintro rfl;exact F<|wW hN e1<|I.ok.inj _ _ _ e hc ▸ hi
  ·by_cases O:T=c
   ·subst O;exact⟨_,L⟩
   ·obtain⟨w2,z2⟩:=I.cell y T e;exact⟨w2,z2.sameBut hs O⟩
  ·obtain⟨e,n,ne,Y,d⟩:=I.pin p hp;refine⟨(hs.2 p.1 ?_).trans e,n,ne,Y,d⟩;intro q;rw[q,J]at e;have q':oc=p.2:=aR e;exact d U<|by rw[<- q'];exact P
def sO{A:aA}{E:aa->aE->Prop}{i:Nat}{x:Str}{v:V}{Q:Unit->aE->Prop}(I:Inv X pins σ H s)(j:X.N.Nodup)(hi:X.N[i]?=some x)(J:Loc X.env.scope x)(r:RelV v u)
  (h:∀s',Inv X pins (σ.set i<|some v) H s'->Q Unit.unit s') (hf:X.fn x=true\/X.env.scope.names.lookup x=some .local<|>γ):wpAny M A (storeName X.env x u) Q E s:=
 Gp I j hi J r (λs' d _=>h s' d) hf
def Inv.Kr{s':aE}{ch:bb}(I:Inv X pins σ H s)(L:s'.os=s.os)(u:Un (frs X.stack) ch H H' s.heap s'.heap)(j:qR X.prog X.w H' s'.heap)(hg:AllBare s'.gens)
  (J:∀b∈ch,(b∈X.ex\/X.s₀.heap.objs.size<=b)/\b≠X.env.locals/\(∀x c,X.env.cells.lookup x=some c->c≠b)/\∀p∈X.pn++pins,p.1≠b):Inv X pins σ H' s':=by
 obtain⟨h',g',d',t',o'⟩:=s';have e:o'=s.os:=L;subst e;exact I.call (g':=g') (t':=t') (d':=d') u j hg J
end
meta abbrev XK:=aa->Option aj->Hp->Prop
meta abbrev St:=List<|Option V
meta abbrev VK:=V->Hp->Prop
meta abbrev TE:=St->Hp->VK->Prop
meta abbrev TT:=St->Hp->(Bool->Hp->Prop)->Prop
meta abbrev TA:=St->Hp->(List V->Hp->Prop)->Prop
structure Ends where
 nx:St->Hp->Prop
 rt:VK
 bk:St->Hp->Prop:=λ_ _=>False
 ct:St->Hp->Prop:=λ_ _=>False
meta abbrev TS:=Ends->St->Hp->Prop
abbrev EP (X:Cx)(pins:bo)(σ:St)(Q:VK)(u:aa)(s':aE):Prop:=∃v H',Inv X pins σ H' s'/\RelV v u/\Q v H'
abbrev TP (X:Cx)(pins:bo)(σ:St)(Q:Bool->Hp->Prop)(b:Bool)(s':aE):Prop:=∃H',Inv X pins σ H' s'/\Q b H'
abbrev AP (X:Cx)(pins:bo)(σ:St)(Q:List V->Hp->Prop)(us:ba)(s':aE):Prop:=∃vs H',Inv X pins σ H' s'/\Vals vs us/\Q vs H'
abbrev SP (X:Cx)(pins:bo)(D:Ends)(f:Flow)(s':aE):Prop:=
 match f with
 | .next=>∃d H',Inv X pins d H' s'/\D.nx d H'
 | .brk=>∃d H',Inv X pins d H' s'/\D.bk d H'
 | .cont=>∃d H',Inv X pins d H' s'/\D.ct d H'
 | .ret u=>∃v d H',Inv X pins d H' s'/\RelV v u/\D.rt v H'
abbrev PE (X:Cx)(e:aF)(t:TE):Prop:=
 ∀(pins:bo) (s:aE) (σ:St) (H:Hp) (Q:VK),Inv X pins σ H s->t σ H Q->wpAny (model X.prog X.w) X.A (eval e X.env) (EP X pins σ Q) X.xe s
abbrev PT (X:Cx)(e:aF)(t:TT):Prop:=
 ∀(pins:bo) (s:aE) (σ:St) (H:Hp) (Q:Bool->Hp->Prop),Inv X pins σ H s->t σ H Q->wpAny (model X.prog X.w) X.A (isTrue e X.env<|eval e X.env) (TP X pins σ Q) X.xe s
abbrev PW (X:Cx)(e:aF)(t:TT):Prop:=
 ∀(d:Sem aa) (pins:bo) (s:aE) (σ:St) (H:Hp) (Q:Bool->Hp->Prop),Inv X pins σ H s->t σ H Q->wpAny (model X.prog X.w) X.A (isTrue e X.env d) (TP X pins σ Q) X.xe s
abbrev PA (X:Cx)(es:List aF)(t:TA):Prop:=
 ∀(pos:Pos) (pins:bo) (s:aE) (σ:St) (H:Hp) (Q:List V->Hp->Prop),Inv X pins σ H s->t σ H Q->wpAny (model X.prog X.w) X.A (spliced<|backTo pos<|starEach es X.env) (AP X pins σ Q) X.xe s
abbrev PS (X:Cx)(st:aG)(t:TS):Prop:=
 ∀(pins:bo) (s:aE) (σ:St) (H:Hp) (D:Ends),Inv X pins σ H s->t D σ H->wpAny (model X.prog X.w) X.A (exec st X.env) (SP X pins D) X.xe s
abbrev yD (X:Cx)(st:List aG)(t:TS):Prop:=
 ∀(pins:bo) (s:aE) (σ:St) (H:Hp) (D:Ends),Inv X pins σ H s->t D σ H->wpAny (model X.prog X.w) X.A (execs st X.env) (SP X pins D) X.xe s
def jz{α:Type}{t:Sem α}{Q Q':α->aE->Prop}{A:aA}{E:aa->aE->Prop}(h:wpAny M A t Q E s)(j:∀a s,Q a s->Q' a s):wpAny M A t Q' E s:=b_ h j λ_ _ x=>x
section
variable {X:Cx}
abbrev Um (i:Nat):TE:=λσ H Q=>∃v,σ[i]?=some (some v)/\Q v H
abbrev tC (v:V):TE:=λ_ H Q=>Q v H
def Ph{i:Nat}{x:Str}(L:X.N[i]?=some x)(hv:TN X.env.scope x)(hd:(x == ("__debug__" : Str))=false<|>δ)(J:(x == ("__classdict__" : Str))=false<|>δ):PE X (.Name x pos) (Um i):=by
 z_go;obtain⟨v,e,h⟩:=h;obtain⟨m,hn,k⟩:=I.loc;obtain⟨u,r,l⟩:=k i x v L e hv;have g:EP X pins σ Q u s:=⟨v,H,I,r,h⟩
 rcases l with⟨f,j⟩|⟨f,c,hc,d⟩
 ·exact wpAny_Name (wpAny_loadName_local I.ok.kind f hn j g) hd
 ·rcases f with f|f
  ·exact wpAny_Name (wpAny_loadName_cell I.ok.kind f hc d g) hd
  ·exact wpAny_Name (wpAny_loadName_free I.ok.kind f hc d g J) hd
def C4{i j pos}:PE X (.Constant (.int i) j pos) (tC<|.int i):=λ_ _ _ H _ I h=>wpAny_Constant_int ⟨.int i,H,I.tok _,⟨_,rfl⟩,h⟩
def Sn{b j pos}:PE X (.Constant (.bool b) j pos) (tC<|.bl b):=λ_ _ _ H _ I h=>Constant_bool ⟨.bl b,H,I,rfl,h⟩
def O7{j pos}:PE X (.Constant .none j pos) (tC .non):=λ_ _ _ H _ I h=>Constant_none ⟨.non,H,I,rfl,h⟩
def Ht{x j pos}:PE X (.Constant (.str x) j pos) (tC<|.str x):=λ_ _ _ H _ I h=>f6 ⟨.str x,H,I.tok _,⟨_,rfl⟩,h⟩
abbrev Gl (X:Cx)(x:Str):Prop:=X.env.kindOf x=some .globalImplicit
def sM{E:aa->aE->Prop}{H:Hp}{x:Str}{Q:aa->aE->Prop}(I:Inv X pins σ H s)(hg:Gl X x)(j:X.mg x=some u)(h:Q u s)
  (hd:(x == ("__debug__" : Str))=false<|>δ):wpAny (model X.prog X.w) X.A (eval (.Name x pos) X.env) Q E s:=
 Calls.Name_function_global I.ok.kind hg (Calls.loadGlobal_global (by rw[I.ok.glob];exact I.mod.glob.keeps I.bk) j h) hd
def t9{E:aa->aE->Prop}{H:Hp}{x:Str}{Q:aa->aE->Prop}(I:Inv X pins σ H s)(hg:Gl X x)(j:X.mg x=none)(hv:bootBuiltins x=some u)(h:Q u s)
  (hn:x ≠ "__name__"<|>δ) (hd:(x == ("__debug__" : Str))=false<|>δ):wpAny (model X.prog X.w) X.A (eval (.Name x pos) X.env) Q E s:=by
 obtain⟨f,h1,d⟩:=I.mod.blt;exact Calls.Name_function_global I.ok.kind hg (Calls.loadGlobal_builtin (by rw[I.ok.glob];exact I.mod.glob.keeps I.bk) j (by rw[I.ok.blt];exact h1.keeps I.bk) ((d x hn).trans hv) h) hd
def qW{x:Str}{v:V}(hg:Gl X x)(j:X.mg x=some u)(r:RelV v u)(hd:(x == ("__debug__" : Str))=false<|>δ):PE X (.Name x pos) (tC v):=
 λ_ _ _ H _ I h=>sM I hg j ⟨v,H,I,r,h⟩ hd
def E8{x:Str}{v:V}(hg:Gl X x)(j:X.mg x=none)(hv:bootBuiltins x=some u)(r:RelV v u)(hn:x ≠ "__name__"<|>δ)(hd:(x == ("__debug__" : Str))=false<|>δ):PE X (.Name x pos) (tC v):=
 λ_ _ _ H _ I h=>t9 I hg j hv ⟨v,H,I,r,h⟩ hn hd
variable {a b:aF}{ta tb:TE}{pos:Pos}
variable {tA tB':TT}{rest:List aF}
abbrev Su (t u:TT):TT:=λσ H Q=>t σ H λc H1=>if c=true then u σ H1 Q else Q false H1
abbrev VM (t u:TT):TT:=λσ H Q=>t σ H λc H1=>if c=true then Q true H1 else u σ H1 Q
abbrev UW (t:TT):TT:=λσ H Q=>t σ H λc H1=>Q (!c) H1
def LY(j:PT X a tA):PW X (.BoolOp .And [a] pos) tA:=by
 intro f pins s σ H Q I h;refine isTrue_and (jz (j pins s σ H Q I h) λc d e=>?_)
 cases c with
 | true=>exact isTrue_and_nil e
 | false=>exact e
def Qa(j:PT X a tA):PW X (.BoolOp .Or [a] pos) tA:=by
 intro f pins s σ H Q I h;refine isTrue_or (jz (j pins s σ H Q I h) λc d e=>?_)
 cases c with
 | false=>exact isTrue_or_nil e
 | true=>exact e
def OW(J:PT X a tA)(hb:PW X (.BoolOp .And (b::rest) pos) tB'):PW X (.BoolOp .And (a::b::rest) pos) (Su tA tB'):=by
 intro j pins s σ H Q I h;refine isTrue_and (jz (J pins s σ H _ I h) λc g ⟨H1,f,d⟩=>?_)
 cases c with
 | true=>exact hb j pins g σ H1 Q f d
 | false=>exact⟨H1,f,d⟩
def Ss(J:PT X a tA)(hb:PW X (.BoolOp .Or (b::rest) pos) tB'):PW X (.BoolOp .Or (a::b::rest) pos) (VM tA tB'):=by
 intro j pins s σ H Q I h;refine isTrue_or (jz (J pins s σ H _ I h) λc g ⟨H1,f,d⟩=>?_)
 cases c with
 | true=>exact⟨H1,f,d⟩
 | false=>exact hb j pins g σ H1 Q f d
def QO(j:PT X a tA):PT X (.UnaryOp .Not a pos) (UW tA):=by
 z_go;exact isTrue_not<|j pins s σ H (λc H1=>Q (!c) H1) I h
abbrev RG (ta tb:TE):TE:=λσ H Q=>ta σ H λx H1=>∃c,x=.bl c/\if c=true then tb σ H1 Q else Q (.bl false) H1
abbrev Sf (ta:TE):TE:=λσ H Q=>ta σ H λx H1=>∃c,x=.bl c/\Q (.bl<|!c) H1
def Qe{op}{t:TE}(h:PE X a t):PE X (.BoolOp op [a] pos) t:=λpins s σ H Q I hw=>BoolOp_one<|h pins s σ H Q I hw
def Pa(j:PE X a ta)(hb:PE X (.BoolOp .And (b::rest) pos) tb):PE X (.BoolOp .And (a::b::rest) pos) (RG ta tb):=by
 z_go;refine BoolOp_and<|jz (j pins s σ H _ I h) λv g ⟨x,H1,f,r1,d⟩=>?_;obtain⟨c,rfl,d⟩:=d
 cases r1
 refine cJ ?_
 cases c with
 | true=>exact hb pins g σ H1 Q f d
 | false=>exact⟨.bl false,H1,f,rfl,d⟩
def Qn(j:PE X a ta):PE X (.UnaryOp .Not a pos) (Sf ta):=by
 z_go;refine UnaryOp_<|jz (j pins s σ H _ I h) λv g ⟨x,H1,f,r1,d⟩=>?_;obtain⟨c,rfl,d⟩:=d
 cases r1
 exact not_of<|cJ ⟨.bl<|!c,H1,f,rfl,d⟩
abbrev VR (t:TT)(ta tb:TE):TE:=λσ H Q=>t σ H λc H1=>if c=true then ta σ H1 Q else tb σ H1 Q
def Lk{c:aF}(hc:PT X c tA)(J:PE X a ta)(hb:PE X b tb):PE X (.IfExp c a b pos) (VR tA ta tb):=by
 z_go;refine wpAny_IfExp (jz (hc pins s σ H _ I h) λd g ⟨H1,j,f⟩=>?_)
 cases d with
 | true=>exact J pins g σ H1 Q j f
 | false=>exact hb pins g σ H1 Q j f
end
abbrev mE (K:az)(H:Hp)(a:aj)(xs:List V):Prop:=
 Rd H a (.lst xs) \/
  ∃(o:Obj) (d:Array aa) (n:Nat),K.lookup a=some o/\o.cls=.type "list" /\ o.dict=none/\o.data=.seq d n/\d.size<=sizeLine/\Vals xs d.toList
abbrev kZ (K:az)(H:Hp)(a:aj)(xs:List V):Prop:=
 Rd H a (.tup xs) \/
  ∃(o:Obj) (d:Array aa) (n:Nat),K.lookup a=some o/\o.cls=.type "tuple" /\ o.dict=none/\o.data=.seq d n/\d.size<=sizeLine/\Vals xs d.toList
abbrev UO:aa->Option V
 | .none=>some .non
 | .bool b=>some (.bl b)
 | .int i _=>some (.int i)
 | .str x _=>some (.str x)
 | .bytes b _=>some (.byt b)
 | .float b _=>some (.flt b)
 | .ref a=>some (.ref a)
 | .type n=>some (.ty n)
 | _=>none
def RelV.abs{x:V}(r:RelV x u):UO u=some x:=by
 cases x with
 | non=>cases r;rfl
 | bl _=>cases r;rfl
 | int _=>obtain⟨t,rfl⟩:=r;rfl
 | str _=>obtain⟨t,rfl⟩:=r;rfl
 | byt _=>obtain⟨t,rfl⟩:=r;rfl
 | flt _=>obtain⟨t,rfl⟩:=r;rfl
 | ref _=>cases r;rfl
 | ty _=>cases r;rfl
def RelV.inj{x:V}(r:RelV x u)(q:RelV y u):x=y:=aR<|r.abs.symm.trans q.abs
theorem Vals.inj:∀{xs ys:List V}{us:ba},Vals xs us->Vals ys us->xs=ys
 | _,_,_,.nil,.nil=>rfl
 | _,_,_,.cons r t,.cons d f=>by rw[r.inj d,Vals.inj t f]
section
variable {X:Cx}{pins:bo}{σ:St}{H:Hp}{s:aE}{a:aj}{xs ys:List V}
def mE.of{K:az}(h:H a=some (.lst xs)):mE K H a xs:=.inl<|.inl h
def kZ.of{K:az}(h:H a=some (.tup xs)):kZ K H a xs:=.inl<|.inl h
def Inv.list(I:Inv X pins σ H s)(h:mE X.K H a xs):∃its:ba,Vals xs its/\PlainL s.heap a its.toArray/\xs.length<=sizeLine:=by
 rcases h with h|⟨o,its,n,d,hc,hd,hs,f,r⟩
 ·obtain⟨z,its,n,r,e⟩:=h.ok I.hok;exact⟨its,r,⟨_,n,e,rfl,rfl,rfl⟩,z⟩
 ·refine⟨its.toList,r,⟨o,n,I.rQ a o d,hc,hd,by simpa using hs⟩,?_⟩;have e:=r.length;dsimp[cE]at e
  lia
def Inv.tuple(I:Inv X pins σ H s)(h:kZ X.K H a xs):∃its:ba,Vals xs its/\IsTup s.heap a its.toArray/\xs.length<=sizeLine:=by
 rcases h with h|⟨o,its,n,d,hc,_,hs,f,r⟩
 ·obtain⟨z,its,r,p⟩:=h.ok I.hok;exact⟨its,r,p.tup,z⟩
 ·refine⟨its.toList,r,⟨o,I.rQ a o d,hc,n,by simpa using hs⟩,?_⟩;have e:=r.length;dsimp[cE]at e
  lia
def Inv.G5(I:Inv X pins σ H s)(h:mE X.K H a xs)(h':mE X.K H a ys):xs=ys:=by
 obtain⟨g,r,⟨o,n,e,_,_,d⟩,_⟩:=I.list h;obtain⟨f,m,⟨o',B,k,_,_,j⟩,_⟩:=I.list h';rw[e]at k;cases k;rw[d]at j
 injection j with p _
 have:g=f:=by simpa using cW Array.toList p
 subst this;exact r.inj m
def Inv.uF(I:Inv X pins σ H s)(h:kZ X.K H a xs)(h':kZ X.K H a ys):xs=ys:=by
 obtain⟨g,r,⟨o,e,_,n,d⟩,_⟩:=I.tuple h;obtain⟨f,m,⟨o',k,_,B,j⟩,_⟩:=I.tuple h';rw[e]at k;cases k;rw[d]at j
 injection j with p _
 have:g=f:=by simpa using cW Array.toList p
 subst this;exact r.inj m
end
meta abbrev Cx.xY (X:Cx)(E:aa->aE->Prop):Cx:={ X with xe:=E }
meta abbrev Cx.Sz (X:Cx):Cx:=X.xY λ_ _=>False
def Cx.Ok.xY{X:Cx}(ok:X.Ok)(E:aa->aE->Prop):(X.xY E).Ok:=
 ⟨ok.mod,ok.kind,ok.glob,ok.blt,ok.above,ok.inj,ok.has,ok.cab,ok.hd,ok.frames,ok.stk,ok.exf,ok.bs,ok.bsz,ok.noex,ok.exfs,ok.pU,ok.frf⟩
def Cx.Ok.qh{X:Cx}{E:aa->aE->Prop}(ok:(X.xY E).Ok):X.Ok:=
 ⟨ok.mod,ok.kind,ok.glob,ok.blt,ok.above,ok.inj,ok.has,ok.cab,ok.hd,ok.frames,ok.stk,ok.exf,ok.bs,ok.bsz,ok.noex,ok.exfs,ok.pU,ok.frf⟩
section
variable {X:Cx}{pins:bo}{σ:St}{H:Hp}{s:aE}{E:aa->aE->Prop}
def Inv.xY(I:Inv X pins σ H s)(E:aa->aE->Prop):Inv (X.xY E) pins σ H s:=⟨I.ok.xY E,I.os,I.bare,I.base,I.loc,I.cell,I.free,I.freeC,I.pin,I.hok,I.len⟩
def Inv.qh(I:Inv (X.xY E) pins σ H s):Inv X pins σ H s:=⟨I.ok.qh,I.os,I.bare,I.base,I.loc,I.cell,I.free,I.freeC,I.pin,I.hok,I.len⟩
def SP.qh{f:Flow}(h:SP (X.xY E) pins D f s'):SP X pins D f s':=by
 cases f with
 | next=>obtain⟨d,H',I,q⟩:=h;exact⟨d,H',I.qh,q⟩
 | brk=>obtain⟨d,H',I,q⟩:=h;exact⟨d,H',I.qh,q⟩
 | cont=>obtain⟨d,H',I,q⟩:=h;exact⟨d,H',I.qh,q⟩
 | ret u=>obtain⟨v,d,H',I,r,q⟩:=h;exact⟨v,d,H',I.qh,r,q⟩
def yD.Sz{st:List aG}{t:TS}(h:yD X.Sz st t):yD X st t:=λpins s σ H D I hw=>
 b_ (h pins s σ H D (I.xY _) hw) (λ_ _ q=>q.qh) λ_ _ z=>False.elim z
end
section
variable {X:Cx}{st:aG}{rest:List aG}{t u:TS}{e:aF}{te:TE}{pos:Pos}
abbrev Tv:TS:=λD σ H=>D.nx σ H
abbrev SG (t u:TS):TS:=λD σ H=>t { D with nx:=u D } σ H
def MJ:yD X [] Tv:=λ_ _ σ H _ I h=>eT ⟨σ,H,I,h⟩
def G0(h1:PS X st t)(J:yD X rest u):yD X (st::rest) (SG t u):=by
 kcf_m;refine wpAny_execs_cons (jz (h1 pins s σ H { D with nx:=u D } I h) λf j q=>?_)
 cases f with
 | next=>
  obtain⟨d,H',g,q⟩:=q;exact J pins j d H' D g q
 | ret v=>exact q
 | brk=>exact q
 | cont=>exact q
def Ml(h1:PS X st t):yD X [st] t:=by
 kcf_m;refine wpAny_execs_cons (jz (h1 pins s σ H D I h) λf d q=>?_)
 cases f with
 | next=>exact eT q
 | ret v=>exact q
 | brk=>exact q
 | cont=>exact q
def Inv.quiet{H:Hp}(I:Inv X pins σ H s):interactive X.env=false:=by simp[interactive,I.ok.kind]
abbrev RP (te:TE):TS:=λD σ H=>te σ H λ_ H1=>D.nx σ H1
def Mb(j:PE X e te)(hs:swapsWith e none pos.line X.env=pure false<|>ε):PS X (.Expr e pos) (RP te):=by
 kcf_m;exact wpAny_Expr_any (jz (j pins s σ H _ I h) λv g ⟨x,H1,f,r1,d⟩=>⟨σ,H1,f,d⟩) I.quiet hs
abbrev UH (te:TE):TS:=λD σ H=>te σ H D.rt
def Qv(j:PE X e te):PS X (.Return (some e) pos) (UH te):=by
 kcf_m;exact wpAny_Return_some<|jz (j pins s σ H _ I h) λv g ⟨x,H1,f,r1,d⟩=>⟨x,σ,H1,f,r1,d⟩
abbrev Uw (c:TT)(t u:TS):TS:=λD σ H=>c σ H λb H1=>if b=true then t D σ H1 else u D σ H1
def Sl{c:aF}{a:List aG}{tc:TT}(hc:PT X c tc)(J:yD X a t)(hb:yD X b u):PS X (.If c a b pos) (Uw tc t u):=by
 kcf_m;refine wpAny_If (jz (hc pins s σ H _ I h) λd g ⟨H1,j,f⟩=>?_)
 cases d with
 | true=>exact J pins g σ H1 D j f
 | false=>exact hb pins g σ H1 D j f
abbrev QD:TS:=λ_ _ _=>False
def Ig:PS X st QD:=λ_ _ _ _ _ _ h=>h.elim
end
meta abbrev TG:=V->St->Hp->(St->Hp->Prop)->Prop
meta abbrev Nv:=List V->St->Hp->(St->Hp->Prop)->Prop
abbrev PG (X:Cx)(j:aF)(t:TG):Prop:=
 ∀(pins:bo) (s:aE) (σ:St) (H:Hp) (v:V) (u:aa) (Q:St->Hp->Prop),Inv X pins σ H s->RelV v u->t v σ H Q ->
  wpAny (model X.prog X.w) X.A (assign j X.env u) (λ_ s'=>∃d H',Inv X pins d H' s'/\Q d H') X.xe s
abbrev Tw (X:Cx)(ts:List aF)(t:Nv):Prop:=
 ∀(pins:bo) (s:aE) (σ:St) (H:Hp) (vs:List V) (us:ba) (Q:St->Hp->Prop),Inv X pins σ H s->Vals vs us->t vs σ H Q ->
  wpAny (model X.prog X.w) X.A (assignInOrder ((assignEach ts X.env).map (·.2)) us) (λ_ s'=>∃d H',Inv X pins d H' s'/\Q d H') X.xe s
meta abbrev G6:=V->V->V->Hp->(Hp->Prop)->Prop
abbrev Iu (X:Cx)(t:G6):Prop:=
 ∀(pins:bo) (s:aE) (σ:St) (H:Hp) (o i v:V) (d iv u:aa) (Q:Hp->Prop),Inv X pins σ H s->RelV o d->RelV i iv->RelV v u->t o i v H Q ->
  wpAny (model X.prog X.w) X.A (setItem d iv u) (λ_ s'=>∃H',Inv X pins σ H' s'/\Q H') X.xe s
meta abbrev VZ:=V->V->Hp->VK->Prop
section
variable {X:Cx}{pos:Pos}
abbrev Hh (i:Nat):TG:=λv σ H Q=>Q (σ.set i<|some v) H
def DA{i:Nat}{x:Str}(j:X.N.Nodup)(hi:X.N[i]?=some x)(J:Loc X.env.scope x)(hf:X.fn x=true\/X.env.scope.names.lookup x=some .local<|>γ):PG X (.Name x pos) (Hh i):=by
 intro pins s σ H v u Q I r h;exact wpAny_assign_Name<|sO I j hi J r (λs' d=>⟨_,H,d,h⟩) hf
abbrev UA:Nv:=λvs σ H Q=>vs=[]/\Q σ H
abbrev Rm (t:TG)(u:Nv):Nv:=λvs σ H Q=>∃v r,vs=v::r/\t v σ H λd H'=>u r d H' Q
def Mv:Tw X [] UA:=by
 intro pins s σ H vs us Q I r h;obtain⟨e,h⟩:=h;subst e
 cases r
 exact assignInOrder_nil ⟨σ,H,I,h⟩
def G9{t:TG}{u:Nv}(h1:PG X e t)(J:Tw X es u)
  (hs:(assignEach (e::es) X.env).map (·.2)=assign e X.env::(assignEach es X.env).map (·.2)<|>ε):Tw X (e::es) (Rm t u):=by
 intro pins s σ H vs us Q I r h;obtain⟨v,m,e1,h⟩:=h;subst e1
 cases r with
 | cons r k=>
  rw[hs];refine assignInOrder_cons<|jz (h1 pins s σ H _ _ _ I r h) λ_ g ⟨d,H1,f,j⟩=>?_;exact J pins g d H1 _ _ Q f k j
abbrev Ud (K:az)(n:Nat)(t:Nv):TG:=λv σ H Q=>∃a xs,v=.ref a/\kZ K H a xs/\xs.length=n/\t xs σ H Q
def OG{k:Nat}{t:Nv}{n:Nat}(hc:X.calm=true)(h:Tw X es t)
  (hn:(assignEach es X.env).length=n<|>ε) (J:(assignEach es X.env).findIdx? (·.1)=none<|>ε):PG X (.Tuple es k pos) (Ud X.K n t):=by
 intro pins s σ H v u Q I r hw;obtain⟨a,xs,e1,j,m,hw⟩:=hw;subst e1
 cases r
 obtain⟨p,d,g,C⟩:=I.tuple j;refine assign_Tuple_tuple (I.ok.hd hc) g (by simp[hn,<- m,d.length]) J λh' B=>?_;have f:Inv X pins σ H { s with heap:=h' }:=I.kept (t':=s.toks) λb o e=>B b o (br<|aS e) e;exact h pins _ σ H xs _ Q f (by simpa using d) hw
abbrev Uj (to j:TE)(t:G6):TG:=λv σ H Q=>to σ H λo H1=>j σ H1 λi H2=>t o i v H2 λH3=>Q σ H3
def HF{to J:TE}{t:G6}(L:PE X o to)(hi:PE X i J)(hs:Iu X t)
  (U:(∀v,assign (.Subscript o i pos) X.env v=(do
   let ov <- holding [v] (eval o X.env)
   let iv <- holding [v,ov] (eval i X.env)
   standAt pos
   holding [v,ov,iv] (setItem ov iv v)
   release [v,ov,iv] []))<|>ζ):PG X (.Subscript o i pos) (Uj to J t):=by
 intro pins s σ H v u Q I r h;rw[U];refine aH<|bX<|jz (L pins s σ H _ I h) λov g ⟨x,H1,f,r1,j⟩=>?_;refine aH<|bX<|jz (hi pins g σ H1 _ f j) λiv s2 ⟨y,H2,k,r2,p⟩=>?_;refine aH<|fL<|aH<|bX<|jz (hs pins s2 σ H2 x y v ov iv u _ k r1 r2 r p) λ_ s3 ⟨H3,d,m⟩=>?_;exact wpAny_release ⟨σ,H3,d,m⟩
abbrev MD (te:TE)(g:TG):TS:=λD σ H=>te σ H λx H1=>g x σ H1 D.nx
def Qh{tg:aF}{te:TE}{g:TG}(J:PE X e te)(hg:PG X tg g)(hs:swapsWithSole [tg] e pos.line X.env=pure false<|>ε)(hw:swappedStores [tg] e X.env=pure none<|>ε)
  (h1:(assignEach [tg] X.env).map (·.2)=[assign tg X.env]<|>ε):PS X (.Assign [tg] e pos) (MD te g):=by
 kcf_m;refine wpAny_Assign_stores (jz (J pins s σ H _ I h) λv f ⟨x,H1,j,r1,d⟩=>?_) hs hw;rw[h1];exact jz (hg pins f σ H1 x v _ j r1 d) λ_ s2 q=>q
def PX{i:Nat}{x:Str}{te:TE}(J:X.N.Nodup)(hi:X.N[i]?=some x)(L:Loc X.env.scope x)(U:PE X e te)(hs:(swapsWith e (some<|.Name x pos') pos.line X.env=pure false)<|>ε)(hf:X.fn x=true\/X.env.scope.names.lookup x=some .local<|>γ) :
  PS X (.Assign [.Name x pos'] e pos) (MD te<|Hh i):=by
 kcf_m;refine wpAny_Assign_Name (jz (U pins s σ H _ I h) λv j ⟨y,H1,g,r1,d⟩=>?_) hs;exact sO g J hi L r1 (λs2 f=>⟨_,H1,f,d⟩) hf
end
section
variable {X:Cx}{pos:Pos}
abbrev Ls (c:TT)(tb:TS):TS:=λD σ H=>∃W:Nat->St->Hp->Prop,(∃m,W m σ H)/\∀m σ H,W m σ H ->
 c σ H λb H1=>if b=true then ∃N:St->Hp->Prop,(∀d H',N d H'->∃f,f<m/\W f d H')/\tb { D with nx:=N,ct:=N,bk:=D.nx } σ H1 else D.nx σ H1
def J6{c:aF}{tc:TT}{tb:TS}(hp:PassesOwn (model X.prog X.w) X.A X.env X.xe)(hc:PT X c tc)(hb:yD X body tb):PS X (.While c body [] pos) (Ls tc tb):=by
 kcf_m;obtain⟨W,⟨U,L⟩,turn⟩:=h;refine wpAny_While<|codeAny_whileLoop (λn s'=>∃j H',Inv X pins j H' s'/\W n j H') ?_ U ⟨σ,H,I,L⟩;rintro n T ⟨g,H1,O,P⟩;refine dz hp (jz (hc pins T g H1 _ O<|turn n g H1 P) λb s2 ⟨H2,J,m⟩=>?_)
 cases b with
 | true=>
  obtain⟨N,K,m⟩:=m;rw[aT rfl];refine dz hp (jz (hb pins s2 g H2 _ J m) λf s3 k=>?_)
  cases f with
  | next=>
   obtain⟨d,H3,p,G⟩:=k;obtain⟨B,C,F⟩:=K d H3 G;exact⟨B,C,d,H3,p,F⟩
  | cont=>
   obtain⟨d,H3,p,G⟩:=k;obtain⟨B,C,F⟩:=K d H3 G;exact⟨B,C,d,H3,p,F⟩
  | brk=>exact k
  | ret v=>exact k
 | false=>
  rw[aQ bh];exact eT ⟨g,H2,J,m⟩
end
structure It where
 go:Nat->Hp->Prop
 yld:Nat->Hp->V->Hp->Prop
 stop:Nat->Hp->Prop
abbrev oR (X:Cx)(pins:bo)(H:Hp)(b:aj):Prop:=
 H b=none/\b≠X.env.locals/\b∉X.fs/\(b∈X.ex\/X.s₀.heap.objs.size<=b)/\(∀x c,X.env.cells.lookup x=some c->c≠b)/\∀p∈X.pn++pins,p.1≠b
def Inv.zh{H H':Hp}{s:aE}(I:Inv X pins σ H s)(hb:s.heap.objs.size<=b)(hn:H' b=none):oR X pins H' b:=by
 refine⟨hn,ez<|bu I.lt hb,I.U_ hb,.inr<|bN I.sz hb,λx c e z=>?_,λp hp z=>?_⟩
 ·obtain⟨v,q⟩:=I.cell x c e;exact absurd (bu q.lt<|by rw[z];exact hb) (c6 _)
 ·exact absurd (bu (aS (I.pin p hp).1)<|by rw[z];exact hb)<|c6 _
structure Turn (P:ah)(w:af)(K:az)(tg:aF)(J:It)(fp:bb)(it:aj)(tn:Nat->au->Prop):Prop where
 mem:it∈fp
 obj:∀i h,tn i h->∀b∈fp,∃o,h.get? b=some o/\∀v,o.data≠.cell v
 keep:∀i h h',tn i h->(∀b∈fp,∀o,h.get? b=some o->h'.get? b=some o)->tn i h'
 item:∀(X:Cx),X.prog=P->X.w=w->X.K=K->X.calm=true->∀(i:Nat) (pins:bo) (s:aE) (σ:St) (H:Hp) (E:aa->aE->Prop),Inv X pins σ H s->(∀b∈fp,oR X pins H b)->tn i s.heap->J.go i H ->
  wpAny (model P w) X.A (pyNext<|.ref it) (λr s1=>∃u,r=some u /\
   wpAny (model P w) X.A (letOwnedTupleGo tg (.ref it) u) (λ_ s2=>∃x H',Inv X pins σ H' s2/\RelV x u/\J.yld i H x H'/\tn (i+1) s2.heap/\∀b∈fp,H' b=none) E s1) E s
 done:∀(X:Cx),X.prog=P->X.w=w->X.K=K->X.calm=true->∀(i:Nat) (pins:bo) (s:aE) (σ:St) (H:Hp) (E:aa->aE->Prop),Inv X pins σ H s->(∀b∈fp,oR X pins H b)->tn i s.heap->J.stop i H ->
  wpAny (model P w) X.A (pyNext<|.ref it) (λr s1=>r=none/\Inv X pins σ H s1) E s
 self:∀(A:aA) (i:Nat) (s:aE) (Q:aa->aE->Prop) (E:aa->aE->Prop),tn i s.heap->Q (.ref it) s->wpAny (model P w) A (pyIter<|.ref it) Q E s
meta abbrev TI:=St->Hp->(It->Hp->Prop)->Prop
abbrev Vp (X:Cx)(pins:bo)(σ:St)(tg:aF)(R:It->Hp->Prop)(j:aa)(s2:aE):Prop:=
 ∃(it:aj) (fp:bb) (d:Nat->au->Prop) (J:It) (H':Hp),j=.ref it/\Inv X pins σ H' s2/\Turn X.prog X.w X.K tg J fp it d/\d 0 s2.heap/\(∀b∈fp,oR X pins H' b)/\R J H'
abbrev PI (X:Cx)(tg iter:aF)(j:TI):Prop:=
 ∀(pins:bo) (s:aE) (σ:St) (H:Hp) (R:It->Hp->Prop),Inv X pins σ H s->j σ H R ->
  wpAny (model X.prog X.w) X.A (eval iter X.env) (λv d=>wpAny (model X.prog X.w) X.A (pyIter v) (Vp X pins σ tg R) X.xe d) X.xe s
def Eb{A:aA}{E:aa->aE->Prop}{s:aE}{o:Obj}{n:String}{Q:Unit->aE->Prop}(J:s.heap.get? it=some o)(hc:o.cls=.type n)(hd:o.data=.fields vs)
  (hn:["enumerate", "zip", "dict_itemiterator", "dict_reverseitemiterator", "odict_iterator", "itertools.zip_longest", "itertools.pairwise"].contains n=false) (j:Q Unit.unit s):wpAny M A (letOwnedTupleGo tg (.ref it) u) Q E s:=by
 unfold letOwnedTupleGo
 cases tg<;>first
  | exact aL j
  | (cases u<;>first
    | exact aL j
    | (refine aH (wpAny_load J ?_)
       rw[hc,hd];show wpAny M A (if (["enumerate", "zip", "dict_itemiterator", "dict_reverseitemiterator", "odict_iterator", "itertools.zip_longest", "itertools.pairwise"].contains n && vs[0]? == some (rawInt _))=true then _ else _) Q E s;rw[aQ<|by intro h;rw[hn,Bool.false_and]at h;cases h];exact aL j))
abbrev TX (K:az)(a:aj):It:=
 ⟨λi H=>∃xs x,mE K H a xs/\xs[i]?=some x,λi H x H'=>H'=H/\∀xs,mE K H a xs->xs[i]?=some x,λi H=>∃xs,mE K H a xs/\xs.length<=i⟩
abbrev Ur (K:az)(a:aj):It:=
 ⟨λi H=>∃xs x,kZ K H a xs/\xs[i]?=some x,λi H x H'=>H'=H/\∀xs,kZ K H a xs->xs[i]?=some x,λi H=>∃xs,kZ K H a xs/\xs.length<=i⟩
abbrev Rz (lo:Int)(n:Nat):It:=⟨λi _=>i<n,λi H x H'=>H'=H/\x=.int (lo+i),λi _=>n<=i⟩
def Gq{P:ah}{w:af}{K:az}(a it:aj):Turn P w K tg (TX K a) [it] it (λi h=>h.IsListIter it a i) where
 mem:=by simp
 obj:=λi h st b f=>by
  have e:b=it:=by simpa using f
  subst e;obtain⟨o,e,c,d⟩:=st;exact⟨o,e,λv z=>by rw[d]at z;cases z⟩
 keep:=λi h h' st k=>st.at λo e=>k it (by simp) o e
 item:=by
  x_go;subst hP hw hK;obtain⟨xs,x,j,C⟩:=hg;obtain⟨B,m,p,O⟩:=I.list j;obtain⟨u,J,L⟩:=m.get C;kd_p;refine wpAny_pyNext_list_item st p.isList (x:=u) (by simpa using J) λh' g F=>?_;have G:Inv X pins σ H { s with heap:=h' }:=I.turned (t':=s.toks) (λb o f e=>(F.2 b f).trans e) f0 f1 f3 f4 f5;obtain⟨o,e,c,d⟩:=id g;exact⟨u,rfl,Eb (s:={ s with heap:=h' }) e c d ⋯ ⟨x,H,G,L,⟨rfl,λys hy=>by rw[I.G5 hy j];exact C⟩,g,λb f=>(hf b f).1⟩⟩
 done:=by
  x_go;subst hP hw hK;obtain⟨xs,j,C⟩:=hg;obtain⟨B,m,p,O⟩:=I.list j;kd_p;have T:=m.length;exact wpAny_pyNext_list_end (I.ok.hd hc) st p.isList (by simp;omega) λh' N=>⟨rfl,I.turned (t':=s.toks) (λb o f e=>N b o f e) f0 f1 f3 f4 f5⟩
 self:=λ_ _ _ _ _ st h=>wpAny_pyIter_listiter st h
def CJ{P:ah}{w:af}{K:az}(a it:aj):Turn P w K tg (Ur K a) [it] it (λi h=>h.IsTupleIter it a i) where
 mem:=by simp
 obj:=λi h st b f=>by
  have e:b=it:=by simpa using f
  subst e;obtain⟨o,e,c,d⟩:=st;exact⟨o,e,λv z=>by rw[d]at z;cases z⟩
 keep:=λi h h' st k=>st.at λo e=>k it (by simp) o e
 item:=by
  x_go;subst hP hw hK;obtain⟨xs,x,m,C⟩:=hg;obtain⟨g,B,p,O⟩:=I.tuple m;obtain⟨u,J,L⟩:=B.get C;kd_p;refine wpAny_pyNext_tuple_item st (show s.heap.IsTuple a g.toArray from p) (x:=u) (by simpa using J) λh' j F=>?_;have G:Inv X pins σ H { s with heap:=h' }:=I.turned (t':=s.toks) (λb o f e=>(F.2 b f).trans e) f0 f1 f3 f4 f5;obtain⟨o,e,c,d⟩:=id j;exact⟨u,rfl,Eb (s:={ s with heap:=h' }) e c d ⋯ ⟨x,H,G,L,⟨rfl,λys hy=>by rw[I.uF hy m];exact C⟩,j,λb f=>(hf b f).1⟩⟩
 done:=by
  x_go;subst hP hw hK;obtain⟨xs,m,C⟩:=hg;obtain⟨g,B,p,O⟩:=I.tuple m;kd_p;have T:=B.length;exact wpAny_pyNext_tuple_end (I.ok.hd hc) st (show s.heap.IsTuple a g.toArray from p) (by simp;omega) λh' N=>⟨rfl,I.turned (t':=s.toks) (λb o f e=>N b o f e) f0 f1 f3 f4 f5⟩
 self:=λ_ _ _ _ _ st h=>wpAny_pyIter_tupleiter st h
def CN{P:ah}{w:af}{K:az}(it:aj)(lo:Int)(n:Nat):Turn P w K tg (Rz lo n) [it] it (λi h=>IsRangeIter h it (lo+(i:Nat) * 1) ((n:Int)-(i:Nat)) 1) where
 mem:=by simp
 obj:=λi h st b d=>by
  have e:b=it:=by simpa using d
  subst e;exact⟨_,st,λv z=>by
   have m:Data.fields _=Data.cell v:=z
   cases m⟩
 keep:=λi h h' st k=>k it (by simp) _ st
 item:=by
  x_go;subst hP hw hK;kd_p;have W:=Walks.range (prog:=X.prog) (w:=X.w) (I.ok.hd hc) it lo 1 n;refine W.item i s _ _ hg st λv h' tk hv f g=>?_;obtain⟨t,rfl⟩:=hv;have j:Inv X pins σ H { s with heap:=h',toks:=tk }:=I.turned (λb o d e=>g b o (by simpa using d) e) f0 f1 f3 f4 f5;refine⟨_,rfl,Eb (s:={ s with heap:=h',toks:=tk }) (n := "range_iterator") f rfl rfl ⋯ ⟨.int<|lo+i,H,j,⟨t,?_⟩,⟨rfl,rfl⟩,f,λb d=>(hf b d).1⟩⟩;rw[Int.mul_one]
 done:=by
  x_go;subst hP hw hK;kd_p;exact wpAny_pyNext_range_end (I.ok.hd hc) st (by have:n<=i:=hg;lia) λh' p=>⟨rfl,I.turned (t':=s.toks) (λb o d e=>p b o d e) f0 f1 f3 f4 f5⟩
 self:=λ_ _ _ _ _ st h=>wpAny_pyIter_rangeiter st h
section
variable {X:Cx}{tg:aF}
abbrev R0 (K:az)(tl:TE):TI:=λσ H R=>tl σ H λx H1=>∃a,x=.ref a/\(∃xs,mE K H1 a xs)/\R (TX K a) H1
abbrev U1 (K:az)(tl:TE):TI:=λσ H R=>tl σ H λx H1=>∃a,x=.ref a/\(∃xs,kZ K H1 a xs)/\R (Ur K a) H1
def E4{tl:TE}(J:PE X l tl):PI X tg l (R0 X.K tl):=by
 intro pins s σ H R I h;refine jz (J pins s σ H _ I h) λv f ⟨x,H1,d,r1,j⟩=>?_;obtain⟨a,e,⟨xs,k⟩,q⟩:=j;subst e
 cases r1
 obtain⟨m,B,p,C⟩:=d.list k;refine gj p.isList ?_;refine⟨f.heap.objs.size,[f.heap.objs.size],_,_,H1,rfl,d.kept (t':=f.toks) λb o e=>aI _ e,Gq a _,⟨_,aU _ rfl,rfl,rfl⟩,λb g=>?_,q⟩;have e:b=f.heap.objs.size:=by simpa using g
 subst e;exact d.zh (aO _)<|d.hok.fresh<|aO _
def HW{tl:TE}(J:PE X l tl):PI X tg l (U1 X.K tl):=by
 intro pins s σ H R I h;refine jz (J pins s σ H _ I h) λv d ⟨x,H1,f,r1,k⟩=>?_;obtain⟨a,e,⟨xs,m⟩,q⟩:=k;subst e
 cases r1
 obtain⟨g,B,p,C⟩:=f.tuple m;refine eU (show d.heap.IsTuple a g.toArray from p) ?_;refine⟨d.heap.objs.size,[d.heap.objs.size],_,_,H1,rfl,f.kept (t':=d.toks) λb o e=>aI _ e,CJ a _,⟨_,aU _ rfl,rfl,rfl⟩,λb j=>?_,q⟩;have e:b=d.heap.objs.size:=by simpa using j
 subst e;exact f.zh (aO _)<|f.hok.fresh<|aO _
def BA{H:Hp}{s:aE}{R:It->Hp->Prop}{E:aa->aE->Prop}{lo hi:Int}{v:Tok}{tk:Nat}(I:Inv X pins σ H s)(h1:-(2 ^ 62)<=lo)(j:lo<2 ^ 62)(J:-(2 ^ 62)<=hi)(L:hi<2 ^ 62)
  (q:R (Rz lo (hi-lo).toNat) H):wpAny (model X.prog X.w) X.A (pyIter<|.ref s.heap.objs.size) (Vp X pins σ tg R) E { s with heap:=s.heap.push { cls:=.type "range",data:=.fields #[.int lo t,.int hi u,.int 1 v]},toks:=tk }:=by
 refine wpAny_pyIter_range (IsRange.new ..) (small_one h1 j J L) ?_;have d:Inv X pins σ H { s with heap:=s.heap.push { cls:=.type "range",data:=.fields #[.int lo t,.int hi u,.int 1 v]},toks:=tk }:=I.kept λb o e=>aI _ e;refine⟨(s.heap.push { cls:=.type "range",data:=.fields #[.int lo t,.int hi u,.int 1 v]}).objs.size,[(s.heap.push { cls:=.type "range",data:=.fields #[.int lo t,.int hi u,.int 1 v]}).objs.size],_,_,H,rfl,
  d.kept (t':=tk) λb o e=>aI _ e,CN _ lo (hi-lo).toNat,?_,λb f=>?_,q⟩
 ·have e1:lo+((0:Nat):Int) * 1=lo:=by simp
  have e2:(((hi-lo).toNat:Nat):Int)-((0:Nat):Int)=Builtin.Range.rangeSize lo hi 1:=by rw[rangeSize_one];split<;>lia
  skip
  rw[e1,e2];exact aU _ rfl
 ·have e:b=(s.heap.push { cls:=.type "range",data:=.fields #[.int lo t,.int hi u,.int 1 v]}).objs.size:=by simpa using f
  subst e;exact d.zh (aO _)<|d.hok.fresh<|aO _
abbrev tV (ta:TA):TI:=λσ H R=>ta σ H λvs H1=>∃j:Int,vs=[.int j]/\-(2 ^ 62)<=j/\j<2 ^ 62/\R (Rz 0 j.toNat) H1
abbrev yw (ta:TA):TI:=λσ H R=>ta σ H λvs H1=>∃i j:Int,vs=[.int i,.int j]/\(-(2 ^ 62)<=i/\i<2 ^ 62/\-(2 ^ 62)<=j/\j<2 ^ 62)/\R (Rz i (j-i).toNat) H1
def F7{a:aF}{ta:TA}{p:Pos}(hg:Gl X "range")(J:X.mg "range" = none)(L:PA X [a] ta)(hs:starEach [a] X.env=[(false,eval a X.env)]<|>ε):PI X tg (.Call (.Name "range" p) [a] [] pos) (tV ta):=by
 intro pins s σ H R I h;refine Call_<|t9 I hg J boot_range<|c5 (jz (L pos pins s σ H _ I h) λus m ⟨vs,H1,f,r1,d⟩=>?_) hs rfl;obtain⟨j,e,d,k,q⟩:=d;subst e
 cases r1 with
 | cons r g=>
  cases g
  obtain⟨t,rfl⟩:=r;exact call_range_1<|BA f () () d k<|by simpa using q
def FN{a b:aF}{ta:TA}{p:Pos}(hg:Gl X "range")(L:X.mg "range" = none)(U:PA X [a,b] ta)(hs:starEach [a,b] X.env=[(false,eval a X.env),(false,eval b X.env)]<|>ε)(J:starEach [b] X.env=[(false,eval b X.env)]<|>ε) :
  PI X tg (.Call (.Name "range" p) [a,b] [] pos) (yw ta):=by
 intro pins s σ H R I h;refine Call_ (t9 I hg L boot_range<|c5 (jz (U pos pins s σ H _ I h) λus F ⟨vs,H1,g,r1,d⟩=>?_) (by rw[hs,J])<|by rw[J];rfl);obtain⟨i,j,e,⟨d,C,B,k⟩,q⟩:=d;subst e
 cases r1 with
 | cons r f=>
  cases f with
  | cons m f=>
   cases f
   obtain⟨t,rfl⟩:=r;obtain⟨G,rfl⟩:=m;exact call_range_2<|BA g d C B k q
abbrev U6 (j:TI)(g:TG)(tb:TS):TS:=λD σ H=>j σ H λJ H1=>∃W:Nat->Nat->St->Hp->Prop,(∃m,W 0 m σ H1)/\∀i m σ H,W i m σ H ->
 (J.stop i H/\D.nx σ H)\/(J.go i H/\∃N:St->Hp->Prop,(∀d H',N d H'->∃f,f<m/\W (i+1) f d H')/\∀x H',J.yld i H x H'->g x σ H' λσ2 H2=>tb { D with nx:=N,ct:=N,bk:=D.nx } σ2 H2)
abbrev r8 (fp:bb)(h:au):bo:=fp.filterMap λb=>(h.get? b).map λo=>(b,o)
def kE{fp:bb}{h:au}{b:aj}(hb:b∈fp)(e:h.get? b=some o):(b,o)∈r8 fp h:=c9.mpr ⟨b,hb,by rw[e];rfl⟩
def FY{fp:bb}{h:au}{p:aj×Obj}(hp:p∈r8 fp h):p.1∈fp/\h.get? p.1=some p.2:=by
 obtain⟨b,d,e⟩:=c9.mp hp
 cases q:h.get? b with
 | none=>rw[q]at e;cases e
 | some o=>
  rw[q]at e;have f:(b,o)=p:=aR e;subst f;exact⟨d,q⟩
def Inv.pinned{H:Hp}{s:aE}{fp:bb}(I:Inv X pins σ H s)(hf:∀b∈fp,oR X pins H b)(j:∀b∈fp,∃o,s.heap.get? b=some o/\∀v,o.data≠.cell v):Inv X (pins++r8 fp s.heap) σ H s:=
 I.DR λp hp=>(bQ.mp hp).elim (λz=>I.pin p<|bx _ z) λz=>by
  obtain⟨f,e⟩:=FY z;obtain⟨f0,f1,f2,_⟩:=hf p.1 f;obtain⟨o,g,d⟩:=j p.1 f;rw[e]at g;cases g;exact⟨e,f0,f1,f2,d⟩
def Inv.oE{pl:bo}{H:Hp}(I:Inv X (pins++pl) σ H s):Inv X pins σ H s:=I.DR λp hp=>I.pin p<|bx _<|bC _ hp
def Ql{iter:aF}{wi:TI}{g:TG}{tb:TS}(hp:PassesOwn (model X.prog X.w) X.A X.env X.xe)(hc:X.calm=true)(hi:PI X tg iter wi)(hg:PG X tg g)(hb:yD X body tb)
  (hs:(∀x,foldedSetIterable iter X.env x=pure x)<|>ζ):PS X (.For tg iter body [] pos) (U6 wi g tb):=by
 kcf_m;refine wpAny_For (jz (hi pins s σ H _ I h) λv s1 h1=>jz h1 λitv s2 h2=>?_) hs;obtain⟨it,fp,tn,J,H2,e,I2,T,st2,f2,W,⟨m0,w0⟩,turn⟩:=h2;subst e;have B:∀{H':Hp},(∀b∈fp,H' b=none)->∀b∈fp,oR X pins H' b:=λhn b hb=>⟨hn b hb,(f2 b hb).2⟩;refine codeAny_forLoop_any (λn s'=>∃i p H',Inv X pins p H' s'/\tn i s'.heap/\(∀b∈fp,H' b=none)/\W i n p H') ?_ m0 ⟨0,σ,H2,I2,st2,λb hb=>(f2 b hb).1,w0⟩;rintro n s3 ⟨i,F,H3,I3,L,U,w3⟩
 rcases turn i n F H3 w3 with⟨P,qn⟩|⟨go,N,hN,step⟩
 ·refine dz hp<|jz (T.done X rfl rfl rfl hc i pins s3 F H3 X.xe I3 (B U) L P) λr s4 ⟨V,I4⟩=>?_;subst V;exact eT ⟨F,H3,I4,qn⟩
 ·refine dz hp<|jz (T.item X rfl rfl rfl hc i pins s3 F H3 X.xe I3 (B U) L go) λr s4 ⟨u,V,h4⟩=>?_;subst V;refine dz hp<|jz h4 λ_ s5 ⟨x,H5,I5,r5,y5,K,Y⟩=>?_;have I5':=I5.pinned (B Y)<|T.obj _ _ K;refine dz hp<|jz (hg _ s5 F H5 x u _ I5' r5<|step x H5 y5) λ_ s6 ⟨Z,H6,I6,q6⟩=>?_;refine dz hp<|jz (hb _ s6 Z H6 _ I6 q6) λf s7 G=>?_;have again:∀{j:St} {k:Hp},Inv X (pins++r8 fp s5.heap) j k s7->N j k->∃m,m<n/\∃i p H',Inv X pins p H' s7/\tn i s7.heap/\(∀b∈fp,H' b=none)/\W i m p H':=λ{j k} C O=>by
   obtain⟨m',hm,w7⟩:=hN j k O;refine⟨m',hm,i+1,j,k,C.oE,T.keep _ _ _ K λb hb o e=>(C.pin (b,o)<|bx _<|bx _<|kE hb e).1,λb hb=>?_,w7⟩;obtain⟨o,e,d⟩:=T.obj _ _ K b hb;exact(C.pin (b,o)<|bx _<|bx _<|kE hb e).2.1
  cases f with
  | next=>obtain⟨j,k,C,O⟩:=G;exact again C O
  | cont=>obtain⟨j,k,C,O⟩:=G;exact again C O
  | brk=>obtain⟨j,k,C,G⟩:=G;exact⟨j,k,C.oE,G⟩
  | ret v=>obtain⟨x7,j,k,C,r7,G⟩:=G;exact⟨x7,j,k,C.oE,r7,G⟩
end
def wN{c:TT}{tb:TS}{D:Ends}{H:Hp}(j:St->Hp->Prop)(J:St->Hp->Nat)(h0:j σ H)
  (hs:∀σ H,j σ H->c σ H λb H1=>if b=true then tb { D with nx:=λσ' H'=>j σ' H'/\J σ' H'<J σ H,ct:=λσ' H'=>j σ' H'/\J σ' H'<J σ H,bk:=D.nx } σ H1 else D.nx σ H1)
  (mono:∀σ H Q Q',(∀b H1,Q b H1->Q' b H1)->c σ H Q->c σ H Q'):Ls c tb D σ H:=by
 refine⟨λm σ H=>m=J σ H/\j σ H,⟨_,rfl,h0⟩,?_⟩;rintro m σ H ⟨rfl,p⟩;refine mono σ H _ _ (λb H1 q=>?_) (hs σ H p)
 cases b with
 | true=>exact⟨_,λσ' H' ⟨d,l⟩=>⟨_,l,rfl,d⟩,q⟩
 | false=>exact q
meta abbrev R2:=V->V->Hp->VK->Prop
abbrev kC (X:Cx)(f:aa->aa->Sem aa)(r:R2):Prop:=
 ∀(pins:bo) (s:aE) (σ:St) (H:Hp) (x y:V) (v u:aa) (Q:VK),Inv X pins σ H s->RelV x v->RelV y u->r x y H Q ->
  wpAny (model X.prog X.w) X.A (f v u) (EP X pins σ Q) X.xe s
abbrev TZ (X:Cx)(f:aa->Sem aa)(r:V->Hp->VK->Prop):Prop:=
 ∀(pins:bo) (s:aE) (σ:St) (H:Hp) (x:V) (v:aa) (Q:VK),Inv X pins σ H s->RelV x v->r x H Q ->
  wpAny (model X.prog X.w) X.A (f v) (EP X pins σ Q) X.xe s
abbrev iQ (X:Cx)(f:aa)(r:List V->Hp->VK->Prop):Prop:=
 ∀(pins:bo) (s:aE) (σ:St) (H:Hp) (xs:List V) (us:ba) (Q:VK),Inv X pins σ H s->Vals xs us->r xs H Q ->
  wpAny (model X.prog X.w) X.A (call f us) (EP X pins σ Q) X.xe s
abbrev UI (X:Cx)(r:V->Hp->(Bool->Hp->Prop)->Prop):Prop:=
 ∀(pins:bo) (s:aE) (σ:St) (H:Hp) (x:V) (v:aa) (Q:Bool->Hp->Prop),Inv X pins σ H s->RelV x v->r x H Q ->
  wpAny (model X.prog X.w) X.A (truthy v) (TP X pins σ Q) X.xe s
abbrev Q2 (r:R2)(ta tb:TE):TE:=λσ H Q=>ta σ H λx H1=>tb σ H1 λy H2=>r x y H2 Q
abbrev Vi (r:V->Hp->VK->Prop)(ta:TE):TE:=λσ H Q=>ta σ H λx H1=>r x H1 Q
abbrev rI (C:Int->Int->Prop)(g:Int->Int->V):R2:=λx y H Q=>∃i j,x=.int i/\y=.int j/\C i j/\Q (g i j) H
abbrev Oi (g:Int->Int->V):R2:=λx y H Q=>∃i j,x=.int i/\y=.int j/\Q (g i j) H
abbrev rU (g:Int->V):V->Hp->VK->Prop:=λx H Q=>∃i,x=.int i/\Q (g i) H
section
variable {X:Cx}{a b:aF}{ta tb:TE}{pos:Pos}
def Pq(J:PE X a ta)(hb:PE X b tb){H:Hp}{R:V->V->Hp->Prop}(I:Inv X pins σ H s)
  (h:ta σ H λx H1=>tb σ H1 λy H2=>R x y H2) {Q:aa->aE->Prop} {f:aa->aa->Sem aa}
  (hf:∀v u s2 x y H2,Inv X pins σ H2 s2->RelV x v->RelV y u->R x y H2->wpAny (model X.prog X.w) X.A (f v u) Q X.xe s2) :
  wpAny (model X.prog X.w) X.A (eval a X.env) (λv s₁=>wpAny (model X.prog X.w) X.A (eval b X.env) (λu s₂=>wpAny (model X.prog X.w) X.A (f v u) Q X.xe s₂) X.xe s₁) X.xe s:=by
 refine jz (J pins s σ H _ I h) λv g ⟨x,H1,k,r1,d⟩=>?_;refine jz (hb pins g σ H1 _ k d) λu s2 ⟨y,H2,j,r2,m⟩=>?_;exact hf v u s2 x y H2 j r1 r2 m
def SQ{r:R2}(j:kC X (binaryOp op) r)(J:PE X a ta)(hb:PE X b tb):PE X (.BinOp a op b pos) (Q2 r ta tb):=by
 z_go;exact wpAny_BinOp<|Pq J hb I h λv u s2 x y H2 d rx ry q=>j pins s2 σ H2 x y v u Q d rx ry q
def HN{r:V->Hp->VK->Prop}(j:TZ X (unaryOp op) r)(J:PE X a ta):PE X (.UnaryOp op a pos) (Vi r ta):=by
 z_go;exact UnaryOp_<|jz (J pins s σ H _ I h) λv f ⟨x,H1,g,r1,d⟩=>j pins f σ H1 x v Q g r1 d
def TL{f:aa->aa->Sem aa}{C:Int->Int->Prop}{g:Int->Int->Int}
  (J:∀(i j:Int) (t u:Tok) (s:aE) (Q:aa->aE->Prop) (E:aa->aE->Prop),C i j->Q (.int (g i j) s.toks) { s with toks:=s.toks+1 }->wpAny (model X.prog X.w) X.A (f (.int i t)<|.int j u) Q E s) :
  kC X f (rI C λi j=>.int<|g i j):=by
 kt_k;obtain⟨i,j,rfl,rfl,hc,q⟩:=h;kj_on;obtain⟨d,rfl⟩:=ry;exact J i j t d s _ _ hc ⟨.int<|g i j,H,I.tok _,⟨_,rfl⟩,q⟩
def Rc{f:aa->aa->Sem aa}{g:Int->Int->Int}
  (J:∀(i j:Int) (t u:Tok) (s:aE) (Q:aa->aE->Prop) (E:aa->aE->Prop),Q (.int (g i j) s.toks) { s with toks:=s.toks+1 }->wpAny (model X.prog X.w) X.A (f (.int i t)<|.int j u) Q E s) :
  kC X f (Oi λi j=>.int<|g i j):=by
 kt_k;obtain⟨i,j,rfl,rfl,q⟩:=h;kj_on;obtain⟨d,rfl⟩:=ry;exact J i j t d s _ _ ⟨.int<|g i j,H,I.tok _,⟨_,rfl⟩,q⟩
def MT{f:aa->aa->Sem aa}{g:Int->Int->Bool}
  (J:∀(i j:Int) (t u:Tok) (s:aE) (Q:aa->aE->Prop) (E:aa->aE->Prop),Q (.bool<|g i j) s->wpAny (model X.prog X.w) X.A (f (.int i t)<|.int j u) Q E s) :
  kC X f (Oi λi j=>.bl<|g i j):=by
 kt_k;obtain⟨i,j,rfl,rfl,q⟩:=h;kj_on;obtain⟨d,rfl⟩:=ry;exact J i j t d s _ _ ⟨.bl<|g i j,H,I,rfl,q⟩
abbrev UP (i j:Int):Prop:=0<=j/\j<=1000000/\i.natAbs<2 ^ 64
abbrev Mu (i j:Int):Prop:=(-(2 ^ 64)<i/\i<2 ^ 64)\/(-(2 ^ 64)<j/\j<2 ^ 64)
def Mu.ok{i j:Int}(h:Mu i j):IntMulOk i j:=by
 rcases h with⟨h1,d⟩|⟨h1,d⟩
 ·exact .of_left (intBits_le_64 h1 d)
 ·exact .of_right<|intBits_le_64 h1 d
def P6:kC X (binaryOp .Add) (Oi λi j=>.int<|i+j):=Rc λ_ _ _ _ _ _ _ q=>add_int q
def PJ:kC X (binaryOp .Sub) (Oi λi j=>.int<|i-j):=Rc λ_ _ _ _ _ _ _ q=>sub_int q
def QC:kC X (binaryOp .Mult) (rI Mu λi j=>.int<|i * j):=TL λ_ _ _ _ _ _ _ hc q=>mul_int q hc.ok
def Qx:kC X (binaryOp .Mod) (rI (λ_ j=>0<j) λi j=>.int<|i % j):=TL λi j _ _ _ _ _ hc q=>by
 have h1:(0:Int)<j:=hc;exact mod_int' ()<|by rw[Int.fmod_eq_emod_of_nonneg i ()];exact q
def OY:kC X (binaryOp .Pow) (rI UP λi j=>.int<|i ^ j.toNat):=TL λ_ _ _ _ _ _ _ hc q=>pow_int_small hc.1 hc.2.1 hc.2.2 q
def Wa{f:aa->Sem aa}{g:Int->Int}
  (j:∀(i:Int) (t:Tok) (s:aE) (Q:aa->aE->Prop) (E:aa->aE->Prop),Q (.int (g i) s.toks) { s with toks:=s.toks+1 }->wpAny (model X.prog X.w) X.A (f<|.int i t) Q E s) :
  TZ X f (rU λi=>.int<|g i):=by
 intro pins s σ H x v Q I rx h;obtain⟨i,rfl,q⟩:=h;kj_on;exact j i t s _ _ ⟨.int<|g i,H,I.tok _,⟨_,rfl⟩,q⟩
def Cm:TZ X (unaryOp .USub) (rU λi=>.int<|-i):=Wa λ_ _ _ _ _ q=>neg_int q
end
section
variable {X:Cx}{a b c:aF}{ta tb tc:TE}{pos:Pos}
def Jp{H:Hp}{Q:VK}{k:Bool}(I:Inv X pins σ H s)(q:Q (.bl k) H)(e:k=k'):EP X pins σ Q (.bool k') s:=by
 subst e;exact⟨.bl k,H,I,rfl,q⟩
def Ry:kC X (compareOp .Lt) (Oi λi j=>.bl<|decide<|i<j):=MT λ_ _ _ _ _ _ _ q=>lt_int q
def Td:kC X (compareOp .LtE) (Oi λi j=>.bl<|decide<|i<=j):=MT λ_ _ _ _ _ _ _ q=>le_int q
def Ri:kC X (compareOp .Gt) (Oi λi j=>.bl<|decide<|j<i):=MT λ_ _ _ _ _ _ _ q=>gt_int q
def To:kC X (compareOp .GtE) (Oi λi j=>.bl<|decide<|j<=i):=MT λ_ _ _ _ _ _ _ q=>ge_int q
def Fy:kC X (compareOp .In) (λx y H Q=>∃i j,x=.str i/\y=.str j/\Q (.bl<|!(Builtin.Str.occurrences j i 0 j.length 1).isEmpty) H):=by
 kt_k;obtain⟨i,j,rfl,rfl,q⟩:=h;kj_on;obtain⟨d,rfl⟩:=ry;exact in_str<|Jp I q rfl
def O5:kC X (compareOp .Is) (λx y H Q=>y=.non/\Q (.bl<|decide<|x=.non) H):=by
 kt_k;obtain⟨rfl,q⟩:=h
 cases ry
 refine is_none_gen (Jp I q ?_)
 cases x<;>first
  | (cases rx;rfl)
  | (obtain⟨t,rfl⟩:=rx;rfl)
def JM(b:aF)(h:op≠.In<|>δ)(j:op≠.NotIn<|>δ):behindInMarks op b=false:=by
 have e1:(op == CmpOp.In)=false:=by cases op<;>first|rfl|exact absurd rfl h
 have e2:(op == CmpOp.NotIn)=false:=by cases op<;>first|rfl|exact absurd rfl j
 cases b<;>simp[behindInMarks,e1,e2]
def L7{j:CmpOp}{r:R2}(J:kC X (compareOp j) r)(L:PE X a ta)(hb:PE X b tb)(U:behindInMarks j b=false):PE X (.Compare a [j] [b] pos) (Q2 r ta tb):=by
 z_go;exact wpAny_Compare1 (Pq L hb I h λv u s2 x y H2 d rx ry q=>J pins s2 σ H2 x y v u Q d rx ry q) U
abbrev NJ (t:TE):TT:=λσ H Q=>t σ H λx H'=>∃k,x=.bl k/\Q k H'
def Dz{J:CmpOp}{r:R2}(L:kC X (compareOp J) r)(U:PE X a ta)(hb:PE X b tb)(Z:behindInMarks J b=false):PT X (.Compare a [J] [b] pos) (NJ<|Q2 r ta tb):=by
 z_go;refine wpAny_isTrue_Compare1 (jz (U pins s σ H _ I h) λv j ⟨x,H1,f,r1,m⟩=>jz (hb pins j σ H1 _ f m) λu s2 ⟨y,H2,p,r2,C⟩=>
  jz (L pins s2 σ H2 x y v u _ p r1 r2 C) λc s3 ⟨z,H3,d,g,k,e,B⟩=>?_) Z
 subst e
 cases g
 exact cJ ⟨H3,d,B⟩
abbrev CO (r j:R2)(ta tb tc:TE):TE:=λσ H Q=>ta σ H λx H1=>tb σ H1 λy H2=>r x y H2 λz H3=>∃k,z=.bl k /\
 (if k=true then tc σ H3 λf d=>j y f d Q else Q (.bl false) H3)
def IF{r Z:R2}(ho:kC X (compareOp op) r)(U:kC X (compareOp op') Z)(ha:PE X a ta)(hb:PE X b tb)(hc:PE X c tc)
  (hm:lastMarks [op,op'] [b,c]=false<|>η):PE X (.Compare a [op,op'] [b,c] pos) (CO r Z ta tb tc):=by
 z_go;refine Compare_chain (jz (ha pins s σ H _ I h) λv C ⟨x,H1,j,r1,G⟩=>chain_link (jz (hb pins C σ H1 _ j G) λu s2 ⟨y,H2,J,r2,P⟩=>
  jz (ho pins s2 σ H2 x y v u _ J r1 r2 P) λd s3 ⟨z,H3,f,m,k,e,g⟩=>?_)) hm
 subst e
 cases m
 refine cJ ?_
 cases k with
 | false=>exact ite_ff ⟨.bl false,H3,f,rfl,g⟩
 | true=>exact ite_tt<|chain_last<|jz (hc pins s3 σ H3 _ f g) λO F ⟨K,N,L,B,p⟩=>U pins F σ N y K u O Q L r2 B p
def JY{r r':R2}(ho:kC X (compareOp op) r)(ho':kC X (compareOp op') r')(ha:PE X a ta)(hb:PE X b tb)(hc:PE X c tc)
  (hm:lastMarks [op,op'] [b,c]=false<|>η):PT X (.Compare a [op,op'] [b,c] pos) (NJ<|CO r r' ta tb tc):=by
 z_go;refine isTrue_chain (jz (ha pins s σ H _ I h) λv C ⟨x,H1,j,r1,J⟩=>test_link (jz (hb pins C σ H1 _ j J) λu s2 ⟨y,H2,L,r2,Z⟩=>
  jz (ho pins s2 σ H2 x y v u _ L r1 r2 Z) λd s3 ⟨z,H3,f,m,k,e,g⟩=>?_)) hm
 subst e
 cases m
 refine cJ ?_
 cases k with
 | false=>
  obtain⟨k',Y,q'⟩:=g
  cases Y
  exact ite_ff ⟨H3,f,q'⟩
 | true=>
  refine ite_tt<|test_last<|jz (hc pins s3 σ H3 _ f g) λV G ⟨N,U,T,B,p⟩=>jz (ho' pins G σ U y N u V _ T r2 B p) λd' s5 ⟨z2,P,K,O,k2,e2,F⟩=>?_;subst e2
  cases O
  exact cJ ⟨P,K,F⟩
abbrev Qg (K:az)(x:V)(H:Hp)(k:Bool):Prop:=
 match x with
 | .non=>k=false
 | .bl b=>k=b
 | .int i=>k=(i != 0)
 | .str y=>y.length<=sizeLine/\k=((y.length:Int) != 0)
 | .byt y=>y.size<=sizeLine/\k=((y.size:Int) != 0)
 | .ref p=>(∃xs,mE K H p xs/\k=!xs.isEmpty)\/(∃xs,kZ K H p xs/\k=!xs.isEmpty)\/∃kvs,H p=some (.dK kvs)/\k=!kvs.isEmpty
 | _=>False
def BY{κ:Type}{kvs:List<|κ×V}{vs:List<|κ×aa}(r:KV kvs vs):(!vs.isEmpty)=!kvs.isEmpty:=by
 cases r<;>rfl
def w9{xs:List V}{its:ba}(r:Vals xs its):(!its.toArray.isEmpty)=!xs.isEmpty:=by
 cases r<;>simp
def ue:(sizeLine:Nat)<2 ^ 63:=by rw[bD];decide
def OV:UI X (λx H Q=>∃k,Qg X.K x H k/\Q k H):=by
 intro pins s σ H x v Q I rx h;obtain⟨k,e,q⟩:=h;have F:=ue;have hs:sizeLine=16777216:=bD
 cases x with
 | non=>
  cases rx
  have d:k=false:=e;subst d;exact truthy_none ⟨H,I,q⟩
 | bl b=>
  cases rx
  have d:k=b:=e;subst d;exact cJ ⟨H,I,q⟩
 | int i=>
  kj_on;have d:k=(i != 0):=e;subst d;exact PySem.P.truthy_int ⟨H,I,q⟩
 | str y=>
  kj_on;obtain⟨hy,d⟩:y.length<=sizeLine/\k=((y.length:Int) != 0):=e;subst d;exact PySem.P.truthy_str () ⟨H,I.tok _,q⟩
 | byt y=>
  kj_on;obtain⟨hy,d⟩:y.size<=sizeLine/\k=((y.size:Int) != 0):=e;subst d;exact PySem.W.truthy_bytes () ⟨H,I.tok _,q⟩
 | ref p=>
  cases rx
  have d:(∃xs,mE X.K H p xs/\k=!xs.isEmpty)\/(∃xs,kZ X.K H p xs/\k=!xs.isEmpty)\/∃kvs,H p=some (.dK kvs)/\k=!kvs.isEmpty:=e
  rcases d with⟨xs,g,d⟩|⟨xs,g,d⟩|⟨kvs,g,d⟩
  ·subst d;obtain⟨j,r,pl,B⟩:=I.list g;have f:=r.length;exact wpAny_truthy_list pl.isList (by dsimp[aP];lia) ⟨H,I.tok _,by rw[w9 r];exact q⟩
  ·subst d;obtain⟨j,r,pl,B⟩:=I.tuple g;have f:=r.length;exact truthy_tuple pl (by dsimp[aP];lia) ⟨H,I.tok _,by rw[w9 r];exact q⟩
  ·subst d;obtain⟨B,C,vs,r,m⟩:kvs.length<=sizeLine/\(p == sysModules)=false/\∃vs,KV kvs vs/\s.heap.DictOf (iR X.prog X.w) p vs:=I.hok p _ g;have f:kvs.length=vs.length:=gv r;exact wpAny_truthy_dict C m () ⟨H,I.tok _,by rw[BY r];exact q⟩
 | _=>exact(show False from e).elim
def Lx(j:PE X a ta)(J:∀whole,isTrue a X.env whole=(do let v <- whole;standAt a.pos;holding [v] (truthy v))) :
  PT X a (λσ H Q=>ta σ H λx H'=>∃k,Qg X.K x H' k/\Q k H'):=by
 z_go;exact isTrue_plain (jz (j pins s σ H _ I h) λv f ⟨x,H1,g,r1,d⟩=>OV pins f σ H1 x v Q g r1 d)<|J _
def B9:kC X (binaryOp .Add) (λx y H Q=>∃i j,x=.str i/\y=.str j/\i.length+j.length<=sizeLine/\Q (.str<|i++j) H):=by
 kt_k;obtain⟨i,j,rfl,rfl,d,q⟩:=h;kj_on;obtain⟨f,rfl⟩:=ry;exact add_str (λf tk=>⟨.str<|i++j,H,I.tok _,⟨_,rfl⟩,q⟩) d
def vals1{x:V}(r:Vals [x] us):∃u,us=[u]/\RelV x u:=by
 cases r with
 | cons r1 r2=>cases r2;exact⟨_,rfl,r1⟩
def vals2{x:V}(r:Vals [x,y] us):∃u w',us=[u,w']/\RelV x u/\RelV y w':=by
 cases r with
 | cons r1 r2=>
  cases r2 with
  | cons d f=>cases f;exact⟨_,_,rfl,r1,d⟩
def Lm:iQ X (.builtin "abs") (λxs H Q=>∃i,xs=[.int i]/\Q (.int<|if i<0 then -i else i) H):=by
 fin2;obtain⟨i,rfl,q⟩:=h;obtain⟨u,rfl,t,rfl⟩:=vals1 r;exact call_abs_int λu tk=>⟨.int<|if i<0 then -i else i,H,I.tok _,⟨_,rfl⟩,q⟩
def x_:iQ X (.type "int") (λxs H Q=>(∃i,xs=[.int i]/\Q (.int i) H)\/∃k,xs=[.bl k]/\Q (.int<|if k then 1 else 0) H):=by
 fin2
 rcases h with⟨i,rfl,q⟩|⟨k,rfl,q⟩
 ·obtain⟨u,rfl,t,rfl⟩:=vals1 r;exact call_int_int ⟨.int i,H,I,⟨_,rfl⟩,q⟩
 ·obtain⟨u,rfl,r1⟩:=vals1 r
  cases r1
  exact call_int_bool ⟨.int<|if k then 1 else 0,H,I.tok _,⟨_,rfl⟩,q⟩
def yR:iQ X (.type "str") (λxs H Q=>∃i,xs=[.int i]/\i.natAbs.log2<1920/\Q (.str<|toString i) H):=by
 fin2;obtain⟨i,rfl,d,q⟩:=h;obtain⟨u,rfl,t,rfl⟩:=vals1 r;exact PySem.P.str_of_int d ⟨.str _,H,I.tok _,⟨_,rfl⟩,q⟩
abbrev Uo (K:az)(x:V)(H:Hp)(n:Nat):Prop:=
 match x with
 | .str y=>y.length<=sizeLine/\n=y.length
 | .byt y=>y.size<=sizeLine/\n=y.size
 | .ref p=>(∃xs,mE K H p xs/\n=xs.length)\/∃xs,kZ K H p xs/\n=xs.length
 | _=>False
def J9:iQ X (.builtin "len") (λxs H Q=>∃x n,xs=[x]/\Uo X.K x H n/\Q (.int n) H):=by
 fin2;obtain⟨x,n,rfl,e,q⟩:=h;kcj_m;have B:=ue;have hs:sizeLine=16777216:=bD
 cases x with
 | str y=>
  kj_on;obtain⟨hy,f⟩:y.length<=sizeLine/\n=y.length:=e;subst f;exact len_str () ⟨.int _,H,I.tok _,⟨_,rfl⟩,q⟩
 | byt y=>
  kj_on;obtain⟨hy,f⟩:y.size<=sizeLine/\n=y.size:=e;subst f;exact PySem.W.len_bytes () ⟨.int _,H,I.tok _,⟨_,rfl⟩,q⟩
 | ref p=>
  cases rx
  have f:(∃xs,mE X.K H p xs/\n=xs.length)\/∃xs,kZ X.K H p xs/\n=xs.length:=e
  rcases f with⟨xs,k,f⟩|⟨xs,k,f⟩
  ·subst f;obtain⟨j,g,pl,m⟩:=I.list k;have d:=g.length;exact Calls.call_len_list pl.isList (by dsimp[aP];lia) ⟨.int xs.length,H,I.tok _,⟨_,by dsimp[aP];rw[d]⟩,q⟩
  ·subst f;obtain⟨j,g,pl,m⟩:=I.tuple k;have d:=g.length;exact len_tuple pl (by dsimp[aP];lia) ⟨.int xs.length,H,I.tok _,⟨_,by dsimp[aP];rw[d]⟩,q⟩
 | _=>exact(show False from e).elim
end
structure ObjM (h:au)(x dx C:aj)(mA:Str->bd):Prop where
 obj:h.get? x=some (PySem.W.instObj C dx)
 ns:h.Ns1 dx mA
 ne:dx≠x
def Gr{h:au}{mA:Str->bd}(n:h.Ns1 dx mA):∃od,h.get? dx=some od/\∀name,PySem.W.lookIn name od=some (mA name):=by
 obtain⟨o,es,ep,k,hd,f,_,g⟩:=n;refine⟨o,k,λname=>?_⟩;have e:=g name;unfold nsFind findBy at e;rw[<- Array.find?_toList]at e;unfold PySem.W.lookIn;rw[hd];dsimp only;split
 ·rename_i y q;rw[q]at e;exact cW some e
 ·rename_i q;rw[q]at e;have a:es.toList.any (·.refKey)=false:=by
   rw[List.any_eq_false];intro y hy;obtain⟨z,t,d⟩:=f y<|Array.mem_toList_iff.mp hy;simp[DictEntry.refKey,d]
  have j:¬es.toList.any (·.refKey)=true:=by rw[a];exact bh
  rw[aQ j];exact cW some e
def ObjM.look{x C:aj}{mA:Str->bd}(I:ObjM h x dx C mA):∃od,PySem.W.InstAt h x (PySem.W.instObj C dx) C (some od)/\∀name,PySem.W.lookIn name od=some (mA name):=
 let⟨od,ho,hl⟩:=Gr I.ns
 ⟨od,⟨I.obj,rfl,rfl,ho⟩,hl⟩
section
variable {prog:ah}{w:af}{A:aA}{E:aa->aE->Prop}{s:aE}{K:az}{x dx C f:aj}{mA:Str->bd}{name:Str}{v:aa}
def get_map{Q:aa->aE->Prop}(X:K.In s.heap)(I:ObjM s.heap x dx C mA)(hg:PySem.W.plainGet K C name=true)(hh:PySem.W.hasDictIn K C=true)
  (L:PySem.W.findIn K (.ref C) name=some none) (hv:mA name=some v) (j:PySem.W.handedIn v=true) (h:Q v { s with toks:=s.toks+1 }) :
  wpAny (model prog w) A (getAttr (.ref x) name expr) Q E s:=by
 obtain⟨od,J,d⟩:=I.look;exact PySem.W.get_value X J (fW hg).1 (PySem.W.findObj_own hh L rfl<|by rw[d,hv]) j h
def Kl{pl:Sem Bool}{Q:aa×ba->aE->Prop}(X:K.In s.heap)(I:ObjM s.heap x dx C mA)(hg:PySem.W.plainGet K C name=true)
  (hf:PySem.W.findIn K (.ref C) name=some (some<|.ref f)) (j:PySem.W.isFn K (.ref f)=true) (hv:mA name=none) (h:Q (.ref f,[.ref x]) s) :
  wpAny (model prog w) A (getMethod (.ref x) name pl) Q E s:=by
 obtain⟨od,J,d⟩:=I.look;exact PySem.W.method_fn X J (fW hg).1 (fW hg).2 hf (d8.mp j) (by show(PySem.W.lookIn name od).map (·.isSome)=some false;rw[d,hv];rfl) h
def Ms{ns:ar}{Q:Unit->aE->Prop}(X:K.In s.heap)(I:ObjM s.heap x dx C mA)
  (hs:PySem.W.findIn K (.ref C) "__setattr__" = some (some<|.builtin "object.__setattr__")) (hp:PySem.W.plainOver K C=true) (U:PySem.W.takerIn K C name=some none) (hh:PySem.W.hasDictIn K C=true)
  (hw:PySem.Within mA ns) (hsz:ns.length<=sizeLine)
  (h:∀h',ObjM h' x dx C (λy=>if y=name then some v else mA y)->Heap.SameBut dx s.heap h'->Q Unit.unit { s with heap:=h',toks:=s.toks+2 }) :
  wpAny (model prog w) A (setAttr (.ref x) name v) Q E s:=by
 obtain⟨od,J,G⟩:=I.look;refine PySem.W.set_plain X J hs<|PySem.W.osa_open (s:={ s with toks:=s.toks+1 }) (r:=none) X J hp U λb=>?_;obtain⟨cd,hc,g⟩:=PySem.W.any_some hh;have B:s.heap.get? x=some ⟨.ref C,some dx,.plain,#[]⟩:=I.obj;refine aH<|aL<|aH<|aH<|wpAny_loadPart B<|aH<|PySem.W.Looks.here (s:={ s with toks:=s.toks+1 }) (PySem.W.looks_clsIn X hc) ?_;rw[g];refine aL (a:=some dx)<|aH<|aL<|aH ?_;refine wpAny_nsSet1 (s:={ s with toks:=s.toks+1 }) I.ns λh' f d=>?_;obtain⟨L,F,p,k,m,j⟩:=f.count<|PySem.Within.cons name v hw;refine aH (wpAny_lookBehind k (by rw[m];exact pastItsLine_dict<|bN j<|by rw[bq];lia) ?_);exact aL<|h _ ⟨(d.2 _<|bP I.ne).trans I.obj,f,I.ne⟩ d
def Je{R:Result->aE->Prop}(X:K.In s.heap)(J:PySem.W.makesIn K C=true)
  (hi:PySem.W.findIn K (.ref C) "__init__" = some (some<|.ref f)) (hf:PySem.W.typeIn K (.ref f)=some (.type "function"))
  (h:codeAny (model prog w) (A.under<|.builtin "type.__call__" ⟨.ref C::vs,kw⟩) (.call (.ref f) ⟨.ref (s.heap.objs.size+1)::vs,kw⟩) (PySem.W.InitBack (s.heap.objs.size+1) R)
   { s with heap:=(s.heap.push PySem.W.emptyDict).push<|PySem.W.instObj C s.heap.objs.size}) :
  codeAny (model prog w) A (.call (.ref C) ⟨vs,kw⟩) R s:=by
 obtain⟨k,g,d,t,os⟩:=s;exact PySem.W.make_core (PySem.W.makes_of X J) (PySem.W.looks_findIn X hi) (λj=>PySem.W.bind_fn X j hf) (.inl rfl) h
end
abbrev pM (f:Str)(v:V):List (Str×V)->List (Str×V)
 | []=>[(f,v)]
 | (g,x)::r=>if g=f then(g,v)::r else(g,x)::pM f v r
theorem uZ(f g:Str)(v:V):∀fs:List<|Str×V,(pM f v fs).lookup g=if g=f then some v else fs.lookup g
 | []=>by
  show List.lookup g [(f,v)]=_;by_cases h:g=f
  ·have d:(g == f)=true:=d8.mpr h;dsimp[List.lookup,d,aT h]
  ·have d:(g == f)=false:=b7.mpr h;dsimp[List.lookup,d,aQ h]
 | (k,x)::r=>by
  have m:=uZ f g v r;rw[show pM f v ((k,x)::r)=(if k=f then(k,v)::r else(k,x)::pM f v r)from rfl];by_cases j:k=f
  ·rw[aT j];by_cases h:g=k
   ·have d:(g == k)=true:=d8.mpr h;dsimp[List.lookup,d,aT<|h.trans j]
   ·have d:(g == k)=false:=b7.mpr h;dsimp[List.lookup,d,aQ (λe:g=f=>h<|e.trans j.symm)]
  ·rw[aQ j];by_cases h:g=k
   ·have d:(g == k)=true:=d8.mpr h;dsimp[List.lookup,d,aQ (λe:g=f=>j<|h.symm.trans e)]
   ·have d:(g == k)=false:=b7.mpr h;dsimp[List.lookup,d];exact m
theorem uM(f:Str)(v:V):∀fs:List<|Str×V,f∈(pM f v fs).map (·.1)/\∀g,g∈fs.map (·.1)->g∈(pM f v fs).map (·.1)
 | []=>⟨by simp[pM],λg h=>by simp at h⟩
 | (k,x)::r=>by
  obtain⟨m,j⟩:=uM f v r;rw[show pM f v ((k,x)::r)=(if k=f then(k,v)::r else(k,x)::pM f v r)from rfl];by_cases d:k=f
  ·rw[aT d];subst d;exact⟨by simp,λg h=>by simpa using h⟩
  ·rw[aQ d];refine⟨?_,λg h=>?_⟩
   ·rw[aY];exact bf _ m
   ·rw[aY]at h ⊢
    rcases bG.mp h with e|e
    ·exact bG.mpr (.inl e)
    ·exact bf _<|j g e
theorem u7(f:Str)(v:V):∀fs:List<|Str×V,(pM f v fs).length<=fs.length+1
 | []=>by simp[pM]
 | (k,x)::r=>by
  have g:=u7 f v r;rw[show pM f v ((k,x)::r)=(if k=f then(k,v)::r else(k,x)::pM f v r)from rfl];by_cases d:k=f
  ·rw[aT d,bq,bq];lia
  ·rw[aQ d,bq,bq];lia
def pT.some_of{v:V}(r:pT (some v) o):∃u,o=some u/\RelV v u:=by
 cases o with
 | none=>exact(show False from r).elim
 | some u=>exact⟨u,rfl,r⟩
def pT.none_of(r:pT none o):o=none:=by
 cases o with
 | none=>rfl
 | some u=>exact(show False from r).elim
def Gs{v:V}(r:RelV v u):PySem.W.handedIn u=true:=by
 cases v with
 | non=>cases(show u=Value.none from r);rfl
 | bl b=>cases(show u=Value.bool b from r);rfl
 | int i=>obtain⟨t,e⟩:=(show ∃t,u=Value.int i t from r);cases e;rfl
 | str x=>obtain⟨t,e⟩:=(show ∃t,u=Value.str x t from r);cases e;rfl
 | byt b=>obtain⟨t,e⟩:=(show ∃t,u=Value.bytes b t from r);cases e;rfl
 | flt b=>obtain⟨t,e⟩:=(show ∃t,u=Value.float b t from r);cases e;rfl
 | ref a=>cases(show u=Value.ref a from r);rfl
 | ty n=>cases(show u=Value.type n from r);rfl
section
variable {P:ah}{w:af}{H:Hp}{h:au}{a C dx:aj}{fs:List (Str×V)}
def vQ(j:qR P w H h)(e:H a=some (.ins C dx fs)):∃mA,ObjM h a dx C mA/\(∀f,pT (fs.lookup f)<|mA f)/\PySem.Within mA (fs.map (·.1))/\fs.length<=1000/\H dx=some (.own a):=by
 obtain⟨d,z,ne,ob,mA,n,r,q⟩:=(show jm P w H h a (.ins C dx fs)from j a _ e);exact⟨mA,⟨ob,n,ne⟩,r,q,z,d⟩
end
structure Cls (K:az)(C:aj):Prop where
 pg:PySem.W.plainGet K C Str.empty=true
 hd:PySem.W.hasDictIn K C=true
 po:PySem.W.plainOver K C=true
 sa:PySem.W.findIn K (.ref C) "__setattr__" = some (some<|.builtin "object.__setattr__")
def Cls.get{K:az}{C:aj}(c:Cls K C)(f:Str):PySem.W.plainGet K C f=true:=c.pg
abbrev jK (K:az)(C:aj)(f:Str):Prop:=PySem.W.findIn K (.ref C) f=some none
def jK.SM{K:az}{C:aj}{f:Str}(n:jK K C f):PySem.W.takerIn K C f=some none:=by
 unfold PySem.W.takerIn;rw[show PySem.W.findIn K (.ref C) f=some none from n];rfl
structure Meth (K:az)(C:aj)(m:Str)(f:aj):Prop where
 at_:PySem.W.findIn K (.ref C) m=some (some<|.ref f)
 fn:PySem.W.isFn K (.ref f)=true
 kp:PySem.W.keepIn K (.ref f)=true
section
variable {X:Cx}{pins:bo}{σ:St}{H:Hp}{s:aE}{a C dx:aj}{fs:List (Str×V)}{f:Str}{v:V}{A:aA}{E:aa->aE->Prop}
def B_{Q:aa->aE->Prop}(I:Inv X pins σ H s)(e:H a=some (.ins C dx fs))(c:Cls X.K C)(n:jK X.K C f)(l:fs.lookup f=some v)
  (h:∀u s',Inv X pins σ H s'->RelV v u->Q u s'):wpAny (model X.prog X.w) A (getAttr (.ref a) f b) Q E s:=by
 obtain⟨mA,O,r,_,_,_⟩:=vQ I.hok e;obtain⟨u,g,d⟩:=pT.some_of (v:=v) (o:=mA f) (by rw[<- l];exact r f);exact get_map I.rQ O (c.get f) c.hd n g (Gs d)<|h u _ (I.tok _) d
def wG{g:aj}{pl:Sem Bool}{Q:aa×ba->aE->Prop}(I:Inv X pins σ H s)(e:H a=some (.ins C dx fs))(c:Cls X.K C)(k:Meth X.K C m g)(l:fs.lookup m=none)
  (h:Q (.ref g,[.ref a]) s):wpAny (model X.prog X.w) A (getMethod (.ref a) m pl) Q E s:=by
 obtain⟨mA,O,r,_,_,_⟩:=vQ I.hok e;have hn:mA m=none:=pT.none_of (by rw[<- l];exact r m);exact Kl I.rQ O (c.get m) k.at_ k.fn hn h
def CQ{Q:Unit->aE->Prop}(I:Inv X pins σ H s)(e:H a=some (.ins C dx fs))(c:Cls X.K C)(n:jK X.K C f)(J:fs.length<1000)(ry:RelV y u)
  (h:∀s',Inv X pins σ (upd H a<|.ins C dx<|pM f y fs) s'->Q Unit.unit s'):wpAny (model X.prog X.w) A (setAttr (.ref a) f u) Q E s:=by
 obtain⟨mA,O,r,j,_,k⟩:=vQ I.hok e;have p:(fs.map (·.1)).length<=sizeLine:=by rw[aK,bD];lia
 refine Ms I.rQ O c.sa c.po n.SM c.hd j p λh' d m=>h _ ?_;have hd:∃o,h'.get? dx=some o:=let⟨o,_,_,e',_⟩:=d.ns;⟨o,e'⟩
 refine I.write (x:=a) (e:=dx) (by rw[e];exact True.intro) (.inr k) (λb q B z=>(m.2 b B).trans z) hd ?_;refine⟨by rw[gV O.ne];exact k,?_,O.ne,d.obj,_,d.ns,λg=>?_,λg hg=>?_⟩
 ·have:=u7 f y fs;lia
 ·skip
  rw[uZ];by_cases q:g=f
  ·rw[aT q,aT q];exact ry
  ·rw[aQ q,aQ q];exact r g
 ·by_cases q:g=f
  ·rw[q];exact(uM f y fs).1
  ·refine(uM f y fs).2 g (j g λz=>hg ?_);show(if g=f then some u else mA g)=none;rw[aQ q];exact z
def Inv.made(I:Inv X pins σ H s):Inv X pins σ (upd (upd H s.heap.objs.size<|.own<|s.heap.objs.size+1) (s.heap.objs.size+1)<|.ins C s.heap.objs.size [])
  { s with heap:=(s.heap.push PySem.W.emptyDict).push<|PySem.W.instObj C s.heap.objs.size}:=by
 have e1:(s.heap.push PySem.W.emptyDict).get? s.heap.objs.size=some PySem.W.emptyDict:=aU s.heap rfl;have e2:((s.heap.push PySem.W.emptyDict).push<|PySem.W.instObj C s.heap.objs.size).get? (s.heap.objs.size+1)=some (PySem.W.instObj C s.heap.objs.size):=by
  have:=aU (s.heap.push PySem.W.emptyDict) (o:=PySem.W.instObj C s.heap.objs.size) rfl
  rwa [cH]at this
 have e3:(s.heap.push PySem.W.emptyDict).Ns s.heap.objs.size (λ_=>none):=⟨PySem.W.emptyDict,#[],_,e1,rfl,(λe d=>absurd d<|by simp),λ_=>rfl⟩;have f:=I.laid (a:=s.heap.objs.size) (o:=.own<|s.heap.objs.size+1) (h':=s.heap.push PySem.W.emptyDict) (t':=s.toks) (λb u q=>aI _ q) (aO _) ⟨_,e1⟩;refine f.laid (a:=s.heap.objs.size+1) (o:=.ins C s.heap.objs.size []) (t':=s.toks) (λb u q=>aI _ q) (Nat.le_of_eq<|cH _ _) ?_;have ne:s.heap.objs.size≠s.heap.objs.size+1:=br<|ck _;refine⟨by rw[gV ne,iF],eZ _,ne,e2,λ_=>none,(Heap.Ns1.of_empty e3).at λo q=>aI _ q,λ_=>True.intro,λy hy=>absurd rfl hy⟩
def MW{prog:ah}{w:af}{env:Env}{f:Str}{s:aE}{Q:aa->aE->Prop}(hb:attributeBase e f env (eval e env)=eval e env)
  (h:wpAny (model prog w) A (eval e env) (λo s₁=>wpAny (model prog w) A (getAttr o f true) Q E s₁) E s):wpAny (model prog w) A (eval (.Attribute e f pos) env) Q E s:=
 Attribute_any_ h (by rw[arm_eval_Attribute,hb])
end
abbrev Uq (K:az)(ta:TE)(f:Str):TE:=λσ H Q=>ta σ H λx H1=>∃a C dx fs v,x=.ref a/\H1 a=some (.ins C dx fs)/\Cls K C/\jK K C f/\fs.lookup f=some v/\Q v H1
abbrev xE (K:az)(ta tv:TE)(f:Str):TS:=λD σ H=>tv σ H λy H1=>ta σ H1 λx H2=>∃a C dx fs,x=.ref a/\H2 a=some (.ins C dx fs)/\Cls K C/\jK K C f/\fs.length<1000 /\
 D.nx σ (upd H2 a<|.ins C dx<|pM f y fs)
section
variable {X:Cx}{o e value:aF}{f:Str}{pos pos':Pos}{ta tv:TE}
def OX(J:PE X e ta)(hb:attributeBase e f X.env (eval e X.env)=eval e X.env):PE X (.Attribute e f pos) (Uq X.K ta f):=by
 z_go;refine MW hb<|jz (J pins s σ H _ I h) λu m ⟨x,H1,d,rx,a,C,dx,fs,v,ex,g,c,n,l,q⟩=>?_;subst ex;obtain rfl:u=Value.ref a:=rx;exact B_ d g c n l λp s2 j k=>⟨v,H1,j,k,q⟩
def Qj(J:PE X o ta)(hv:PE X value tv)(hs:swapsWith value (some<|.Attribute o f pos') pos.line X.env=pure false):PS X (.Assign [.Attribute o f pos'] value pos) (xE X.K ta tv f):=by
 kcf_m;refine plainObj_wpAny_Assign_Attribute (jz (hv pins s σ H _ I h) λu k ⟨y,H1,g,ry,q⟩=>jz (J pins k σ H1 _ g q) λm s2 ⟨x,H2,p,rx,a,C,dx,fs,ex,j,c,n,l,B⟩=>?_) hs;subst ex;obtain rfl:m=Value.ref a:=rx;exact CQ p j c n l ry λs3 d=>⟨σ,_,d,B⟩
end
section
variable {X:Cx}{pins:bo}{σ:St}{H:Hp}{s:aE}{A:aA}{E:aa->aE->Prop}{Q:aa->aE->Prop}{c:aa}{b:Bool}
inductive TyOf (K:az) (H:Hp):V->aa->Prop where
 | non:TyOf K H .non (.type "NoneType")
 | bl (x:Bool):TyOf K H (.bl x) (.type "bool")
 | int (i:Int):TyOf K H (.int i) (.type "int")
 | str (x:Str):TyOf K H (.str x) (.type "str")
 | flt (x:UInt64):TyOf K H (.flt x) (.type "float")
 | lst {a:aj} {xs:List V} (e:H a=some (.lst xs)):TyOf K H (.ref a) (.type "list")
 | frz {a:aj} {o:Obj} {xs:List V} (e:H a=some (.frz o<|.lst xs)):TyOf K H (.ref a) (.type "list")
 | tup {a:aj} {xs:List V} (e:H a=some (.tup xs)):TyOf K H (.ref a) (.type "tuple")
 | dK {a:aj} {kvs:List<|Key×V} (e:H a=some (.dK kvs)):TyOf K H (.ref a) (.type "dict")
 | dT {a:aj} {kvs:List<|List Key×V} (e:H a=some (.dT kvs)):TyOf K H (.ref a) (.type "dict")
 | ins {a C dx:aj} {fs:List<|Str×V} (e:H a=some (.ins C dx fs)) (cl:Cls K C) (ha:PySem.W.findIn K (.ref C) "__class__" = some (some<|.builtin "object.__class__"))
   (hn:PySem.W.specialIn K (.builtin "object.__class__") "__get__" = some (some<|.builtin "getset_descriptor.__get__")) (htk:PySem.W.takesIn K (.builtin "object.__class__")=some true)
   (hm:PySem.W.mroIn K C (.type "object")=some true):TyOf K H (.ref a)<|.ref C
def FG{x:V}(I:Inv X pins σ H s)(rx:RelV x u)(ty:TyOf X.K H x t)(e:PySem.W.kitOne X.K t c=some b)(h:∀tk,Q (.bool b) { s with toks:=tk }) :
  wpAny (model X.prog X.w) A (call (.builtin "isinstance") [u,c]) Q E s:=by
 cases ty with
 | non=>cases(show u=Value.none from rx);exact b9 PySem.W.kitx_none I.rQ True.intro e (λz=>nomatch z) h
 | bl y=>cases(show u=Value.bool y from rx);exact b9 PySem.W.kitx_bool I.rQ True.intro e (λz=>nomatch z) h
 | int i=>obtain⟨t,q⟩:=(show ∃t,u=Value.int i t from rx);cases q;exact b9 PySem.W.kitx_int I.rQ True.intro e (λz=>nomatch z) h
 | str y=>obtain⟨t,q⟩:=(show ∃t,u=Value.str y t from rx);cases q;exact b9 PySem.W.kitx_str I.rQ True.intro e (λz=>nomatch z) h
 | flt y=>obtain⟨t,q⟩:=(show ∃t,u=Value.float y t from rx);cases q;exact b9 PySem.W.kitx_float I.rQ True.intro e (λz=>nomatch z) h
 | @lst a xs d=>
  cases(show u=Value.ref a from rx)
  obtain⟨_,_,n,_,h1⟩:=(show jm X.prog X.w H s.heap a (.lst xs)from I.hok a _ d);exact b9 PySem.W.kitx_list I.rQ ⟨_,h1,rfl⟩ e (λz=>nomatch z) h
 | @frz a ob xs d=>
  cases(show u=Value.ref a from rx)
  obtain⟨_,_,_,n,_,h1⟩:=(show jm X.prog X.w H s.heap a (.frz ob<|.lst xs)from I.hok a _ d);exact b9 PySem.W.kitx_list I.rQ ⟨_,h1,rfl⟩ e (λz=>nomatch z) h
 | @tup a xs d=>
  cases(show u=Value.ref a from rx)
  obtain⟨_,_,_,p⟩:=(show jm X.prog X.w H s.heap a (.tup xs)from I.hok a _ d);obtain⟨o,h1,f,_⟩:=p;exact b9 PySem.W.kitx_tuple I.rQ ⟨o,h1,f⟩ e (λz=>nomatch z) h
 | @dK a kvs d=>
  cases(show u=Value.ref a from rx)
  obtain⟨_,_,vs,_,p⟩:=(show jm X.prog X.w H s.heap a (.dK kvs)from I.hok a _ d);obtain⟨o,es,ep,h1,f,_⟩:=p;exact b9 PySem.W.kitx_dict I.rQ ⟨o,h1,f.1⟩ e (λz=>nomatch z) h
 | @dT a kvs d=>
  cases(show u=Value.ref a from rx)
  obtain⟨_,_,xs,_,o,es,ep,h1,f,_⟩:=(show jm X.prog X.w H s.heap a (.dT kvs)from I.hok a _ d);exact b9 PySem.W.kitx_dict I.rQ ⟨o,h1,f.1⟩ e (λz=>nomatch z) h
 | @ins a C dx fs d j k hn g m=>
  cases(show u=Value.ref a from rx)
  obtain⟨mA,O,_⟩:=vQ I.hok d;obtain⟨od,J,_⟩:=O.look;exact b9 (PySem.W.kitx_own (j.get _) j.hd k hn g m) I.rQ J e (λz=>nomatch z) h
end
structure Room (k:Nat)(A:aA):Prop where
 hd:A.handled=none
 dp:A.depth+3 * k+5<recursionLimit
 un:A.units+16 * k+200<cLine
 gs:A.guards=some []
def Room.mono{k:Nat}{A:aA}(r:Room k A)(h:j<=k):Room j A:=⟨r.hd,by have:=r.dp;lia,by have:=r.un;lia,r.gs⟩
def Room.deeper{k:Nat}{A:aA}(r:Room (k+1) A)(env:Env):Room k (A.deeper env):=
 ⟨r.hd,by have:=r.dp;show A.depth+1+3 * k+5<_;lia,by have:=r.un;show A.units+3+16 * k+200<_;lia,r.gs⟩
def CK{A:aA}{C:aj}:(A.under<|.builtin "type.__call__" ⟨.ref C::us,kw⟩).depth=A.depth+1:=by
 first|rfl|simp[Around.under,Code.weight,Code.isCreation,Code.isGuard,Code.isCaller,Code.frames,Code.isFrame,guardIds]
def BP{A:aA}{C:aj}:(A.under<|.builtin "type.__call__" ⟨.ref C::us,kw⟩).units=A.units+1:=by
 first|rfl|simp[Around.under,Code.cUnits,Code.frames,Code.isFrame]
def Ba{A:aA}{C:aj}:(A.under<|.builtin "type.__call__" ⟨.ref C::us,kw⟩).guards=A.guards:=by
 first|rfl|simp[Around.under,Code.guards,Code.isGuard,guardIds,pushGuards]
def Room.make{k:Nat}{A:aA}(r:Room (k+1) A)(C:aj)(us:ba)(kw:List<|Str×aa):Room k (A.under<|.builtin "type.__call__" ⟨.ref C::us,kw⟩):=
 ⟨r.hd,by have:=r.dp;rw[CK];lia,by have:=r.un;rw[BP];lia,by rw[Ba];exact r.gs⟩
def Room.depth{k:Nat}{A:aA}(r:Room k A):A.depth<recursionLimit:=by have:=r.dp;lia
def Room.units{k:Nat}{A:aA}(r:Room k A):A.units+64<cLine:=by have:=r.un;lia
abbrev OF:TA:=λ_ H Q=>Q [] H
abbrev SX (ta:TE)(j:TA):TA:=λσ H Q=>ta σ H λx H1=>j σ H1 λxs H2=>Q (x::xs) H2
section
variable {X:Cx}{e:aF}{es:List aF}{te:TE}{t:TA}{pos:Pos}
def qw:PA X [] OF:=λ_ _ _ _ H Q I h=>Calls.spliced_nil ⟨[],H,I,.nil,h⟩
def lI(J:PE X e te)(L:PA X es t)(hs:starEach (e::es) X.env=(false,eval e X.env)::starEach es X.env<|>ε):PA X (e::es) (SX te t):=by
 intro pos pins s σ H Q I h;rw[hs]
 skip
 refine Calls.spliced_cons<|jz (J pins s σ H _ I h) λu f ⟨x,H1,d,r1,g⟩=>?_;exact jz (L pos pins f σ H1 _ d g) λus s2 ⟨xs,H2,j,r2,k⟩=>⟨x::xs,H2,j,.cons r1 r2,k⟩
abbrev Uk (t:TA):TE:=λσ H Q=>t σ H λxs H1=>xs.length<=sizeLine/\∀p,H1 p=none->Q (.ref p) (upd H1 p<|.tup xs)
abbrev UK (t:TA):TE:=λσ H Q=>t σ H λxs H1=>xs.length<=sizeLine/\∀p,H1 p=none->Q (.ref p) (upd H1 p<|.lst xs)
def PF{x1}(h:PA X es t):PE X (.Tuple es x1 pos) (Uk t):=by
 intro pins s σ H Q I g;refine wpAny_Tuple_spliced (jz (h pos pins s σ H _ I g) λus d ⟨xs,H1,f,r,z,q⟩=>⟨by rw[<- r.length];exact z,?_⟩);have hf:H1 d.heap.objs.size=none:=f.hok.fresh<|aO _;refine⟨.ref d.heap.objs.size,upd H1 d.heap.objs.size<|.tup xs,f.laid (t':=d.toks) (λb u e=>aI _ e) (aO _) ?_,rfl,q _ hf⟩;exact⟨z,us,r,⟨_,aU _ rfl,rfl,rfl,_,rfl⟩⟩
def QH(h:PA X es t):PE X (.List es pos) (UK t):=by
 intro pins s σ H Q I g;refine wpAny_List_spliced (jz (h pos pins s σ H _ I g) λus d ⟨xs,H1,f,r,z,q⟩=>⟨by rw[<- r.length];exact z,?_⟩);have hf:H1 d.heap.objs.size=none:=f.hok.fresh<|aO _;refine⟨.ref d.heap.objs.size,upd H1 d.heap.objs.size<|.lst xs,f.laid (t':=d.toks) (λb u e=>aI _ e) (aO _) ?_,rfl,q _ hf⟩;exact⟨z,us,0,r,aU _ rfl⟩
end
meta abbrev Sp:=List V->Hp->VK->XK->Prop
meta abbrev Kz:=List Env->Hp->aE->XK->aa->aE->Prop
structure Env0 (P:ah)(w:af)(K:az)(mg:Str->bd)(base:au)(A:aA)(outer:List Env)(s:aE)(H:Hp):Prop where
 frames:A.frames=some outer
 mod:Mod K mg base
 bs:∀b o,base.get? b=some o->s.heap.get? b=some o/\H b=none
 bsz:base.objs.size<=s.heap.objs.size
 pU:s.heap.FunFrames base outer
 frf:∀b∈frs outer,H b=none
 hok:qR P w H s.heap
 bare:AllBare s.gens
abbrev CE (outer:List Env)(P:ah)(w:af)(H:Hp)(s:aE)(Q:VK)(u:aa)(s':aE):Prop:=
 ∃v H',s'.os=s.os/\AllBare s'.gens/\Un (frs outer) [] H H' s.heap s'.heap/\qR P w H' s'.heap/\RelV v u/\Q v H'
abbrev CR (CX:Kz)(outer:List Env)(P:ah)(w:af)(H:Hp)(s:aE)(Q:VK)(E:XK)(r:Result)(s':aE):Prop:=
 match r with
 | .ok (.ret u)=>CE outer P w H s Q u s'
 | .ok _=>False
 | .error e=>CX outer H s E e s'
structure FnOk (P:ah)(w:af)(K:az)(mg:Str->bd)(base:au)(CX:Kz)(k:Nat)(f:aj)(fd:FuncData)(ps:ar)(sp:Sp):Prop where
 len:∀vs H Q E,sp vs H Q E->vs.length=ps.length
 run:∀(A:aA) (outer:List Env) (s:aE) (H:Hp) (args:Args) (us:ba) (vs:List V) (Q:VK) (E:XK),Room k A->Env0 P w K mg base A outer s H->BindsTo s fd args (ps.zip us)->Vals vs us->sp vs H Q E ->
  codeAny (model P w) A (.call (.ref f) args) (CR CX outer P w H s Q E) s
def Env0.make{P:ah}{w:af}{K:az}{mg:Str->bd}{base:au}{A:aA}{outer:List Env}{H:Hp}(e:Env0 P w K mg base A outer s H)(C:aj)(us:ba)(kw:List<|Str×aa) :
  Env0 P w K mg base (A.under<|.builtin "type.__call__" ⟨.ref C::us,kw⟩) outer s H:=⟨by first|exact e.frames|(simpa[Around.under,Code.envs,Code.isFrame,pushEnvs]using e.frames),e.mod,e.bs,e.bsz,e.pU,e.frf,e.hok,e.bare⟩
section
variable {X:Cx}{pins:bo}{σ:St}{H:Hp}{s s':aE}
def Inv.SK(I:Inv X pins σ H s):Env0 X.prog X.w X.K X.mg X.base X.A X.stack s H:=
 ⟨I.ok.frames,I.ok.mod,I.bs,bN I.ok.bsz I.sz,I.stack,I.q_,I.hok,I.bare⟩
def Inv.after{Q:VK}(I:Inv X pins σ H s)(h:CE X.stack X.prog X.w H s Q u s'):EP X pins σ Q u s':=by
 obtain⟨v,H',os,f,un,k,r,q⟩:=h;obtain⟨m,g,d,t,j⟩:=s';obtain rfl:j=s.os:=os;exact⟨v,H',I.call (h':=m) (g':=g) (d':=d) (t':=t) (ch:=[]) un k f λb z=>absurd z<|by simp,r,q⟩
end
abbrev Ot (sp:Sp)(dvs:List V)(E:XK)(t:TA):TE:=λσ H Q=>t σ H λvs H1=>sp (vs++dvs) H1 Q E
abbrev NW (C:aj)(m:Str)(sp:Sp)(dvs:List V)(E:XK)(ta:TE)(t:TA):TE:=λσ H Q=>ta σ H λx H1=>∃a dx fs,x=.ref a/\H1 a=some (.ins C dx fs)/\fs.lookup m=none /\
 t σ H1 λvs H2=>sp (x::(vs++dvs)) H2 Q E
abbrev RN (C:aj)(sp:Sp)(dvs:List V)(E:XK)(t:TA):TE:=λσ H Q=>t σ H λvs H1=>∀x dx,H1 x=none->H1 dx=none->dx≠x ->
 sp (.ref x::(vs++dvs)) (upd (upd H1 dx<|.own x) x<|.ins C dx []) (λv H2=>v=.non/\Q (.ref x) H2) E
abbrev Binds (K:az)(fd:FuncData)(ps:ar)(ds:ba):Prop:=
 ∀(s:aE) (us:ba),K.In s.heap->(us++ds).length=ps.length->BindsTo s fd ⟨us,[]⟩ (ps.zip<|us++ds)
def Binds.all{K:az}{ps:ar}(h:∀us:ba,us.length=ps.length->bindArgs fd ⟨us,[]⟩=pure (ps.zip us)):Binds K fd ps []:=λs us _ d=>by
 rw[bT]at d ⊢;exact .of_eq<|h us d
abbrev Passes (CX:Kz)(X:Cx)(E:XK):Prop:=∀(pins:bo) (σ:St) (H:Hp) (s:aE) (e:aa) (s':aE),Inv X pins σ H s->CX X.stack H s E e s'->X.xe e s'
section
variable {X:Cx}{CX:Kz}{k:Nat}{f C:aj}{fd:FuncData}{ps:ar}{sp:Sp}{dvs:List V}{ds:ba}{E:XK}{x m:Str}{p pos apos:Pos}{e o:aF}{es:List aF}{ta:TE}{t:TA}
def Cz{H:Hp}{Q:VK}(F:FnOk X.prog X.w X.K X.mg X.base CX k f fd ps sp)(J:Room k X.A)(hb:Binds X.K fd ps ds)(hd:Vals dvs ds)(L:Passes CX X E)
  (I:Inv X pins σ H s) (r:Vals vs us) (h:sp (vs++dvs) H Q E):wpAny (model X.prog X.w) X.A (call (.ref f) us) (EP X pins σ Q) X.xe s:=by
 have r2:Vals (vs++dvs) (us++ds):=r.append hd;have j:(us++ds).length=ps.length:=by rw[<- r2.length];exact F.len _ _ _ _ h
 refine gz (fj (F.run X.A X.stack s H ⟨us,[]⟩ (us++ds) (vs++dvs) Q E J I.SK (hb s us I.rQ j) r2 h) λr s' d=>?_)
 cases r with
 | error e=>exact L pins σ H s e s' I d
 | ok g=>
  cases g with
  | ret u=>exact I.after d
  | next=>exact False.elim d
  | brk=>exact False.elim d
  | cont=>exact False.elim d
def Eo(F:FnOk X.prog X.w X.K X.mg X.base CX k f fd ps sp)(L:Room k X.A)(hg:Gl X x)(U:X.mg x=some (.ref f))(Z:PySem.W.keepIn X.K (.ref f)=true)(hb:Binds X.K fd ps ds)(hd:Vals dvs ds)(hx:Passes CX X E)
  (ha:PA X (e::es) t) (j:(x == ("__debug__" : Str))=false<|>δ) (he:starEach (e::es) X.env=(false,eval e X.env)::starEach es X.env<|>ε) (J:((backTo pos<|starEach es X.env).any (·.1)=false)<|>ε) :
  PE X (.Call (.Name x p) (e::es) [] pos) (Ot sp dvs E t):=by
 z_go;refine eV<|sM I hg U ?_ j;refine PySem.W.callWith_K (h₀:=X.base) I.ok.mod.kin Z (jz (ha pos pins s σ H _ I h) λus g ⟨vs,H1,d,r,q⟩=>⟨d.rQ,?_⟩) he J;exact Cz F L hb hd hx d r q
def M9{pl:Sem Bool}(Z:PE X o ta)(c:Cls X.K C)(U:Meth X.K C m f)(F:FnOk X.prog X.w X.K X.mg X.base CX k f fd ps sp)(hr:Room k X.A)(hb:Binds X.K fd ps ds)(hd:Vals dvs ds)(hx:Passes CX X E)(ha:PA X (e::es) t)
  (J:starEach (e::es) X.env=(false,eval e X.env)::starEach es X.env<|>ε) (L:((backTo pos<|starEach es X.env).any (·.1)=false)<|>ε)
  (ht:(eval (.Call (.Attribute o m apos) (e::es) [] pos) X.env=(do
   let ov <- eval o X.env
   standAt apos.atName
   let(f,first) <- holding [ov] (getMethod ov m pl)
   callWith pos f first (backTo pos<|starEach (e::es) X.env) (backToKw pos<|keywordEach [] X.env)))<|>ε) :
  PE X (.Call (.Attribute o m apos) (e::es) [] pos) (NW C m sp dvs E ta t):=by
 z_go;refine PySem.W.methodCall_KW (pl:=pl) (jz (Z pins s σ H _ I h) λu p ⟨x,H1,d,rx,a,dx,fs,ex,j,l,q⟩=>?_) ht;subst ex;obtain rfl:u=Value.ref a:=rx;refine wG d j c U l ?_;refine PySem.W.callWith_K (first:=[.ref a]) (h₀:=X.base) I.ok.mod.kin U.kp (jz (ha pos pins p σ H1 _ d q) λus s2 ⟨vs,H2,g,r,B⟩=>⟨g.rQ,?_⟩) J L;exact Cz (us:=.ref a::us) (vs:=.ref a::vs) F hr hb hd hx g (.cons rfl r) B
def Jx{pl:Sem Bool}(L:PE X o ta)(c:Cls X.K C)(J:Meth X.K C m f)(F:FnOk X.prog X.w X.K X.mg X.base CX k f fd ps sp)(U:Room k X.A)(hb:Binds X.K fd ps ds)(hd:Vals dvs ds)(Z:Passes CX X E)
  (ht:(eval (.Call (.Attribute o m apos) [] [] pos) X.env=(do
   let ov <- eval o X.env
   standAt apos.atName
   let(f,first) <- holding [ov] (getMethod ov m pl)
   callWith pos f first (backTo pos<|starEach [] X.env) (backToKw pos<|keywordEach [] X.env)))<|>ε) :
  PE X (.Call (.Attribute o m apos) [] [] pos) (NW C m sp dvs E ta OF):=by
 z_go;refine PySem.W.methodCall_KW (pl:=pl) (jz (L pins s σ H _ I h) λu j ⟨x,H1,d,rx,a,dx,fs,ex,g,l,q⟩=>?_) ht;subst ex;obtain rfl:u=Value.ref a:=rx;refine wG d g c J l ?_;exact PySem.W.callWith_K0 (first:=[.ref a]) d.rQ J.kp<|Cz (us:=[.ref a]) (vs:=[.ref a]) F U hb hd Z d (.cons rfl .nil) q
structure Mk (K:az)(C f:aj):Prop where
 makes:PySem.W.makesIn K C=true
 init:PySem.W.findIn K (.ref C) "__init__" = some (some<|.ref f)
 fn:PySem.W.isFn K (.ref f)=true
 kp:PySem.W.keepIn K (.ref C)=true
def Kh{H:Hp}{Q:VK}(M:Mk X.K C f)(F:FnOk X.prog X.w X.K X.mg X.base CX k f fd ps sp)(L:Room (k+1) X.A)(hb:Binds X.K fd ps ds)(hd:Vals dvs ds)
  (U:Passes CX X E) (I:Inv X pins σ H s) (r:Vals vs us)
  (h:∀x dx,H x=none->H dx=none->dx≠x->sp (.ref x::(vs++dvs)) (upd (upd H dx<|.own x) x<|.ins C dx []) (λv H2=>v=.non/\Q (.ref x) H2) E) :
  wpAny (model X.prog X.w) X.A (call (.ref C) us) (EP X pins σ Q) X.xe s:=by
 have g:=h (s.heap.objs.size+1) s.heap.objs.size (I.hok.fresh<|le_succ _) (I.hok.fresh<|aO _)<|br<|ck _;have I2:=Inv.made (C:=C) I;have r2:Vals (V.ref (s.heap.objs.size+1)::(vs++dvs)) (Value.ref (s.heap.objs.size+1)::(us++ds)):=.cons rfl<|r.append hd;have G:(Value.ref (s.heap.objs.size+1)::us++ds).length=ps.length:=by
  have e:=r2.length;rw[F.len _ _ _ _ g]at e;exact e.symm
 refine gz (Je (f:=f) I.rQ M.makes M.init (d8.mp M.fn) (fj (F.run _ X.stack _ _ ⟨Value.ref (s.heap.objs.size+1)::us,[]⟩ (Value.ref (s.heap.objs.size+1)::(us++ds)) _ _ E (L.make C us [])
  (I2.SK.make C us []) (hb _ (Value.ref (s.heap.objs.size+1)::us) I2.rQ G) r2 g) λr s' d=>?_))
 cases r with
 | error e=>exact U pins σ _ _ e s' I2 d
 | ok j=>
  cases j with
  | ret u=>
   obtain⟨v,H',m,p,B,J⟩:=I2.after d;subst B;exact⟨p,⟨V.ref<|s.heap.objs.size+1,H',m,rfl,J⟩⟩
  | next=>exact False.elim d
  | brk=>exact False.elim d
  | cont=>exact False.elim d
def Iz(M:Mk X.K C f)(F:FnOk X.prog X.w X.K X.mg X.base CX k f fd ps sp)(J:Room (k+1) X.A)(hg:Gl X x)(L:X.mg x=some (.ref C))(hb:Binds X.K fd ps ds)(hd:Vals dvs ds)(U:Passes CX X E)
  (j:(x == ("__debug__" : Str))=false<|>δ):PE X (.Call (.Name x p) [] [] pos) (RN C sp dvs E OF):=by
 z_go;refine eV<|sM I hg L ?_ j;exact PySem.W.callWith_K0 I.rQ M.kp<|Kh (us:=[]) M F J hb hd U I .nil h
end
section
variable {fd:FuncData}{ps ks:ar}
end
structure FnScope (N P:ar)(sc:Scope):Prop where
 kind:sc.kind=.function
 co:sc.isCoroutine=false
 gen:sc.isGenerator=false
 nd:N.Nodup
 pre:N.take P.length=P
 par:∀x∈P,sc.names.lookup x=some .local\/sc.names.lookup x=some .cell
 nofree:∀y∈sc.names,y.2≠.free
theorem yk{j:Str->Option NameKind}{x:Str}:∀{binds:List<|Str×aa}{m:Str->bd},(∀v,(x,v)∉binds)->bindL j binds m x=m x
 | [],_,_=>rfl
 | (n,v)::r,m,h=>by
  unfold bindL;rw[yk λw hw=>h w<|bf _ hw];split
  ·have:x≠n:=by rintro rfl;exact h v bw
   simp[this]
  ·rfl
theorem yo{j:Str->Option NameKind}{x:Str}:∀{binds:List<|Str×aa}{m:Str->bd},(∀v,(x,v)∉binds)->bindC j binds m x=m x
 | [],_,_=>rfl
 | (n,v)::r,m,h=>by
  unfold bindC;rw[yo λw hw=>h w<|bf _ hw];split
  ·rfl
  ·have:x≠n:=by rintro rfl;exact h v bw
   simp[this]
theorem yL{j:Str->Option NameKind}{x:Str}{v:aa}:∀{P:ar}{vs:ba}{i:Nat}{m:Str->bd},P.Nodup->P[i]?=some x->vs[i]?=some v->j x=some .local ->
  bindL j (P.zip vs) m x=some v
 | [],_,_,_,_,h,_,_=>by simp at h
 | _::_,[],_,_,_,_,h,_=>by simp at h
 | p::P,w::vs,0,m,nd,h1,h2,hk=>by
  simp at h1 h2;subst h1;subst h2;show bindL j ((p,w)::P.zip vs) m p=_;unfold bindL;rw[yk λv hv=>(dB.mp nd).1 (gE hv).1,aT hk];simp
 | p::P,w::vs,i+1,m,nd,h1,h2,hk=>by
  skip
  unfold bindL;exact yL (i:=i) (dB.mp nd).2 (by simpa using h1) (by simpa using h2) hk
theorem yu{j:Str->Option NameKind}{x:Str}{v:aa}:∀{P:ar}{vs:ba}{i:Nat}{m:Str->bd},P.Nodup->P[i]?=some x->vs[i]?=some v->j x≠some .local ->
  bindC j (P.zip vs) m x=some v
 | [],_,_,_,_,h,_,_=>by simp at h
 | _::_,[],_,_,_,_,h,_=>by simp at h
 | p::P,w::vs,0,m,nd,h1,h2,hk=>by
  simp at h1 h2;subst h1;subst h2;show bindC j ((p,w)::P.zip vs) m p=_;unfold bindC;rw[yo λv hv=>(dB.mp nd).1 (gE hv).1,aQ hk];simp
 | p::P,w::vs,i+1,m,nd,h1,h2,hk=>by
  skip
  unfold bindC;exact yu (i:=i) (dB.mp nd).2 (by simpa using h1) (by simpa using h2) hk
abbrev start (N:ar)(vs:List V):St:=vs.map some++List.replicate (N.length-vs.length) none
abbrev vt (CX:Kz)(P:ah)(w:af)(K:az)(mg:Str->bd)(base:au)(N:ar)(qual:Str)(scope:Scope)(f:aj)(cd:aa)(A:aA)(outer:List Env)(s:aE)(H:Hp)(E:XK):Cx where
 prog:=P
 w:=w
 K:=K
 mg:=mg
 base:=base
 A:=A.deeper (envOfC qual scope s.heap.objs.size f cd)
 N:=N
 s₀:=s
 H₀:=H
 env:=envOfC qual scope s.heap.objs.size f cd
 outer:=outer
 stack:=envOfC qual scope s.heap.objs.size f cd::outer
 ex:=[]
 calm:=true
 fn:=λ_=>true
 pn:=[]
 xe:=λe s'=>wpAny (model P w) (A.deeper<|envOfC qual scope s.heap.objs.size f cd) (leaving (envOfC qual scope s.heap.objs.size f cd) e) (λ_ d=>CX outer H s E e d) (λg d=>CX outer H s E g d) s'
def Bh{j:Scope}{n:Nat}{x:Str}(h:j.names.lookup x=some .cell):∃c,(cellsFrom n j.names []).lookup x=some c:=by
 have q:=dP j.names n []<|.inl h;exact bY.mp q
def F2{CX:Kz}{P:ah}{w:af}{K:az}{mg:Str->bd}{base:au}{N ps:ar}{scope:Scope}{f:aj}{A:aA}{outer:List Env}{s:aE}{H:Hp}{E:XK}{vs:List V}
  (S:FnScope N ps scope) (hd:A.handled=none) (e0:Env0 P w K mg base A outer s H) (L:vs.length=ps.length) (r:Vals vs us)
  (x:InCallC s s.heap.objs.size (bindL (envOfC qual scope s.heap.objs.size f cd).kindOf (ps.zip us) λ_=>none) (cellsFrom (s.heap.objs.size+1) scope.names []) (bindC (envOfC qual scope s.heap.objs.size f cd).kindOf (ps.zip us) λ_=>none) s1) :
  Inv (vt CX P w K mg base N qual scope f cd A outer s H E) [] (start N vs) H s1:=by
 have C:ps.length<=N.length:=by have:=cW List.length S.pre;rw[cM]at this;lia
 obtain⟨h1,tk,rfl,m⟩:=x.done;have g:∀b:aj,b∉(vt CX P w K mg base N qual scope f cd A outer s H E).ex:=λb z=>absurd (show b∈([]:bb)from z) (by simp);refine⟨⟨e0.mod,S.kind,rfl,rfl,aO _,λy z c h1 d=>?_,λy hy=>?_,λy c _ h=>?_,λ_=>hd,Around.frames_deeper e0.frames,.inr ⟨rfl,rfl⟩,λb z=>absurd z<|g b,e0.bs,e0.bsz,λb _ _=>g b,λb z=>absurd z<|g b,e0.pU,e0.frf⟩,
  rfl,e0.bare,Un.kept m,⟨_,x.toInCall.ns,λi y v h1 d J=>?_⟩,λy c h=>⟨_,x.cell y c h⟩,e0.hok.fresh<|aO _,λy c h=>?_,λp hp=>absurd (show p∈([]:bo)from hp)<|by simp,e0.hok.kept m,?_⟩
 ·exact name_of_addr x.apart (b8 h1) (b8 d)
 ·have hy:scope.names.lookup y=some .cell\/scope.names.lookup y=some .free:=hy
  rcases hy with hy|hy
  ·exact Bh hy
  ·exact absurd rfl<|S.nofree _<|b8 hy
 ·exact eg (x.above y c<|b8 h)
 ·have hi:i<vs.length:=by
   unfold start at d;by_cases hi:i<vs.length
   ·exact hi
   ·rw[c_<|by simpa using hi]at d;rw[e_]at d;split at d<;>cases d
  have G:vs[i]?=some v:=by
   unfold start at d;rw[aW<|by simpa using hi,bE]at d
   cases e:vs[i]? with
   | none=>rw[e]at d;cases d
   | some a=>rw[e]at d;cases d;rfl
  obtain⟨u,B,F⟩:=r.get G;have hp:ps[i]?=some y:=by
   rw[<- S.pre,List.getElem?_take_of_lt ()];exact h1
  have j:ps.Nodup:=by rw[<- S.pre];exact S.nd.sublist (List.take_sublist _ _)
  refine⟨u,F,?_⟩
  rcases S.par y (bI hp)with k|k
  ·exact .inl ⟨k,yL j hp B k⟩
  ·obtain⟨c,e⟩:=Bh (n:=s.heap.objs.size+1) k;refine .inr ⟨.inl k,c,e,?_⟩;have q:=x.cell y c e;rw[yu j hp B<|by show scope.names.lookup y≠_;rw[k];decide]at q;exact q
 ·exact e0.hok.fresh (eg<|x.above y c<|b8 h)
 ·unfold start;show _=N.length;rw[aZ,aK,List.length_replicate]
  lia
def Ov{CX:Kz}{P:ah}{w:af}{K:az}{mg:Str->bd}{base:au}{k:Nat}{f:aj}{kV ct:aa}{od:Option aj}
  {osl:Array<|bd} {N ps:ar} {sp:Sp} (lk:K.lookup f=some ⟨oc,od,.func<|PySem.W.fnOf name qual params body scope dV kV doc pm an cdv ct,osl⟩) (hcd:PySem.W.codeIn K cdv qual=true) (S:FnScope N ps scope)
  (len:∀vs H Q E,sp vs H Q E->vs.length=ps.length)
  (hbody:∀(A:aA) (outer:List Env) (s:aE) (H:Hp) (vs:List V) (Q:VK) (E:XK),Room k (A.deeper<|envOfC qual scope s.heap.objs.size f cdv)->sp vs H Q E ->
   ∃t,yD (vt CX P w K mg base N qual scope f cdv A outer s H E) body t/\t { nx:=λ_ H'=>Q .non H',rt:=Q } (start N vs) H) :
  FnOk P w K mg base CX (k+1) f (PySem.W.fnOf name qual params body scope dV kV doc pm an cdv ct) ps sp:=by
 refine⟨len,λA outer s H F us vs Q E C e0 T r m=>?_⟩;have Z:=len _ _ _ _ m;have L:K.In s.heap:=e0.mod.kin.keeps λb o e=>(e0.bs b o e).1;have p:s.heap.NoLimit:=e0.mod.nolimit.keeps λb o e=>(e0.bs b o e).1;have g:∀y∈ps.zip us,scope.names.lookup y.1=some .local\/(scope.names.lookup y.1=some .cell/\((cellsFrom (s.heap.objs.size+1) scope.names []).lookup y.1).isSome=true):=λ⟨n,v⟩ hy=>by
  rcases S.par n (gE hy).1 with q|q
  ·exact .inl q
  ·exact .inr ⟨q,dP _ _ _<|.inl q⟩
 refine codeAny_call_function C.depth (L _ _ lk) rfl S.co S.gen rfl (PySem.W.codeRec_of L hcd)<|T _ _ _ _ ?_;refine wpAny_newFunctionEnv_cells S.kind g λenv he G x=>?_;subst he;refine⟨p.keeps x.toInCall.keep,codeAny_func ?_⟩;obtain⟨t,U,Y⟩:=hbody A outer s H vs Q E (C.deeper _) m;have I:Inv (vt CX P w K mg base N qual scope f cdv A outer s H E) [] (start N vs) H G:=F2 S C.hd e0 Z r x;refine b_ (U [] G (start N vs) H _ I Y) (λO s' hs=>?_) λe s' hs=>hs;have j:∀{d:St} {H':Hp} {v:V} {u:aa},Inv (vt CX P w K mg base N qual scope f cdv A outer s H E) [] d H' s'->RelV v u->Q v H'->CE outer P w H s Q u s':=
  λ{d H' v u} J B q=>⟨v,H',J.os,J.bare,J.base,J.hok,B,q⟩
 cases O with
 | ret u=>
  obtain⟨v,d,H',J,B,q⟩:=hs;exact j J B q
 | next=>
  obtain⟨d,H',J,q⟩:=hs;exact j (v:=V.non) (u:=Value.none) J rfl q
 | brk=>
  obtain⟨_,_,_,q⟩:=hs;exact False.elim q
 | cont=>
  obtain⟨_,_,_,q⟩:=hs;exact False.elim q
section
variable {X:Cx}{x:Str}{p pos:Pos}{e:aF}{es:List aF}{t:TA}{id T:String}{r:List V->Hp->VK->Prop}
abbrev Ut (r:List V->Hp->VK->Prop)(t:TA):TE:=λσ H Q=>t σ H λvs H1=>r vs H1 Q
def AR(hc:iQ X (.builtin id) r)(hg:Gl X x)(L:X.mg x=none)(hv:bootBuiltins x=some (.builtin id))(U:PA X (e::es) t)(hn:x ≠ "__name__"<|>δ)(j:(x == ("__debug__" : Str))=false<|>δ)
  (Z:starEach (e::es) X.env=(false,eval e X.env)::starEach es X.env<|>ε) (J:((backTo pos<|starEach es X.env).any (·.1)=false)<|>ε):PE X (.Call (.Name x p) (e::es) [] pos) (Ut r t):=by
 z_go;refine eV<|t9 I hg L hv ?_ hn j;exact PyProof.Rows.callWith_builtin1 (jz (U pos pins s σ H _ I h) λus f ⟨vs,H1,g,r1,d⟩=>hc pins f σ H1 vs us Q g r1 d) Z J
def Gn(hc:iQ X (.type T) r)(hg:Gl X x)(L:X.mg x=none)(hv:bootBuiltins x=some (.type T))(U:PA X (e::es) t)(hn:x ≠ "__name__"<|>δ)(j:(x == ("__debug__" : Str))=false<|>δ)
  (Z:starEach (e::es) X.env=(false,eval e X.env)::starEach es X.env<|>ε) (J:((backTo pos<|starEach es X.env).any (·.1)=false)<|>ε):PE X (.Call (.Name x p) (e::es) [] pos) (Ut r t):=by
 z_go;refine eV<|t9 I hg L hv ?_ hn j;exact c5 (jz (U pos pins s σ H _ I h) λus f ⟨vs,H1,g,r1,d⟩=>hc pins f σ H1 vs us Q g r1 d) Z J
end
end L2
namespace HT
open PySem PyProof.Rows
abbrev lexLt:ag->ag->Bool
 | [],[]=>false
 | [],_::_=>true
 | _::_,[]=>false
 | x::xs,y::ys=>if x=y then lexLt xs ys else decide (x<y)
section
variable {prog:ah}{w:af}{A:aA}{E:aa->aE->Prop}{s:aE}
def Me{vs ws:ba}{Q:aa->aE->Prop}(J:IsTup s.heap t vs.toArray)(hb:IsTup s.heap b ws.toArray)(hv:vs≠[])
  (h1:ws=[]->Q (.ref t) s) (L:ws≠[]->Q (.ref s.heap.objs.size) { s with heap:=s.heap.push { cls:=.type "tuple",data:=.seq (vs++ws).toArray }})
  (hsz:vs.length+ws.length<=sizeLine):wpAny (model prog w) A (binaryOp .Add (.ref t)<|.ref b) Q E s:=by
 obtain⟨⟨cls,dd,data,F⟩,m,hc,n,hd⟩:=id J;obtain⟨⟨B,j,p,k⟩,d,g,C,f⟩:=id hb;simp only at hc hd g f;subst hc hd g f;have e:vs.toArray++ws.toArray=(vs++ws).toArray:=by simp
 by_cases hw:ws=[]
 ·exact concat_meets ⟨_,m,rfl⟩ ⟨_,d,rfl⟩ noFill_tuple_add seq_tuple_add fm ff (eK _ _)
   (tuple_addW1 t b vs.toArray ws.toArray n C dd j F k (by simpa using hv)<|by simp[hw]) ⟨m,d,h1 hw⟩
 ·refine concat_meets ⟨_,m,rfl⟩ ⟨_,d,rfl⟩ noFill_tuple_add seq_tuple_add fm ff (eK _ _)
   (tuple_addW2 t b vs.toArray ws.toArray n C dd j F k (by simpa using hv) (by simpa using hw)<|by rw[aP,aP];exact hsz) ⟨m,d,?_⟩
  rw[e];exact L hw
abbrev kK (n d:Nat):be->Nat
 | none=>d
 | some v=>if v<0 then(v+(n:Int)).toNat else min v.toNat n
def BG(n d:Nat):kK n d none=d:=rfl
def EO(n d k:Nat):kK n d (some (k:Int))=min k n:=by
 show(if (k:Int)<0 then((k:Int)+(n:Int)).toNat else min (k:Int).toNat n)=min k n;rw[aQ (),cO]
def PV(n d:Nat)(hd:d<=n)(o:be):kK n d o<=n:=by
 cases o with
 | none=>exact hd
 | some v=>
  show(if v<0 then(v+(n:Int)).toNat else min v.toNat n)<=n;by_cases hv:v<0
  ·rw[aT hv];lia
  ·rw[aQ hv];exact Nat.min_le_right _ _
def EG(v:Int)(n d:Nat):(if v<0 then max (v+(n:Int)) 0 else min v (n:Int))=((kK n d (some v):Nat):Int):=by
 show(if v<0 then max (v+(n:Int)) 0 else min v (n:Int))=(((if v<0 then(v+(n:Int)).toNat else min v.toNat n):Nat):Int);by_cases hv:v<0
 ·dsimp[aT hv];lia
 ·dsimp[aQ hv];lia
def CG(lo hi:be)(n:Nat):Builtin.Slice.sliceAdjust lo hi 1 (n:Int)=(((kK n 0 lo:Nat):Int),((kK n n hi:Nat):Int)):=by
 have h1:¬((1:Int)<0):=()
 unfold Builtin.Slice.sliceAdjust;dsimp[h1,eN];refine Prod.ext ?_ ?_
 ·cases lo with
  | none=>rfl
  | some v=>exact EG v n 0
 ·cases hi with
  | none=>rfl
  | some v=>exact EG v n n
def CB(i j:Nat):Builtin.Slice.slicePlaces (i:Int) (j:Int) 1=j-i:=by
 unfold Builtin.Slice.slicePlaces;have h1:(1:Int)>0:=()
 dsimp[h1,dD,Int.ediv_one];split<;>lia
def xx{v:aa}{Q:be->aE->Prop}(p:IsPart v o)(h:Q o s):wpAny (model prog w) A (Builtin.Slice.slicePartIndex v) Q E s:=by
 cases p with
 | none=>exact slicePart_none h
 | int i t=>exact slicePart_int h
def ug{lo:be}{n:Nat}{Q:Int×Int×Nat->aE->Prop}(hs:s.heap.IsSliceOf sl vl vu .none)(pl:IsPart vl lo)(j:IsPart vu hi)
  (h:Q (((kK n 0 lo:Nat):Int),1,kK n n hi-kK n 0 lo) s):wpAny (model prog w) A (Builtin.Slice.sliceApplied (.ref sl)<|pure (n:Int)) Q E s:=by
 obtain⟨os,f,g,d⟩:=id hs;unfold Builtin.Slice.sliceApplied Builtin.Slice.sliceFields;refine aH<|aH<|bR f d (x:=vl) rfl<|aH<|bR f d (x:=vu) rfl<|aH<|bR f d (x:=.none) rfl<|aL ?_;refine aH (slicePart_none ?_)
 skip
 rw[aQ ⋯];refine aH<|xx pl<|aH<|xx j<|aH<|aL ?_;show wpAny _ _ (match Builtin.Slice.sliceAdjust lo hi 1 (n:Int)with|(lo,hi)=>pure (lo,(1:Int),Builtin.Slice.slicePlaces lo hi 1)) _ _ s;rw[CG lo hi n];show wpAny _ _ (pure (((kK n 0 lo:Nat):Int),(1:Int),Builtin.Slice.slicePlaces ((kK n 0 lo:Nat):Int) ((kK n n hi:Nat):Int) 1)) _ _ s;rw[CB];exact aL h
def Kv(xs:Array aa)(i k:Nat):((List.range k).filterMap λ(m:Nat)=>xs[((i:Int)+(m:Int) * 1).toNat]?).toArray=((xs.toList.drop i).take k).toArray:=by
 have e:(λ(m:Nat)=>xs[((i:Int)+(m:Int) * 1).toNat]?)=λm=>xs[i+m]?:=by
  funext m
  have:((i:Int)+(m:Int) * 1).toNat=i+m:=()
  rw[this]
 rw[e];have:=pick_run xs i k;rw[List.filterMap_map]at this;have e2:((λx=>xs[x]?) ∘ λx=>i+x)=λm=>xs[i+m]?:=rfl;rw[e2]at this;rw[this]
def sV{J:Array aa}{lo:be}{Q:aa->aE->Prop}(L:IsTup s.heap t J)(hs:s.heap.IsSliceOf sl vl vu .none)(pl:IsPart vl lo)(U:IsPart vu hi)
  (hw:¬(kK J.size 0 lo=0/\kK J.size J.size hi=J.size))
  (h:Q (.ref s.heap.objs.size) { s with heap:=s.heap.push { cls:=.type "tuple",data:=.seq ((J.toList.drop<|kK J.size 0 lo).take<|kK J.size J.size hi-kK J.size 0 lo).toArray }})
  (hsz:J.size<=sizeLine):wpAny (model prog w) A (getItem (.ref t)<|.ref sl) Q E s:=by
 have d:sizeOk (.seq ((J.toList.drop<|kK J.size 0 lo).take<|kK J.size J.size hi-kK J.size 0 lo).toArray):=by
  show((J.toList.drop<|kK J.size 0 lo).take<|kK J.size J.size hi-kK J.size 0 lo).toArray.size<=sizeLine;rw[aP,cM,cR,cE];omega
 have C:kK J.size J.size hi<=J.size:=PV _ _ (aO _) hi;obtain⟨os,g,f,p⟩:=id hs;have k:s.TypeIs (.ref sl) "slice" := ⟨os,g,f⟩;unfold getItem
 try with_reducible refine bX ?_
 first|refine aH (aL ?_)|skip
 refine aH<|wpAny_sequenceKey L.typeIs ⋯ ?_;refine aH (cF (name:=Str.ofString "__getitem__") L.typeIs bZ
  (cz bZ L.typeIs entry_tuple_getitem ?_<|args_tuple_getitem _ _))
 show wpAny _ _ (Builtin.Tuple.tupleItemsOf (.ref t) >>= _) _ _ s;refine aH<|tupleItemsOf_ L ?_;refine aH<|wpAny_typeOf k ?_;rw[aT ⋯];refine aH<|ug hs pl U ?_;have j:¬((((kK J.size 0 lo:Nat):Int) == 0 && (1:Int) == 1 && (kK J.size J.size hi-kK J.size 0 lo) == J.size)=true):=by
  intro q;rw[cA,cA]at q;have B:((kK J.size 0 lo:Nat):Int)=0:=eq_of_beq q.1.1;have F:kK J.size J.size hi-kK J.size 0 lo=J.size:=eq_of_beq q.2;exact hw ⟨by omega,by omega⟩
 show wpAny _ _ (if (((kK J.size 0 lo:Nat):Int) == 0 && (1:Int) == 1 && (kK J.size J.size hi-kK J.size 0 lo) == J.size)=true then _ else _) _ _ s;rw[aQ j,Kv]
 first
  | exact aH (m:=Builtin.Tuple.tupleExact _) (bA (aL ⟨_,rfl,aL h⟩) d)
  | exact aH (m:=Builtin.Tuple.tupleExact _) (bA (aH<|aL<|aL ⟨_,rfl,aL h⟩) d)
  | exact aH (aH (m:=Builtin.Tuple.tupleExact _)<|bA (aL<|aL ⟨_,rfl,aL h⟩) d)
  | exact aH<|aH (m:=Builtin.Tuple.tupleExact _)<|bA (aL ⟨_,rfl,aL h⟩) d
end
end HT
namespace L2
open PySem PySem.Spec PyProof.Rows
meta abbrev TO:=St->Hp->(be->Hp->Prop)->Prop
abbrev PO (X:Cx)(e:Option aF)(t:TO):Prop:=
 ∀(pins:bo) (s:aE) (σ:St) (H:Hp) (Q:be->Hp->Prop),Inv X pins σ H s->t σ H Q ->
  wpAny (model X.prog X.w) X.A (evalPart e X.env) (λu s'=>∃o H',Inv X pins σ H' s'/\IsPart u o/\Q o H') X.xe s
abbrev MN:TO:=λ_ H Q=>Q none H
abbrev Ro (t:TE):TO:=λσ H Q=>t σ H λx H1=>∃i,x=.int i/\Q (some i) H1
def intsAre_of{ns:ag}:∀{us:ba},Vals (ns.map V.int) us->IntsAre us ns:=by
 induction ns with
 | nil=>intro us r;rw[gA]at r;cases r;exact .nil
 | cons n ns d=>
  intro us r;rw[aY]at r
  cases r with
  | cons r1 r2=>
   obtain⟨t,e⟩:=r1;subst e;exact .cons n t<|d r2
section
variable {X:Cx}{e:aF}{te:TE}{lo hi:Option aF}{tl th:TO}{pos p2:Pos}
def MR:PO X none MN:=by
 z_go;rw[gw];exact aL ⟨none,H,I,.none,h⟩
def My(h:PE X e te):PO X (some e) (Ro te):=by
 intro pins s σ H Q I hw;rw[evalPart_some];refine jz (h pins s σ H _ I hw) λu g ⟨x,H1,f,r1,d⟩=>?_;obtain⟨i,rfl,q⟩:=d;obtain⟨t,rfl⟩:=r1;exact⟨some i,H1,f,.int i t,q⟩
abbrev TQ (X:Cx)(r:V->be->be->Hp->VK->Prop):Prop:=
 ∀(pins:bo) (s:aE) (σ:St) (H:Hp) (x:V) (v g f:aa) (lo hi:be) (d:aj) (Q:VK),Inv X pins σ H s->RelV x v->s.heap.IsSliceOf d g f .none->IsPart g lo->IsPart f hi->r x lo hi H Q ->
  ∃T id,typeLookup (.type T) "__getitem__" = pure (some<|.builtin id)/\s.TypeIs v T/\wpAny (model X.prog X.w) X.A (getItem v<|.ref d) (EP X pins σ Q) X.xe s
abbrev Wk (r:V->be->be->Hp->VK->Prop)(te:TE)(tl th:TO):TE:=λσ H Q=>te σ H λx H1=>tl σ H1 λl H2=>th σ H2 λu H3=>r x l u H3 Q
def Jj{r:V->be->be->Hp->VK->Prop}(J:TQ X r)(L:PE X e te)(U:PO X lo tl)(Z:PO X hi th):PE X (.Subscript e (.Slice lo hi none p2) pos) (Wk r te tl th):=by
 z_go;refine Subscript_<|jz (L pins s σ H _ I h) λv k ⟨x,H1,j,r1,m⟩=>?_;refine wpAny_Slice<|jz (U pins k σ H1 _ j m) λd s2 ⟨l,H2,p,pl,G⟩=>jz (Z pins s2 σ H2 _ p G) λf s3 ⟨u,H3,g,F,C⟩=>?_;rw[gw];refine aL ?_;have B:Inv X pins σ H3 { s3 with heap:=s3.heap.push { cls:=.type "slice",data:=.fields #[d,f,.none]}}:=g.kept (t':=s3.toks) λb ob q=>aI _ q;obtain⟨T,id,hT,ht,hg⟩:=J pins { s3 with heap:=s3.heap.push { cls:=.type "slice",data:=.fields #[d,f,.none]}} σ H3 x v d f l u s3.heap.objs.size Q B r1 (f7 ..) pl F C
 skip
 exact tail_any (ops:=[.ref s3.heap.objs.size,v]) ht hT hg<|by with_unfolding_all rfl
abbrev By (xs:List V)(lo hi:be):List V:=(xs.drop<|HT.kK xs.length 0 lo).take<|HT.kK xs.length xs.length hi-HT.kK xs.length 0 lo
def vh(xs:List V)(lo hi:be):(By xs lo hi).length<=xs.length:=by
 unfold By;rw[cM,cR]
 lia
abbrev Ub (K:az):V->be->be->Hp->VK->Prop:=λx lo hi H Q=>∃a xs,x=.ref a/\kZ K H a xs /\
 ¬(HT.kK xs.length 0 lo=0/\HT.kK xs.length xs.length hi=xs.length)/\∀p,H p=none->Q (.ref p) (upd H p<|.tup<|By xs lo hi)
def Qp:TQ X (Ub X.K):=by
 intro pins s σ H x v p B lo hi C Q I rx hs pl k h;obtain⟨a,xs,rfl,m,hw,q⟩:=h
 cases rx
 obtain⟨f,r,g,j⟩:=I.tuple m;have d:f.toArray.size=xs.length:=by rw[aP];exact r.length.symm
 refine⟨"tuple",_,bZ.lookup,g.typeIs,?_⟩;refine HT.sV g hs pl k (by rw[d];exact hw) ?_ (by rw[d];exact j);rw[d];refine⟨.ref s.heap.objs.size,_,I.laid (t':=s.toks) (o:=.tup<|By xs lo hi) (λb ob q=>aI _ q) (aO _) ?_,rfl,q _<|I.hok.fresh<|aO _⟩;exact⟨bN (vh xs lo hi) j,_,(r.drop<|HT.kK xs.length 0 lo).take<|HT.kK xs.length xs.length hi-HT.kK xs.length 0 lo,lC.new _ _⟩
abbrev Rx (K:az):R2:=λx y H Q=>∃a b xs ys,x=.ref a/\y=.ref b/\kZ K H a xs/\kZ K H b ys/\xs≠[]/\xs.length+ys.length<=sizeLine /\
 (ys=[]->Q (.ref a) H)/\(ys≠[]->∀p,H p=none->Q (.ref p) (upd H p<|.tup<|xs++ys))
def Vals.zu(r:Vals xs us):us=[] ↔ xs=[]:=by
 cases r with
 | nil=>simp
 | cons _ _=>simp
def MS:kC X (binaryOp .Add) (Rx X.K):=by
 kt_k;obtain⟨a,b,xs,ys,rfl,rfl,k,j,B,f,m,g⟩:=h
 cases rx
 cases ry
 obtain⟨p,r1,p1,_⟩:=I.tuple k;obtain⟨d,r2,p2,_⟩:=I.tuple j;refine HT.Me p1 p2 (λz=>B<|r1.zu.mp z) (λz=>⟨.ref a,H,I,rfl,m<|r2.zu.mp z⟩) (λz=>?_) (by rw[<- r1.length,<- r2.length];exact f);refine⟨.ref s.heap.objs.size,_,I.laid (t':=s.toks) (o:=.tup<|xs++ys) (λb ob q=>aI _ q) (aO _) ?_,rfl,g (λw=>z<|r2.zu.mpr w) _<|I.hok.fresh<|aO _⟩;exact⟨by rw[aZ];exact f,_,r1.append r2,lC.new _ _⟩
end
abbrev zj (n:Nat)(i:Int):bj:=if 0<=i then(if i<n then some i.toNat else none)else if -(n:Int)<=i then some (i+n).toNat else none
abbrev oA {α:Type}(xs:List α)(i:Int):Option α:=(zj xs.length i).bind λj=>xs[j]?
def Ek{n:Nat}{i:Int}(h:zj n i=some j):seqIndex? i n=some j/\j<n/\-(n:Int)<=i/\i<n:=by
 unfold zj at h;by_cases h0:0<=i
 ·rw[aT h0]at h;by_cases h1:i<n
  ·rw[aT h1]at h;have e:i.toNat=j:=aR h;exact⟨by rw[seqIndex_of h0 h1,e],(),(),h1⟩
  ·rw[aQ h1]at h;cases h
 ·rw[aQ h0]at h;by_cases h1:-(n:Int)<=i
  ·rw[aT h1]at h;have e:(i+n).toNat=j:=aR h;exact⟨by rw[seqIndex_neg () h1,e],(),h1,()⟩
  ·rw[aQ h1]at h;cases h
def zo{α:Type}{xs:List α}{i:Int}{v:α}(h:oA xs i=some v):∃j,seqIndex? i xs.length=some j/\xs[j]?=some v/\j<xs.length/\-(xs.length:Int)<=i/\i<xs.length:=by
 unfold oA at h
 cases e:zj xs.length i with
 | none=>rw[e]at h;cases h
 | some j=>
  rw[e]at h;obtain⟨h1,f,g,d⟩:=Ek e;exact⟨j,h1,h,f,g,d⟩
def Mi{α:Type}{xs:List α}{j:Nat}{v:α}(h:xs[j]?=some v):oA xs (j:Int)=some v:=by
 have d:j<xs.length:=(aM.mp h).1;have e:zj xs.length (j:Int)=some j:=by
  unfold zj;rw[aT (),aT ()];simp
 unfold oA;rw[e];exact h
abbrev vN (b:aF):Prop:=∀o i,subscripted b false o i=operate [o,i] (getItem o i)
abbrev Ol (X:Cx)(r:R2):Prop:=
 ∀(value d:aF) (pins:bo) (s:aE) (σ:St) (H:Hp) (x y:V) (v u:aa) (Q:VK),Inv X pins σ H s->RelV x v->RelV y u->r x y H Q ->
  subscripted d false v u=operate [v,u] (getItem v u)->wpAny (model X.prog X.w) X.A (subscriptTail value d v u) (EP X pins σ Q) X.xe s
abbrev Cb (X:Cx)(id:String)(r:V->List V->Hp->VK->Prop):Prop:=
 ∀(pins:bo) (s:aE) (σ:St) (H:Hp) (x:V) (xs:List V) (v:aa) (us:ba) (Q:VK),Inv X pins σ H s->RelV x v->Vals xs us->r x xs H Q ->
  wpAny (model X.prog X.w) X.A (call (.builtin id) (v::us)) (EP X pins σ Q) X.xe s
section
variable {X:Cx}{a b:aF}{ta tb:TE}{pos:Pos}
def Lh{r:R2}(j:Ol X r)(J:PE X a ta)(hb:PE X b tb)(hs:vN b):PE X (.Subscript a b pos) (Q2 r ta tb):=by
 z_go;exact Subscript_<|Pq J hb I h λv u s2 x y H2 d rx ry q=>j a b pins s2 σ H2 x y v u Q d rx ry q<|hs _ _
abbrev T6 (K:az):R2:=λx y H Q=>∃p xs i v,x=.ref p/\y=.int i/\mE K H p xs/\oA xs i=some v/\Q v H
abbrev Ui (K:az):R2:=λx y H Q=>∃p xs i v,x=.ref p/\y=.int i/\kZ K H p xs/\oA xs i=some v/\Q v H
abbrev U8:R2:=λx y H Q=>∃z i c,x=.str z/\y=.int i/\z.length<=sizeLine/\oA z.cps.toList i=some c/\Q (.str ⟨#[c]⟩) H
def ET:Ol X (T6 X.K):=by
 intro value f pins s σ H x y v u Q I rx ry h hs;obtain⟨p,xs,i,z,rfl,rfl,G,L,q⟩:=h
 cases rx
 obtain⟨t,rfl⟩:=ry;obtain⟨k,r,pl,P⟩:=I.list G;obtain⟨j,h1,C,O,F,N⟩:=zo L;obtain⟨w,B,m⟩:=r.get C;have J:=r.length;have hn:=ue;have d:EP X pins σ Q w s:=⟨z,H,I,m,q⟩;by_cases h0:0<=i
 ·have g:i.toNat=j:=by
   rw[seqIndex_of h0 N]at h1;exact aR h1
  exact item_listR pl.isList h0 () (by rw[g];simpa using B) d hs
 ·have g:(i+(k.toArray.size:Int)).toNat=j:=by
   rw[seqIndex_neg () F]at h1;rw[aP,<- J];exact aR h1
  exact subscriptTail_builtinR (x:=w) pl.isList.typeIs gk.lookup
   (wpAny_getItem_list_neg (Q:=λr s'=>r=w/\EP X pins σ Q r s') pl.isList () (by rw[aP]<;>lia) () (by rw[g];simpa using B) ⟨rfl,d⟩) hs
def P0:Ol X (Ui X.K):=by
 intro value f pins s σ H x y v u Q I rx ry h hs;obtain⟨p,xs,i,z,rfl,rfl,B,F,q⟩:=h
 cases rx
 obtain⟨t,rfl⟩:=ry;obtain⟨G,r,pl,N⟩:=I.tuple B;obtain⟨j,h1,k,L,J,O⟩:=zo F;obtain⟨w,m,g⟩:=r.get k;have C:=r.length;have hn:=ue;have d:EP X pins σ Q w s:=⟨z,H,I,g,q⟩;exact subscriptTail_builtinR (x:=w) pl.typeIs slot_tuple_getitem.lookup
  (getItem_tuple (j:=j) (Q:=λr s'=>r=w/\EP X pins σ Q r s') pl () () (by rw[aP,<- C];exact h1) (by simpa using m) ⟨rfl,d⟩) hs
def PZ:Ol X U8:=by
 intro value d pins s σ H x y v u Q I rx ry h hs;obtain⟨z,i,c,rfl,rfl,F,m,q⟩:=h;kj_on;obtain⟨B,rfl⟩:=ry;obtain⟨j,h1,f,C,g,p⟩:=zo m;have k:z.cps.toList.length=z.length:=by simp[Str.length]
 rw[k]at h1 g p;have hn:=ue;exact tail_any (f9 s z t) slot_str_getitem.lookup (getItem_str (c:=c) (by
  have e1:decide (i < -(2 ^ 63:Int))=false:=bK ();have e2:decide (i>=2 ^ 63)=false:=bK ();rw[e1,e2,Bool.or_false]) (by rw[h1];simpa using f) ⟨.str ⟨#[c]⟩,H,I.tok _,⟨_,rfl⟩,q⟩) hs
def CL(its:ba)(n j:Nat)(u:aa):Obj.mapSeq (·.setIfInBounds j u) { cls:=.type "list",data:=.seq its.toArray n }={ cls:=.type "list",data:=.seq (its.set j u).toArray n }:=by
 simp[Obj.mapSeq]
def Inv.lst{H:Hp}{s:aE}{p:aj}{xs:List V}(I:Inv X pins σ H s)(h:H p=some (.lst xs)) :
  ∃(its:ba) (n:Nat),Vals xs its/\s.heap.get? p=some { cls:=.type "list",data:=.seq its.toArray n }/\xs.length<=sizeLine:=by
 obtain⟨z,its,n,r,e⟩:=I.hok p _ h;exact⟨its,n,r,e,z⟩
def Inv.P1{H:Hp}{s:aE}{p:aj}{ys:List V}{its its':ba}{n:Nat}{f:Obj->Obj}(I:Inv X pins σ H s)(h:H p=some (.lst xs))
  (j:s.heap.get? p=some { cls:=.type "list",data:=.seq its.toArray n }) (hf:f { cls:=.type "list",data:=.seq its.toArray n }={ cls:=.type "list",data:=.seq its'.toArray n' }) (r:Vals ys its') (J:ys.length<=sizeLine) (t:Nat) :
  Inv X pins σ (upd H p<|.lst ys) { s with heap:=s.heap.update p f,toks:=t }:=by
 have e:(s.heap.update p f).get? p=some { cls:=.type "list",data:=.seq its'.toArray n' }:=by
  rw[dh f j<|by rw[hf]<;>rfl,hf]
 refine I.write (x:=p) (e:=p) (by rw[h];trivial) (.inl rfl) (λb u d q=>(cP _ _<|bP d).trans q) ⟨_,e⟩ ?_;exact⟨J,its',n',r,e⟩
abbrev Si:V->V->V->Hp->(Hp->Prop)->Prop:=λo i v H Q=>∃p xs k j,o=.ref p/\i=.int k/\H p=some (.lst xs)/\zj xs.length k=some j/\Q (upd H p<|.lst<|xs.set j v)
def set_list:Iu X Si:=by
 intro pins s σ H o i v P iv u Q I G J K h;obtain⟨p,xs,k,j,rfl,rfl,hp,L,q⟩:=h
 cases G
 obtain⟨t,rfl⟩:=J;obtain⟨d,n,r,m,N⟩:=I.lst hp;obtain⟨h1,O,F,C⟩:=Ek L;have g:=r.length;have hn:=ue;have B:Inv X pins σ (upd H p<|.lst<|xs.set j v) { s with heap:=s.heap.update p<|Obj.mapSeq (·.setIfInBounds j u)}:=
  I.P1 hp m (CL d n j u) (r.set K j) (by rw[bL];exact N) s.toks
 by_cases h0:0<=k
 ·have f:k.toNat=j:=by
   rw[seqIndex_of h0 C]at h1;exact aR h1
  exact PySem.W.ki_setAt m h0 () (by rw[aP,<- g];exact C)<|by rw[f];exact⟨_,B,q⟩
 ·have f:(k+(d.toArray.size:Int)).toNat=j:=by
   rw[seqIndex_neg () F]at h1;rw[aP,<- g];exact aR h1
  exact PySem.W.ki_setBack m () (by rw[aP,<- g];exact F) ()<|by rw[f];exact⟨_,B,q⟩
def zM(lo hi:be)(n:Nat):(sliceBounds lo hi none n).1=((HT.kK n 0 lo:Nat):Int)/\(sliceBounds lo hi none n).2.1=((HT.kK n n hi:Nat):Int)/\(sliceBounds lo hi none n).2.2=1:=by
 refine⟨?_,?_,rfl⟩
 ·cases lo with
  | none=>simp[sliceBounds,HT.kK]
  | some i=>
   dsimp[sliceBounds,HT.kK,getD_none,show(1:Int)>0 by decide,dD];by_cases h:i<0
   ·dsimp[h,dD]<;>lia
   ·dsimp[h,eN]<;>lia
 ·cases hi with
  | none=>simp[sliceBounds,HT.kK]
  | some i=>
   dsimp[sliceBounds,HT.kK,getD_none,show(1:Int)>0 by decide,dD];by_cases h:i<0
   ·dsimp[h,dD]<;>lia
   ·dsimp[h,eN]<;>lia
def xV(its:ba)(lo hi:be):slicePick its.toArray lo hi none=((its.drop<|HT.kK its.length 0 lo).take<|HT.kK its.length its.length hi-HT.kK its.length 0 lo).toArray:=by
 obtain⟨h1,f,d⟩:=zM lo hi its.toArray.size;unfold slicePick;rw[h1,f,d];dsimp[sliceRange_one,pick_run,aP]<;>rfl
abbrev T8 (K:az):V->be->be->Hp->VK->Prop:=λx lo hi H Q=>∃a xs,x=.ref a/\mE K H a xs/\∀p,H p=none->Q (.ref p) (upd H p<|.lst<|By xs lo hi)
def Em:TQ X (T8 X.K):=by
 intro pins s σ H x v p B lo hi C Q I rx hs pl j h;obtain⟨a,xs,rfl,m,q⟩:=h
 cases rx
 obtain⟨g,r,f,k⟩:=I.list m;have d:=r.length;refine⟨"list",_,gk.lookup,f.isList.typeIs,?_⟩;refine wpAny_getItem_list_slice f.isList hs pl j .none (by simp) ?_ (by rw[aP]<;>lia);rw[xV,<- d];refine⟨.ref s.heap.objs.size,_,I.laid (t':=s.toks) (o:=.lst<|By xs lo hi) (λb ob q=>aI _ q) (aO _) ?_,rfl,q _<|I.hok.fresh<|aO _⟩;exact⟨bN (vh xs lo hi) k,_,0,(r.drop<|HT.kK xs.length 0 lo).take<|HT.kK xs.length xs.length hi-HT.kK xs.length 0 lo,aU _ rfl⟩
def pJ:iQ X (.type "list") (λxs H Q=>∃p ys,xs=[.ref p]/\(mE X.K H p ys\/kZ X.K H p ys)/\∀l,H l=none->Q (.ref l) (upd H l<|.lst ys)):=by
 fin2;obtain⟨p,ys,rfl,m,q⟩:=h;kcj_m
 cases rx
 have k:∀(d:ba),Vals ys d->ys.length<=sizeLine->∀(h':au) (g:Nat),(∀b o',s.heap.get? b=some o'->h'.get? b=some o') ->
   h'.get? s.heap.objs.size=some { cls:=.type "list",dict:=none,data:=.seq d.toArray g,slots:=#[]}->EP X pins σ Q (.ref s.heap.objs.size) { s with heap:=h' }:=λd f B h' g kp e=>
  ⟨.ref s.heap.objs.size,_,I.laid (t':=s.toks) kp (aO _)<|show jm X.prog X.w _ h' _ (.lst ys)from⟨B,d,g,f,e⟩,rfl,q _<|I.hok.fresh<|aO _⟩
 rcases m with m|m
 ·obtain⟨d,f,pl,B⟩:=I.list m;have j:=f.length;obtain⟨o,C,hc,n,hd⟩:=pl.isList;exact call_list_seq p (.inl rfl) C hc hd (λh' g kp e=>k d f B h' g kp e) (by dsimp[aP]<;>lia)
 ·obtain⟨d,f,pl,B⟩:=I.tuple m;have j:=f.length;obtain⟨o,C,hc,n,hd⟩:=pl;exact call_list_seq p (.inr rfl) C hc hd (λh' g kp e=>k d f B h' g kp e)<|by dsimp[aP]<;>lia
def oi:iQ X (.type "tuple") (λxs H Q=>∃p ys,xs=[.ref p]/\((mE X.K H p ys/\∀l,H l=none->Q (.ref l) (upd H l<|.tup ys))\/(kZ X.K H p ys/\Q (.ref p) H))):=by
 fin2;obtain⟨p,ys,rfl,h⟩:=h;kcj_m
 cases rx
 rcases h with⟨g,q⟩|⟨g,q⟩
 ·obtain⟨d,f,pl,m⟩:=I.list g;have k:=f.length;refine call_tuple_list pl.isList (λh' kp=>?_) (by dsimp[aP]<;>lia);have j:Inv X pins σ H { s with heap:=h' }:=I.kept (t':=s.toks) kp;have B:Inv X pins σ (upd H h'.objs.size<|.tup ys) { s with heap:=h'.push { cls:=.type "tuple",data:=.seq d.toArray }}:=
   j.laid (t':=s.toks) (λb o e=>aI _ e) (aO _) (show jm X.prog X.w _ _ _ (.tup ys)from⟨m,d,f,lC.new _ _⟩)
  exact⟨.ref h'.objs.size,_,B,rfl,q _<|j.hok.fresh<|aO _⟩
 ·obtain⟨d,f,pl,m⟩:=I.tuple g;exact call_tuple_same pl ⟨.ref p,H,I,rfl,q⟩
abbrev Q9 (K:az)(T:String)(x:V)(H:Hp):Prop:=match x with
 | .str _=>T = "str"
 | .int _=>T = "int"
 | .ref p=>(T = "list" /\ ∃xs,mE K H p xs)\/(T = "tuple" /\ ∃o,K.lookup p=some o/\o.cls=.type "tuple" /\ o.dict=none) \/
   (T = "dict" /\ ((∃kvs,H p=some (.dK kvs))\/∃kvs,H p=some (.dT kvs)))\/(T = "set" /\ ∃S n,H p=some (.set S n))
 | _=>False
def JJ{H:Hp}{s:aE}{x:V}{v:aa}(I:Inv X pins σ H s)(r:RelV x v)(ty:Q9 X.K T x H) :
  s.TypeIs v T/\∀a,v=.ref a->∃ob,s.heap.get? a=some ob/\ob.dict=none:=by
 cases x with
 | str z=>
  obtain⟨t,rfl⟩:=r
  cases(show T = "str" from ty)
  exact⟨f9 s z t,nofun⟩
 | int i=>
  obtain⟨t,rfl⟩:=r
  cases(show T = "int" from ty)
  exact⟨typeIs_int s i t,nofun⟩
 | ref p=>
  cases r
  rcases ty with⟨rfl,xs,f⟩|⟨rfl,o,d,hc,hd⟩|⟨rfl,d⟩|⟨rfl,S,n,d⟩
  ·obtain⟨g,_,pl,_⟩:=I.list f;refine⟨pl.isList.typeIs,λa e=>?_⟩
   cases e
   obtain⟨o,n,e,c,hd,_⟩:=pl;exact⟨o,e,hd⟩
  ·refine⟨⟨o,I.rQ p o d,hc⟩,λa e=>?_⟩
   cases e
   exact⟨o,I.rQ _ o d,hd⟩
  ·have z:∃o,s.heap.get? p=some o/\o.ExactDict:=by
    rcases d with⟨kvs,d⟩|⟨kvs,d⟩
    ·obtain⟨_,_,_,_,o,_,_,e,ex,_⟩:=I.hok p _ d;exact⟨o,e,ex⟩
    ·obtain⟨_,_,_,_,o,_,_,e,ex,_⟩:=I.hok p _ d;exact⟨o,e,ex⟩
   obtain⟨o,e,ex⟩:=z;refine⟨⟨o,e,ex.1⟩,λa e2=>?_⟩
   cases e2
   exact⟨o,e,ex.2.1⟩
  ·obtain⟨o,_,_,_,e,ex,_⟩:=I.hok p _ d;refine⟨⟨o,e,ex.1⟩,λa e2=>?_⟩
   cases e2
   exact⟨o,e,ex.2.1⟩
 | _=>exact False.elim ty
abbrev UN (K:az)(T:String)(r:V->List V->Hp->VK->Prop)(to:TE):TE:=λσ H Q=>to σ H λx H1=>Q9 K T x H1/\r x [] H1 Q
abbrev We (K:az)(T:String)(r:V->List V->Hp->VK->Prop)(to:TE)(t:TA):TE:=λσ H Q=>to σ H λx H1=>Q9 K T x H1/\t σ H1 λxs H2=>r x xs H2 Q
variable {o e:aF}{es:List aF}{to:TE}{t:TA}{name:Str}{apos cpos:Pos}{T id:String}{r:V->List V->Hp->VK->Prop}
def OU(Z:PlainAttrs T)(slot:Slot T name id)(U:typeOf (.builtin id)=pure (.type "method_descriptor"))(hm:Cb X id r)(ho:PE X o to)
  (J:attributeBase o name X.env (eval o X.env)=eval o X.env<|>ε) (L:(apos.endLine == cpos.line)=true<|>ε):PE X (.Call (.Attribute o name apos) [] [] cpos) (UN X.K T r to):=by
 z_go;refine wpAny_Call_method0_late J L<|jz (ho pins s σ H _ I h) λv g ⟨x,H1,d,r1,ty,f⟩=>?_;obtain⟨h1,j⟩:=JJ d r1 ty;exact⟨T,id,Z,slot,U,h1,j,fq rfl<|PySem.evalArgs_none<|hm pins g σ H1 x [] v [] Q d r1 .nil f⟩
def HK(pa:PlainAttrs T)(slot:Slot T name id)(hty:typeOf (.builtin id)=pure (.type "method_descriptor"))(hm:Cb X id r)(ho:PE X o to)(ha:PA X (e::es) t)
  (L:attributeBase o name X.env (eval o X.env)=eval o X.env<|>ε)
  (Z:(((backTo cpos<|starEach (e::es) X.env).all (λx=>!x.1) && (backToKw cpos<|keywordEach [] X.env).all (λx=>x.1.isSome)
   && decide ((e::es).length+([]:List Keyword).length+(if ([]:List Keyword).isEmpty then 0 else 1)<30))=true)<|>ε)
  (U:(apos.endLine == cpos.line)=true<|>ε) (hs:starEach (e::es) X.env=(false,eval e X.env)::starEach es X.env<|>ε) (J:((backTo cpos<|starEach es X.env).any (·.1)=false)<|>ε) :
  PE X (.Call (.Attribute o name apos) (e::es) [] cpos) (We X.K T r to t):=by
 z_go;refine wpAny_Call_method_late L Z U rfl<|jz (ho pins s σ H _ I h) λv j ⟨x,H1,f,r1,ty,g⟩=>?_;obtain⟨h1,k⟩:=JJ f r1 ty;refine⟨T,id,pa,slot,hty,h1,k,?_⟩;have d:=ha cpos pins j σ H1 _ f g;rw[hs]at d ⊢;refine fq (by show(false || (backTo cpos<|starEach es X.env).any (·.1))=false;rw[J]<;>rfl)<|Calls.evalArgs_plain ?_;exact jz d λus s2 ⟨vs,H2,m,r2,p⟩=>hm pins s2 σ H2 x vs v us Q m r1 r2 p
end
abbrev Up (X:Cx)(id:String)(r:V->List V->Hp->VK->Prop):Prop:=
 ∀(pins:bo) (s:aE) (σ:St) (H:Hp) (x:V) (xs:List V) (v:aa) (us:ba) (Q:VK),Inv X pins σ H s->RelV x v->Vals xs us->r x xs H Q ->
  wpAny (model X.prog X.w) X.A (call (.builtin id) (v::us)) (EP X pins σ Q) X.xe s
def Vals.one:∀{x:V}{us:ba},Vals [x] us->∃u,us=[u]/\RelV x u
 | _,_,.cons r .nil=>⟨_,rfl,r⟩
def Vals.zero:∀{us:ba},Vals [] us->us=[]
 | _,.nil=>rfl
def Vals.dropLast{xs:List V}{us:ba}(h:Vals xs us):Vals xs.dropLast us.dropLast:=by
 induction h with
 | nil=>exact .nil
 | cons r t d=>
  cases t with
  | nil=>exact .nil
  | cons q f=>exact .cons r d
def Vals.reverse{xs:List V}{us:ba}(h:Vals xs us):Vals xs.reverse us.reverse:=by
 induction h with
 | nil=>exact .nil
 | cons r t d=>rw[fu,fu];exact Vals.append d<|.cons r .nil
theorem Vals.rep(h:Vals xs us):∀k:Nat,Vals (List.replicate k xs).flatten (List.replicate k us).flatten
 | 0=>.nil
 | k+1=>by
  rw[cI,cI,cX,cX];exact Vals.append h<|Vals.rep h k
def CA{α:Type}(l:List α):l.eraseIdx (l.length-1)=l.dropLast:=by
 induction l with
 | nil=>rfl
 | cons a r d=>
  cases r with
  | nil=>rfl
  | cons b r=>
   have e:(a::b::r).length-1=((b::r).length-1)+1:=by
    have h1:(a::b::r).length=r.length+2:=rfl;have f:(b::r).length=r.length+1:=rfl
    lia
   rw[e,List.eraseIdx_cons_succ,d]
   all_goals rfl
theorem foldl_rep(its:ba):∀(k:Nat) (acc:ba),
  List.foldl (λx1 x2=>x1++x2) acc.toArray (List.replicate k its.toArray)=(acc++(List.replicate k its).flatten).toArray
 | 0,acc=>by simp
 | k+1,acc=>by
  have e:acc.toArray++its.toArray=(acc++its).toArray:=by simp
  have e2:(acc++its)++(List.replicate k its).flatten=acc++(List.replicate (k+1) its).flatten:=by
   rw[cI,cX,bW]
  rw[<- e2,<- foldl_rep its k (acc++its),<- e,cI,List.foldl_cons]
section
variable {X:Cx}{pins:bo}{σ:St}{H:Hp}{s:aE}{l:aj}{xs ys:List V}
def Inv.RO{its its':ba}{n:Nat}{f:Array aa->Array aa}{t':Nat}(I:Inv X pins σ H s)(J:H l=some (.lst xs))
  (e:s.heap.get? l=some { cls:=.type "list",data:=.seq its.toArray n }) (hf:f its.toArray=its'.toArray) (hv:Vals ys its') (L:ys.length<=sizeLine) :
  Inv X pins σ (upd H l<|.lst ys) { s with heap:=s.heap.update l<|Obj.mapSeq f,toks:=t' }:=by
 have q:=PySem.IsL.update e f;rw[hf]at q;refine I.write (x:=l) (e:=l) (by rw[J];exact trivial) (.inl rfl) (λj u g d=>(cP s.heap (Obj.mapSeq f)<|bP g).trans d) ⟨_,q⟩ ?_;exact⟨L,its',_,hv,q⟩
def Inv.KC{its:ba}{t':Nat}(I:Inv X pins σ H s)(hv:Vals ys its)(j:ys.length<=sizeLine) :
  Inv X pins σ (upd H s.heap.objs.size<|.lst ys) { s with heap:=s.heap.push { cls:=.type "list",data:=.seq its.toArray },toks:=t' }:=
 I.laid (λ_ _ q=>aI _ q) (aO _) ⟨j,its,0,hv,aU _ rfl⟩
def Inv.fresh(I:Inv X pins σ H s):H s.heap.objs.size=none:=I.hok.fresh<|aO _
def Inv.GL(I:Inv X pins σ H s)(j:H l=some (.lst xs)):xs.length<=sizeLine/\∃(its:ba) (n:Nat),Vals xs its/\xs.length=its.length/\s.heap.get? l=some { cls:=.type "list",data:=.seq its.toArray n }:=by
 obtain⟨z,its,n,r,e⟩:=I.hok l _ j;exact⟨z,its,n,r,r.length,e⟩
def Ke{n:Nat}(h:n<=sizeLine):Builtin.List.listTooLong n=false:=by
 unfold Builtin.List.listTooLong;exact bK ()
end
section
variable {X:Cx}
abbrev Mg:V->List V->Hp->VK->Prop:=λx vs H Q=>∃l xs y,x=.ref l/\vs=[y]/\H l=some (.lst xs)/\xs.length<sizeLine/\Q .non (upd H l<|.lst<|xs++[y])
def uB:Up X "list.append" Mg:=by
 intro pins s σ H x vs v us Q I rx g h;obtain⟨l,xs,y,rfl,rfl,f,m,q⟩:=h
 cases rx
 obtain⟨u,rfl,j⟩:=g.one;obtain⟨z,d,n,r,k,e⟩:=I.GL f;refine eW F.slot_list_append ⟨_,e,rfl⟩ F.entry_list_append (F.args_list_append_2 _ _) (PySem.list_append l d.toArray n u<|by rw[aP];lia) ⟨e,?_⟩;refine⟨.non,_,I.RO (its':=d++[u]) f e (by simp) (r.append<|.cons j .nil) ?_,rfl,q⟩;rw[aZ,dj]
 lia
abbrev T9:V->List V->Hp->VK->Prop:=λx vs H Q=>∃l xs y,x=.ref l/\vs=[]/\H l=some (.lst xs)/\xs[xs.length-1]?=some y/\Q y (upd H l<|.lst xs.dropLast)
def QA:Up X "list.pop" T9:=by
 intro pins s σ H x vs v us Q I rx m h;obtain⟨l,xs,y,rfl,rfl,j,hy,q⟩:=h
 cases rx
 have g:=m.zero;subst g;obtain⟨z,d,n,r,B,e⟩:=I.GL j;obtain⟨u,k,p⟩:=r.get hy;have f:d.toArray[d.toArray.size-1]?=some u:=by
  show d.toArray[d.length-1]?=some u;rw[<- fG,<- B];exact k
 refine eW F.slot_list_pop ⟨_,e,rfl⟩ F.entry_list_pop (F.args_list_pop_1 _) (MeetsSeq.list_pop_last l d.toArray n u f<|by rw[aP];lia) ⟨e,?_⟩;refine⟨y,_,I.RO (its':=d.dropLast) j e ?_ r.dropLast ?_,p,q⟩
 ·skip
  rw[aP,List.eraseIdxIfInBounds_toArray,CA]
 ·rw[List.length_dropLast]
  lia
abbrev UQ:R2:=λx y H Q=>∃l b xs zs,x=.ref l/\y=.ref b/\H l=some (.lst xs)/\H b=some (.lst zs)/\xs.length+zs.length<=sizeLine/\∀p,H p=none->Q (.ref p) (upd H p<|.lst<|xs++zs)
def OO:kC X (binaryOp .Add) UQ:=by
 kt_k;obtain⟨l,b,xs,zs,rfl,rfl,m,k,F,q⟩:=h
 cases rx
 cases ry
 obtain⟨z,f,n,r,C,e⟩:=I.GL m;obtain⟨p,d,B,r2,j,e2⟩:=I.GL k;refine PySem.P.add_list e e2 ?_ (by rw[aP,aP];lia);have g:f.toArray++d.toArray=(f++d).toArray:=by simp
 rw[g];exact⟨.ref _,_,I.KC (t':=s.toks) (r.append r2)<|by rw[aZ];lia,rfl,q _ I.fresh⟩
abbrev Ul:R2:=λx y H Q=>∃l k xs,x=.ref l/\y=.int k/\H l=some (.lst xs)/\-(2 ^ 63)<=k/\k<2 ^ 63/\xs.length * k.toNat<=sizeLine /\
 ∀p,H p=none->Q (.ref p) (upd H p<|.lst (List.replicate k.toNat xs).flatten)
def len_rep{α:Type}(xs:List α)(k:Nat):(List.replicate k xs).flatten.length=k * xs.length:=by
 induction k with
 | zero=>simp
 | succ k d=>rw[cI,cX,aZ,d,succ_mul,Nat.add_comm]
def OT:kC X (binaryOp .Mult) Ul:=by
 kt_k;obtain⟨l,k,xs,rfl,rfl,N,h1,K,J,q⟩:=h
 cases rx
 obtain⟨t,rfl⟩:=ry;obtain⟨z,d,n,r,L,e⟩:=I.GL N;have g:d.toArray.size * k.toNat<=sizeLine:=by rw[aP,<- L];exact J
 have B:¬d.toArray.size * k.toNat>(2 ^ 63-1) / 8:=by
  have:(sizeLine:Nat)<=(2 ^ 63-1) / 8:=by decide
  omega
 have j:¬(!Builtin.List.listFitsIndex k)=true:=by
  rw[fitsIndex_both h1 K];exact bh
 have f:¬Builtin.List.listTooLong (d.toArray.size * k.toNat)=true:=by
  rw[Ke g];exact bh
 have p:List.foldl (λG C=>G++C) #[] (List.replicate (if d.toArray.isEmpty=true then 0 else k.toNat) d.toArray)=(List.replicate k.toNat d).flatten.toArray:=by
  have f0:∀m:Nat,List.foldl (λG C=>G++C) #[] (List.replicate m d.toArray)=(List.replicate m d).flatten.toArray:=λm=>by
   have:=foldl_rep d m [];rw[List.nil_append]at this;exact this
  rw[f0]
  cases d with
  | nil=>simp
  | cons a O=>rw[aQ<|by simp]
 refine wpAny_binaryOp_repeat_ref (T := "list") (U := "int") ⋯ ⟨_,e,rfl⟩ (λs'=>typeIs_int s' k t) noFill_list_mul F.fills_int_mul F.slot_int_rmul repeat_list F.slot_int_index.lookup
  (eW F.slot_int_rmul (typeIs_int s k t) F.entry_int_rmul (F.args_int_rmul_2 _ _) (int___rmul___int_list k t l d.toArray n)
   ⟨e,rfl,⟨_,e,rfl⟩,eW F.slot_list_mul ⟨_,e,rfl⟩ F.entry_list_mul (F.args_list_mul_2 _ _) (AutoListH.list___mul___list_int_3 l d.toArray n k t j B f) ⟨e,?_⟩⟩)
 rw[p];exact⟨.ref _,_,I.KC (t':=s.toks) (r.rep k.toNat)<|by rw[len_rep,Nat.mul_comm];exact J,rfl,q _ I.fresh⟩
end
end L2
namespace Att
open PySem PySem.W PySem.Calls PyProof.Rows
def vB{P:Params}:∀(ns:ag) (vs:ba),WellAll P h vs (ns.map WData.int)->IntsAre vs ns:=by
 intro ns
 induction ns with
 | nil=>
  intro vs w;rw[gA]at w
  cases w
  exact .nil
 | cons n ns d=>
  intro vs w;rw[aY]at w
  cases w with
  | cons a b=>
   cases a
   exact .cons _ _<|d _ b
def Gd{l:OpenLaw}{n:Nat}(hn:l.most=some n){P:Params}{h:au}
  (J:l.row.toRowW.claim.pre args=true) (L:WellAll P h vals args) :
  ∃a vs ns,vals=[Value.ref a]/\args=[WData.list<|ns.map WData.int]/\h.get? a=some { cls:=.type "list",data:=.seq vs.toArray }/\IntsAre vs ns/\ns.length<=n:=by
 have m:WShape.hasAll [] args [.list .int]=true:=(pre_splitW J).1;have hc:l.pre.holds [] { args:=args }=true:=(pre_splitW J).2;obtain⟨d,r,rfl,h1,B⟩:=hasAllW_cons m;obtain rfl:=hasAllW_nil B;obtain⟨xs,rfl,C⟩:=hasW_list h1;obtain⟨ns,rfl⟩:=items_int C;have f:ns.length<=n:=by
  unfold OpenLaw.pre at hc;have j:(WTm.not<|.lt (.lit<|.int (n:Int))<|.len<|.arg 0).holds [] { args:=[.list<|ns.map .int]}=true:=by
   have j:=(holds_andW hc).1;rw[hn]at j;exact j
  have k:=condW_of j<|w_not<|w_lt w_lit<|w_len_list<|w_arg rfl;rw[aK]at k;refine Nat.le_of_not_lt λq=>?_;have q':(n:Int)<((ns.length:Nat):Int):=by omega
  first
   | (rw[bF q']at k;exact absurd k ⋯)
   | (simp at k;omega)
 cases L with
 | cons G p=>
  cases p
  cases G with
  | list F g=>exact⟨_,_,ns,rfl,rfl,F,vB ns _ g,f⟩
def Gy(l:OpenLaw)(args:List WData):l.row.toRowW.claim.post args (.bool true) args=true:=
 postW_of (r:=l.row.toRowW) (X:=(true == true))
  (show WShape.has [] (.bool true) .bool=true by first|rfl|decide|simp[WShape.has,WShape.arms,WShape.armsAll])
  (show(WTm.eq .res<|.lit<|.bool true).value [] { args:=args,res:=some<|.bool true,after:=args }=some (.bool<|true == true)from w_eq_bool (w_res rfl) w_lit) rfl
def Bt{l:OpenLaw}{n:Nat}{q:ah}{XP:(Str->bd)->au->Prop}{YP:af->au->Prop}{d:DefRec}
  (hn:l.most=some n) (hdf:d.params.defaults=[])
  (call:∀(w:af) (s₀ s₁:aE) (mg mb:Str->bd) (fa:aj) (o:Obj) (pm cd doc:aa) (a:aj) (vs:ba) (ns:ag),
   Ground q loose [] XP w s₀ mg mb s₁.heap->YP w s₁.heap ->
   s₁.heap.get? fa=some o->o.data=.func (docDef d.name d.params d.body d.scope pm cd doc)->s₁.heap.CodeRec cd d.name->mg d.name=some (.ref fa) ->
   s₁.heap.get? a=some { cls:=.type "list",data:=.seq vs.toArray }->IntsAre vs ns->ns.length<=n->s₁.gens=#[] ->
   codeAny (model l.prog w) callerA (.call (.ref fa) ⟨[.ref a],[]⟩) (λr s'=>r=.ok (.ret<|.bool true)/\OldK s₁.heap s'.heap/\s'.os=s₁.os/\AllBare s'.gens) s₁) :
  WalkO q loose XP YP l.row.toRowW d [] (λf vs=>PySem.call f vs):=by
 intro w s₀ s₁ mg mb G Y fa o pm cd doc dV kV ho hd p K C hg F L as k J T B O;obtain rfl:dV=.none:=Dflts.none K hdf;obtain rfl:kV=.none:=Dflts.noKw K;obtain⟨a,vs,ns,rfl,rfl,m,g,j⟩:=Gd hn k B;refine enter_call<|fj (call w s₀ s₁ mg mb fa o pm cd doc a vs ns G Y ho (fd_plain hd) p C m g j hg) λr s' U=>?_;obtain⟨rfl,N,V,P⟩:=U;exact⟨.inl ⟨.bool true,.bool true,[],rfl,λ_=>rfl,.bool true,Gy l _,λ_=>⟨List.Pairwise.nil,λ_ Z=>(nomatch Z)⟩⟩,N,V,P⟩
end Att
namespace L2
open PySem PySem.Spec PyProof.Rows
theorem t8:∀{vs:ba}{ns:ag},IntsAre vs ns->Vals (ns.map V.int) vs
 | _,_,.nil=>.nil
 | _,_,.cons n t h=>.cons ⟨t,rfl⟩<|t8 h
abbrev MU (H:Hp):Prop:=∀b,H b=none\/∃o xs,H b=some (.frz o<|.lst xs)
def JG{P:ah}{w:af}{K:az}{mg mb:Str->bd}{CX:Kz}{k:Nat}{fa a:aj}{x:Str}{sp:Sp}{s₁:aE}{vs:ba}{ns:ag}
  (KX:K.In s₁.heap) (hns:s₁.heap.Ns mainGlobals mg) (hb:s₁.heap.Ns builtinsNs mb) (hbb:∀x:Str,x ≠ "__name__" -> mb x=bootBuiltins x) (hlim:s₁.heap.NoLimit) (hg:s₁.gens=#[])
  (ha:s₁.heap.get? a=some { cls:=.type "list",data:=.seq vs.toArray }) (hi:IntsAre vs ns) (hl:ns.length<=sizeLine) (hr:Room k callerA)
  (F:∀base:au,K.In base->base.Ns mainGlobals mg->FnOk P w K mg base CX k fa fd [x] sp) (hbind:∀(s:aE) (u:aa),BindsTo s fd ⟨[u],[]⟩ [(x,u)])
  (hsp:∀H:Hp,MU H->mE K H a (ns.map V.int)->sp [.ref a] H (λv _=>v=.bl true) λ_ _ _=>False)
  (hCX:∀H e s',CX [] H s₁ (λ_ _ _=>False) e s'->False) :
  codeAny (model P w) callerA (.call (.ref fa) ⟨[.ref a],[]⟩) (λr s'=>r=.ok (.ret<|.bool true)/\OldK s₁.heap s'.heap/\s'.os=s₁.os/\AllBare s'.gens) s₁:=by
 have Y:=t8 hi;have C:=hi.length;have j:∀H:Hp,MU H->mE K H a (ns.map V.int)->qR P w H s₁.heap->(∀b,H b≠none->b=a)->(H a≠none->K.lookup a=none) ->
   codeAny (model P w) callerA (.call (.ref fa) ⟨[.ref a],[]⟩) (λr s'=>r=.ok (.ret<|.bool true)/\OldK s₁.heap s'.heap/\s'.os=s₁.os/\AllBare s'.gens) s₁:=by
  intro H Z hS G U hK;have f:∀{b:aj} {o:Obj},s₁.heap.get? b=some o->H b=none->(ze s₁.heap H).get? b=some o:=λe n=>IP e n;have N:∀{b:aj} {o:Obj} {es:Array DictEntry} {ep:Nat},s₁.heap.get? b=some o->o.data=.dict es ep->H b=none:=λ{b o es ep} e d=>by
   cases q:H b with
   | none=>rfl
   | some u=>
    have T:b=a:=U b (by rw[q];simp);subst T;rw[ha]at e;cases e;have d':Data.seq vs.toArray _=Data.dict es ep:=d
    cases d'
  have g:∀{b:aj} {m:Str->bd},s₁.heap.Ns b m->(ze s₁.heap H).Ns b m:=λ{b m} ⟨o,es,ep,e,d,r⟩=>⟨o,es,ep,f e<|N e d,d,r⟩;have p:K.In (ze s₁.heap H):=λb o e=>f (KX b o e) (by
   cases q:H b with
   | none=>rfl
   | some u=>
    have T:b=a:=U b (by rw[q];simp);subst T;rw[hK<|by rw[q];simp]at e;cases e)
  have hM:Mod K mg (ze s₁.heap H):=⟨p,g hns,⟨mb,g hb,hbb⟩,let⟨mc,h1,h2⟩:=hlim;⟨mc,g h1,h2⟩⟩;have e0:Env0 P w K mg (ze s₁.heap H) callerA [] s₁ H:=⟨rfl,hM,λb o e=>L3 e,Nat.le_of_eq<|FW _ _,trivial,λb hb=>absurd (show b∈([]:bb)from hb)<|by simp,G,.of_eq hg⟩;refine fj ((F _ p<|g hns).run callerA [] s₁ H ⟨[.ref a],[]⟩ [.ref a] [.ref a] _ _ hr e0 (hbind s₁<|.ref a) (.cons rfl .nil)<|hsp H Z hS) λr s' h=>?_
  cases r with
  | error e=>exact(hCX H e s' h).elim
  | ok fl=>
   cases fl with
   | next=>exact False.elim h
   | brk=>exact False.elim h
   | cont=>exact False.elim h
   | ret u=>
    obtain⟨v,H',os,L,un,B,r',q⟩:=h;have q':v=.bl true:=q;subst q';obtain rfl:u=Value.bool true:=r';refine⟨rfl,OldK.of_keep λb o e=>?_,os,L⟩
    cases q:H b with
    | none=>exact un.keep b o e q (by intro z;exact absurd (show b∈([]:bb)from z)<|by simp) (by simp)
    | some u=>
     rcases Z b with z|⟨ob,xs,z⟩
     ·rw[q]at z;cases z
     ·have z2:=un.frzs b ob _ z;obtain⟨e1,_⟩:=G b _ z;obtain⟨e2,_⟩:=B b _ z2;rw[e]at e1;cases e1;exact e2
 cases O:K.lookup a with
 | some o=>
  have e:=KX a o O;rw[ha]at e
  cases e
  refine j (λ_=>none) (λ_=>.inl rfl) (.inr ⟨_,vs.toArray,_,O,rfl,rfl,rfl,by rw[aP,C];exact hl,by simpa using Y⟩) (λb u z=>by have J:(none:Option HO)=some u:=z;cases J) (λb z=>absurd rfl z) λz=>absurd rfl z
 | none=>
  refine j (λb=>if b=a then some (.frz { cls:=.type "list",data:=.seq vs.toArray } (.lst<|ns.map V.int))else none) (λb=>?_) (.inl<|.inr ⟨{ cls:=.type "list",data:=.seq vs.toArray },aT rfl⟩) (λb u z=>?_) (λb z=>?_) λ_=>O
  ·by_cases hb:b=a
   ·exact .inr ⟨_,_,aT hb⟩
   ·exact .inl<|aQ hb
  ·by_cases hb:b=a
   ·have J:=(aT hb).symm.trans z
    cases J
    subst hb;exact⟨ha,by rw[aK];exact hl,vs,_,Y,ha⟩
   ·have J:=(aQ hb).symm.trans z
    cases J
  ·by_cases hb:b=a
   ·exact hb
   ·exact absurd (aQ hb) z
def Nk{l:PySem.W.OpenLaw}{n k:Nat}{q:ah}{XP:(Str->bd)->au->Prop}{YP:af->au->Prop}{d:DefRec}{K:Params->az}{CX:af->Kz}{sp:af->Sp}{x:Str}
  (hn:l.most=some n) (hn2:n<=sizeLine) (hdf:d.params.defaults=[]) (hr:Room k callerA)
  (hY:∀(w:af) (h:au),YP w h->(K w.params).In h)
  (F:∀(w:af) (mg:Str->bd) (fa:aj) (h:au),(K w.params).In h->h.Ns mainGlobals mg->mg d.name=some (.ref fa) ->
   ∃fd:FuncData,(∀(s:aE) (u:aa),BindsTo s fd ⟨[u],[]⟩ [(x,u)]) /\
    ∀base:au,(K w.params).In base->base.Ns mainGlobals mg->FnOk l.prog w (K w.params) mg base (CX w) k fa fd [x] (sp w))
  (hsp:∀(w:af) (H:Hp) (a:aj) (ns:ag),ns.length<=n->MU H->mE (K w.params) H a (ns.map V.int)->sp w [.ref a] H (λv _=>v=.bl true) λ_ _ _=>False)
  (hCX:∀(w:af) (H:Hp) (s:aE) (e:aa) (s':aE),CX w [] H s (λ_ _ _=>False) e s'->False) :
  PySem.W.WalkO q loose XP YP l.row.toRowW d [] (λf vs=>PySem.call f vs):=by
 refine Att.Bt hn hdf λw J p mg mb fa o pm cd doc a vs ns G Y ho hd N C B m j hg=>?_;have L:=hY w _ Y;obtain⟨fd,P,O⟩:=F w mg fa _ L G.T.g C;exact JG L G.T.g G.T.b G.T.builtins G.T.nolimit hg B m (bN j hn2) hr O P (λH U Z=>hsp w H a ns j U Z) λH e s'=>hCX w H p e s'
abbrev mO (s:aG):Arguments:=match s with
 | .FunctionDef _ a _ _ _ _ _ _ _ _=>a
 | _=>{ posonlyargs:=[],args:=[],vararg:=none,kwonlyargs:=[],kw_defaults:=[],kwarg:=none,defaults:=[]}
abbrev j5 (s:aG):List aG:=match s with
 | .FunctionDef _ _ b _ _ _ _ _ _ _=>b
 | _=>[]
abbrev g7 (s:aG):Scope:=match s with
 | .FunctionDef _ _ _ _ _ _ d _ _ _=>d
 | _=>{ kind:=.function,names:=[],isGenerator:=false,isCoroutine:=false }
meta abbrev rz:Kz:=λ_ _ _ _ _ _=>False
meta abbrev E0:XK:=λ_ _ _=>False
def NG:Passes rz X E0:=λ_ _ _ _ _ _ _ h=>h.elim
structure Fun (K:az)(x qual:Str)(st:aG)(f:aj)(fd:FuncData):Prop where
 ex:∃(oc:aa) (od:Option aj) (kV doc pm:aa) (an:Option aj) (cdv ct:aa) (osl:Array<|bd),
  fd=PySem.W.fnOf x qual (mO st) (j5 st) (g7 st) .none kV doc pm an cdv ct/\K.lookup f=some ⟨oc,od,.func fd,osl⟩/\PySem.W.codeIn K cdv qual=true
 kp:PySem.W.keepIn K (.ref f)=true
section
variable {P:ah}{w:af}{K:az}{mg:Str->bd}{base:au}
def Fun.ok{x:Str}{st:aG}{f:aj}{N ps:ar}{k:Nat}{sp:Sp}(F:Fun K x qual st f fd)(S:FnScope N ps<|g7 st)(len:∀vs H Q E,sp vs H Q E->vs.length=ps.length)
  (J:∀(cdv:aa) (A:aA) (outer:List Env) (s:aE) (H:Hp) (vs:List V) (Q:VK) (E:XK),Room k (A.deeper<|envOfC qual (g7 st) s.heap.objs.size f cdv)->sp vs H Q E ->
   ∃t,yD (vt rz P w K mg base N qual (g7 st) f cdv A outer s H E).Sz (j5 st) t/\t { nx:=λ_ H'=>Q .non H',rt:=Q } (start N vs) H):FnOk P w K mg base rz (k+1) f fd ps sp:=by
 obtain⟨oc,od,kV,doc,pm,an,cdv,ct,osl,rfl,m,d⟩:=F.ex;refine Ov m d S len λA outer s H vs Q E j g=>?_;obtain⟨t,h,q⟩:=J cdv A outer s H vs Q E j g;exact⟨t,h.Sz,q⟩
def Fun.binds{x:Str}{st:aG}{f:aj}{ps:ar}(F:Fun K x qual st f fd)
  (h:∀(kV doc pm:aa) (an:Option aj) (cdv ct:aa) (us:ba),us.length=ps.length->bindArgs (PySem.W.fnOf x qual (mO st) (j5 st) (g7 st) .none kV doc pm an cdv ct) ⟨us,[]⟩=pure (ps.zip us)):Binds K fd ps []:=by
 obtain⟨oc,od,kV,doc,pm,an,cdv,ct,osl,rfl,g,d⟩:=F.ex;exact .all<|h kV doc pm an cdv ct
def CD{x:Str}{st:aG}{f:aj}{od:Option aj}{kV ct:aa}(l:K.lookup f=some ⟨oc,od,.func<|PySem.W.fnOf x qual (mO st) (j5 st) (g7 st) .none kV doc pm an cdv ct,osl⟩)
  (c:PySem.W.codeIn K cdv qual=true) (k:PySem.W.keepIn K (.ref f)=true):Fun K x qual st f (PySem.W.fnOf x qual (mO st) (j5 st) (g7 st) .none kV doc pm an cdv ct):=⟨⟨oc,od,kV,doc,pm,an,cdv,ct,osl,rfl,l,c⟩,k⟩
end
set_option maxHeartbeats 4000000
abbrev P8 (σ:St):bj->Option V
 | some j=>(σ[j]?).getD none
 | none=>none
abbrev oz (env:Env):List (Str×NameKind)->List (Str×aj)->List (Str×aj)
 | [],cs=>cs
 | (n,k)::r,cs=>oz env r (if k == .free then(n,(env.cells.lookup n).getD 0)::cs else cs)
def xq{scope:Scope}{env:Env}(h:∀y∈scope.names,y.2=.free->∃c,env.cells.lookup y.1=some c):closureFor scope env=pure (oz env scope.names []):=by
 have d:∀(l:List<|Str×NameKind) (cs:List<|Str×aj),(∀y∈l,y.2=.free->∃c,env.cells.lookup y.1=some c) ->
   (forIn l cs (λ(x:Str×NameKind) (r:List<|Str×aj)=>(match x with
    | (name,kind)=>if (kind == NameKind.free)=true then(do let c <- cellOf env name;pure (ForInStep.yield ((name,c)::r)))else pure (ForInStep.yield r):Sem<|ForInStep<|List<|Str×aj)))=(pure (oz env l cs):Sem<|List<|Str×aj):=by
  intro l
  induction l with
  | nil=>intro cs _;rfl
  | cons y r m=>
   intro cs f;obtain⟨n,k⟩:=y;rw[List.forIn_cons];by_cases p:k=.free
   ·subst p;obtain⟨c,hc⟩:=f (n,.free) bw rfl;have e1:cellOf env n=pure c:=by
     unfold cellOf;rw[hc]
    dsimp[cB,dD,e1,pure_bind];rw[m _ λz g=>f z<|bf _ g];dsimp[oz,cB,dD,hc,cS]
   ·have j:(k == NameKind.free)=false:=by simpa using p
    dsimp[j,f_,eN,pure_bind];rw[m _ λz g=>f z<|bf _ g];dsimp[oz,j,f_,eN]
 have:=d scope.names [] h;exact(cW (λz=>z >>= λcs=>(pure cs:Sem<|List<|Str×aj)) this).trans (pure_bind _ _)
theorem xr:∀{l:List<|Str×NameKind}{x:Str}{k:NameKind},l.lookup x=some k->(x,k)∈l
 | [],_,_,h=>nomatch h
 | (n,k')::r,x,k,h=>by
  rw[cC]at h
  cases d:x == n with
  | true=>
   rw[d]at h;have e:x=n:=by simpa using d
   subst e
   cases h
   exact bw
  | false=>rw[d]at h;exact bf _<|xr h
theorem yx{env:Env}{x:Str}{c:aj}:∀{l:List<|Str×NameKind}{cs:List<|Str×aj},(∀y∈l,y.2=.free->∃c,env.cells.lookup y.1=some c)->(oz env l cs).lookup x=some c->env.cells.lookup x=some c\/cs.lookup x=some c
 | [],cs,_,h=>.inr h
 | (n,k)::r,cs,hl,h=>by
  have h':=yx (l:=r) (λz j=>hl z<|bf _ j) h
  rcases h' with h'|h'
  ·exact .inl h'
  ·by_cases f:k=.free
   ·subst f;dsimp[cB,dD]at h';obtain⟨m,hc⟩:=hl (n,.free) bw rfl;rw[hc,cS,cC]at h'
    cases d:x == n with
    | true=>
     rw[d]at h';have e:x=n:=by simpa using d
     subst e;left;rw[hc];exact h'
    | false=>rw[d]at h';exact .inr h'
   ·have g:(k == NameKind.free)=false:=by simpa using f
    dsimp[g,f_,eN]at h';exact .inr h'
theorem yc{env:Env}{x:Str}:∀{l:List<|Str×NameKind}{cs:List<|Str×aj},(cs.lookup x).isSome=true->((oz env l cs).lookup x).isSome=true
 | [],cs,h=>h
 | (n,k)::r,cs,h=>by
  skip
  refine yc (l:=r) ?_;by_cases d:(k == NameKind.free)=true
  ·rw[aT d,cC]
   cases f:x == n with
   | true=>rfl
   | false=>exact h
  ·rw[aQ d];exact h
theorem vV{env:Env}{x:Str}:∀{l:List<|Str×NameKind}{cs:List<|Str×aj},(x,NameKind.free)∈l->((oz env l cs).lookup x).isSome=true
 | [],_,h=>nomatch h
 | (n,k)::r,cs,h=>by
  rcases bG.mp h with e|h
  ·cases e
   skip
   refine yc (l:=r) ?_;rw[aT<|by rfl,cC];simp
  ·exact vV (l:=r) h
theorem rV:∀(names:List<|Str×NameKind) (n:Nat) (acc:List<|Str×aj),cellsFrom n names acc=cellsFrom n names []++acc
 | [],_,_=>rfl
 | (x,k)::r,n,acc=>by
  unfold cellsFrom;split
  ·rw[rV r (n+1) ((x,n)::acc),rV r (n+1) [(x,n)],bW];rfl
  ·exact rV r n acc
theorem CH:∀(names:List<|Str×NameKind) (n:Nat) {x:Str}{c:aj},(x,c)∈cellsFrom n names []->(x,NameKind.cell)∈names
 | [],_,_,_,h=>nomatch h
 | (y,k)::r,n,x,c,h=>by
  unfold cellsFrom at h;split at h
  ·rename_i d;rw[rV]at h
   rcases bQ.mp h with z|z
   ·exact bf _ (CH r _ z)
   ·rw[bB]at z
    cases z
    have:k=.cell:=by simpa using d
    rw[this];exact bw
  ·exact bf _<|CH r _ h
theorem sX{α:Type}{x:Str}:∀{l m:List<|Str×α},(l++m).lookup x=match l.lookup x with|some c=>some c|none=>m.lookup x
 | [],_=>rfl
 | (y,c)::l,m=>by
  rw[gx,cC,cC]
  cases x == y with
  | true=>rfl
  | false=>exact sX
def MK{n:Nat}{acc:List<|Str×aj}{x:Str}{c:aj}(h:(cellsFrom n names acc).lookup x=some c):(cellsFrom n names []).lookup x=some c\/((cellsFrom n names []).lookup x=none/\acc.lookup x=some c):=by
 rw[rV,sX]at h
 cases e:(cellsFrom n names []).lookup x with
 | some d=>rw[e]at h;exact .inl h
 | none=>rw[e]at h;exact .inr ⟨rfl,h⟩
def OH{n:Nat}{acc:List<|Str×aj}{x:Str}(h:(x,NameKind.cell)∉names):(cellsFrom n names acc).lookup x=acc.lookup x:=by
 rw[rV,sX]
 cases e:(cellsFrom n names []).lookup x with
 | some d=>exact absurd (CH names n<|b8 e) h
 | none=>rfl
def C7{A:aA}{E:aa->aE->Prop}{s:aE}{scope:Scope}{j:aj}{cl:List<|Str×aj}{env:Env}{Q:Env->aE->Prop}
  (J:∀h':au,h'.Ns s.heap.objs.size (λ_=>none)->(∀b o,s.heap.get? b=some o->h'.get? b=some o)->CellsOk h' (s.heap.objs.size+1) (cellsFrom (s.heap.objs.size+1) scope.names []) ->
   Q (newEnv scope s.heap.objs.size j (cellsFrom (s.heap.objs.size+1) scope.names cl) qual none .none (some env) builtinsNs) { s with heap:=h',toks:=s.toks+([]:List<|Str×aa).length }) :
  wpAny M A (newFunctionEnv scope j cl [] qual none .none<|some env) Q E s:=by
 dsimp[newFunctionEnv,gb,dD];refine aH<|wpAny_alloc ?_;refine aH (wpAny_layCells _ (λname kind cells=>by cases d:kind == NameKind.cell<;>simp[d]) _ _ _ _ ?_);have ok:=cellsFrom_ok scope.names (s.heap.push { cls:=.type "dict",data:=.dict #[]}) (s.heap.objs.size+1) [] ⟨λ_ _ f=>(nomatch f),List.Pairwise.nil⟩ (by rw[cH];exact aO _);rw[cH]at ok;rw[show({ s with heap:=s.heap.push { cls:=.type "dict",data:=.dict #[]}}:aE).heap.objs.size=s.heap.objs.size+1 from cH ..];rw[List.forIn_nil];refine aH<|aL<|aL ?_;exact J _ ((Heap.Ns.new s.heap<|.type "dict").keeps<|pushCells_keeps _ _) (λb o e=>pushCells_keeps _ _ b o<|aI _ e) ok
abbrev jo (X:Cx)(scope:Scope)(N:ar)(C:aj)(s₀:aE)(H₀:Hp)(ex:bb):Cx where
 prog:=X.prog
 w:=X.w
 K:=X.K
 mg:=X.mg
 base:=X.base
 A:=X.A
 N:=N
 s₀:=s₀
 H₀:=H₀
 env:=compEnvC scope (cellsFrom (C+1) scope.names<|oz X.env scope.names []) C X.env
 outer:=X.stack
 stack:=X.stack
 ex:=ex
 fn:=λx=>scope.names.lookup x == some .cell
 calm:=X.calm
 pn:=[]
 xe:=λ_ _=>False
structure CpScope (X:Cx)(scope:Scope)(N:ar)(cap:List (bj)):Prop where
 kind:scope.kind=.function
 nocf:∀x,(x,NameKind.free)∈scope.names->(x,NameKind.cell)∉scope.names
 nm:∀y∈scope.names,y.2=.local->scope.names.lookup y.1=some .local
 fr:∀y∈scope.names,y.2=.free->X.env.kindOf y.1=some .cell\/X.env.kindOf y.1=some .free
 rl:∀y,((relabel scope X.env).names.lookup y=some .cell\/(relabel scope X.env).names.lookup y=some .free)->(y,NameKind.free)∈scope.names\/scope.names.lookup y=some .cell
 len:cap.length=N.length
 nolf:∀x,(x,NameKind.free)∈scope.names->scope.names.lookup x≠some .local
 cp:∀(i j:Nat) (x:Str),N[i]?=some x->cap[i]?=some (some j)->X.N[j]?=some x/\(x,NameKind.free)∈scope.names
def JW{scope:Scope}{N:ar}{cap:List<|bj}{H:Hp}{s:aE}{fp:bb}{h₁:au}{m:Str->bd}{tk:Nat}(S:CpScope X scope N cap)(I:Inv X pins σ H s)
  (hf:∀b∈fp,oR X pins H b) (ho:∀b∈fp,∃o,s.heap.get? b=some o) (hn:h₁.Ns s.heap.objs.size m) (hC:CellsOk h₁ (s.heap.objs.size+1)<|cellsFrom (s.heap.objs.size+1) scope.names []) (hk:∀b o,s.heap.get? b=some o->h₁.get? b=some o) :
  Inv (jo X scope N s.heap.objs.size s H fp) [] (cap.map<|P8 σ) H { s with heap:=h₁,toks:=tk }:=by
 kpf_c;have lk:∀x c,(oz X.env scope.names []).lookup x=some c->X.env.cells.lookup x=some c:=λx c e=>by
  rcases yx hfree e with z|z
  ·exact z
  ·cases z
 have f:∀x c,(cellsFrom (s.heap.objs.size+1) scope.names<|oz X.env scope.names []).lookup x=some c->((x,c)∈cellsFrom (s.heap.objs.size+1) scope.names []/\h₁.IsCell c none/\s.heap.objs.size+1<=c)\/X.env.cells.lookup x=some c:=λx c e=>by
  rcases MK e with z|z
  ·exact .inl ⟨b8 z,hC.empty x c<|b8 z⟩
  ·exact .inr<|lk x c z.2
 have L:∀x c,X.env.cells.lookup x=some c->c<s.heap.objs.size:=λx c e=>by
  obtain⟨v,z⟩:=I.cell x c e;exact z.lt
 have lt:∀b o,s.heap.get? b=some o->b≠s.heap.objs.size:=λb o e=>br<|aS e;refine⟨⟨I.ok.mod,?_,I.ok.glob,I.ok.blt,aO _,?_,?_,?_,I.ok.hd,I.ok.frames,.inl rfl,?_,I.bs,bN I.ok.bsz I.sz,?_,?_,I.stack,I.q_⟩,rfl,I.bare,Un.kept hk,?_,?_,I.hok.fresh<|aO _,?_,?_,I.hok.kept hk,?_⟩
 ·exact S.kind
 ·intro x y c e1 e2
  rcases f x c e1 with a|a
  ·rcases f y c e2 with b|b
   ·exact name_of_addr hC.apart a.1 b.1
   ·exact absurd (L y c b)<|not_lt.mpr<|eg a.2.2
  ·rcases f y c e2 with b|b
   ·exact absurd (L x c a) (not_lt.mpr<|eg b.2.2)
   ·exact I.ok.inj x y c a b
 ·intro x e;refine bY.mp (dP _ _ _ ?_)
  rcases S.rl x e with C|C
  ·exact .inr (vV (env:=X.env) (cs:=[]) C)
  ·exact .inl C
 ·intro x c e K;have e:scope.names.lookup x=some .cell:=by
   have e:(scope.names.lookup x == some .cell)=true:=e;simpa using e
  obtain⟨d,hd⟩:=bY.mp<|dP scope.names (s.heap.objs.size+1) []<|.inl e;have K:(cellsFrom (s.heap.objs.size+1) scope.names<|oz X.env scope.names []).lookup x=some c:=K;rw[rV,sX,hd]at K
  cases K
  exact eg (hC.empty x c<|b8 hd).2
 ·intro b J;obtain⟨o,e⟩:=ho b J;refine⟨lt b o e,λx c e2=>?_⟩
  rcases f x c e2 with z|z
  ·exact ez (Nat.lt_trans (aS e) z.2.2)
  ·exact(hf b J).2.2.2.2.1 x c z
 ·intro b o e J;obtain⟨_,_,_,h3,_⟩:=hf b J
  rcases h3 with z|z
  ·exact I.ok.noex b o e z
  ·exact absurd (bu (aS (I.ok.bs b o e).1) z)<|c6 _
 ·intro b J hz;obtain⟨_,h1,U,_⟩:=hf b J
  rcases bG.mp (I.ux b hz)with z|z
  ·exact h1 z
  ·exact U z
 ·refine⟨m,hn,λi x v e1 e2 e3=>?_⟩;rw[bE]at e2
  cases hc:cap[i]? with
  | none=>rw[hc]at e2;cases e2
  | some oj=>
   rw[hc]at e2
   cases oj with
   | none=>cases e2
   | some j=>
    have g:(σ[j]?).getD none=some v:=aR e2;obtain⟨hj,C⟩:=S.cp i j x e1 hc;obtain⟨m0,hn0,hl0⟩:=I.loc;have V:σ[j]?=some (some v):=by
     cases h:σ[j]? with
     | none=>rw[h]at g;cases g
     | some z=>rw[h,cS]at g;rw[g]
    have T:=S.fr (x,.free) C rfl;have hv:TN X.env.scope x:=.inr T;obtain⟨u,ru,lo⟩:=hl0 j x v hj V hv;refine⟨u,ru,?_⟩
    rcases lo with⟨lo,_⟩|⟨_,c,K,ic⟩
    ·rcases T with z|z<;>(rw[z]at lo;cases lo)
    ·have U:=vV (env:=X.env) (cs:=[]) C;obtain⟨Z,F⟩:=bY.mp U;have:Z=c:=aR<|(lk x Z F).symm.trans K;subst this;refine .inr ⟨?_,Z,(OH<|S.nocf x C).trans F,?_⟩
     ·rcases e3 with z|z|z
      ·exfalso;have:(relabel scope X.env).names.lookup x=some .local:=z;have O:scope.names.lookup x=some .local:=by
        have P:∃k,(x,k)∈(relabel scope X.env).names/\k=.local:=by
         clear F U;have:=xr this;exact⟨_,this,rfl⟩
        obtain⟨k,Y,rfl⟩:=P;obtain⟨⟨n',k'⟩,hm1,B⟩:=bJ.mp Y;dsimp only at B;split at B
        ·cases B
        ·cases B
         exact S.nm (x,.local) hm1 rfl
       exact False.elim<|S.nolf x C O
      ·exact .inl z
      ·exact .inr z
     ·obtain⟨o,G,hd⟩:=ic;exact⟨o,hk _ _ G,hd⟩
 ·intro x c e
  rcases f x c e with z|z
  ·exact⟨_,z.2.1⟩
  ·obtain⟨v,o,G,hd⟩:=I.cell x c z;exact⟨v,o,hk _ _ G,hd⟩
 ·intro x c e
  rcases f x c e with z|z
  ·exact I.hok.fresh (eg z.2.2)
  ·exact I.freeC x c z
 ·intro p hp
  cases hp
 ·rw[aK,S.len];rfl
abbrev Np (X:Cx)(ifs:List aF)(t:TT):Prop:=
 ∀(pins:bo) (s:aE) (σ:St) (H:Hp) (Q:Bool->Hp->Prop),Inv X pins σ H s->t σ H Q ->
  wpAny (model X.prog X.w) X.A (forIn ifs true λc r=>if r=true then do let ok <- isTrue c X.env (eval c X.env);pure (ForInStep.yield ok)else pure (ForInStep.yield r)) (TP X pins σ Q) X.xe s
abbrev T_:TT:=λ_ H Q=>Q true H
def MQ:Np X [] T_:=λ_ _ _ H _ I h=>wpAny_tests_nil ⟨H,I,h⟩
abbrev QK (cap:List<|bj)(g:TG)(tc:TT)(te:TE)(σ:St)(Q:VK)(J:It)(H1:Hp):Prop:=∀D,H1 D=none ->
 ∃W:Nat->Nat->St->Hp->Prop,(∃m,W 0 m (cap.map<|P8 σ)<|upd H1 D<|.lst [])/\∀i m f H',W i m f H' ->
  (J.stop i H'/\Q (.ref D) H')\/(J.go i H'/\∀x H2,J.yld i H' x H2->g x f H2 λd H3=>tc d H3 λb k=>
   if b=true then te d k λy p=>∃ys,p D=some (.lst ys)/\ys.length<sizeLine/\∃j,j<m/\W (i+1) j d (upd p D<|.lst<|ys++[y])
   else ∃j,j<m/\W (i+1) j d k)
abbrev Of (cap:List<|bj)(j:TI)(g:TG)(tc:TT)(te:TE):TE:=λσ H Q=>j σ H<|QK cap g tc te σ Q
def Cn{α:Type}{t:Sem α}{Q Q':α->aE->Prop}{A:aA}{E:aa->aE->Prop}(h:wpAny M A t Q (λ_ _=>False) s)(j:∀a s,Q a s->Q' a s):wpAny M A t Q' E s:=
 b_ h j λ_ _ f=>f.elim
structure TurnG (ok:Cx->Prop)(P:ah)(w:af)(K:az)(tg:aF)(J:It)(fp:bb)(it:aj)(tn:Nat->au->Prop):Prop where
 obj:∀i h,tn i h->∀b∈fp,∃o,h.get? b=some o/\∀v,o.data≠.cell v
 keep:∀i h h',tn i h->(∀b∈fp,∀o,h.get? b=some o->h'.get? b=some o)->tn i h'
 item:∀(X:Cx),X.prog=P->X.w=w->X.K=K->ok X->∀(i:Nat) (pins:bo) (s:aE) (σ:St) (H:Hp) (E:aa->aE->Prop),Inv X pins σ H s->(∀b∈fp,oR X pins H b)->tn i s.heap->J.go i H ->
  wpAny (model P w) X.A (pyNext<|.ref it) (λr s1=>∃u,r=some u /\
   wpAny (model P w) X.A (letOwnedTupleGo tg (.ref it) u) (λ_ s2=>∃x H',Inv X pins σ H' s2/\RelV x u/\J.yld i H x H'/\tn (i+1) s2.heap/\∀b∈fp,H' b=none) E s1) E s
 done:∀(X:Cx),X.prog=P->X.w=w->X.K=K->ok X->∀(i:Nat) (pins:bo) (s:aE) (σ:St) (H:Hp) (E:aa->aE->Prop),Inv X pins σ H s->(∀b∈fp,oR X pins H b)->tn i s.heap->J.stop i H ->
  wpAny (model P w) X.A (pyNext<|.ref it) (λr s1=>r=none/\Inv X pins σ H s1) E s
 self:∀(A:aA) (i:Nat) (s:aE) (Q:aa->aE->Prop) (E:aa->aE->Prop),tn i s.heap->Q (.ref it) s->wpAny (model P w) A (pyIter<|.ref it) Q E s
abbrev UD (ok:Cx->Prop)(X:Cx)(pins:bo)(σ:St)(tg:aF)(R:It->Hp->Prop)(j:aa)(s2:aE):Prop:=
 ∃(it:aj) (fp:bb) (d:Nat->au->Prop) (J:It) (H':Hp),j=.ref it/\Inv X pins σ H' s2/\TurnG ok X.prog X.w X.K tg J fp it d/\d 0 s2.heap/\(∀b∈fp,oR X pins H' b)/\R J H'
abbrev U3 (ok:Cx->Prop)(X:Cx)(tg iter:aF)(j:TI):Prop:=
 ∀(pins:bo) (s:aE) (σ:St) (H:Hp) (R:It->Hp->Prop),Inv X pins σ H s->j σ H R ->
  wpAny (model X.prog X.w) X.A (eval iter X.env) (λv d=>wpAny (model X.prog X.w) X.A (pyIter v) (UD ok X pins σ tg R) X.xe d) X.xe s
def PI.g{iter:aF}{L:TI}(h:PI X tg iter L):U3 (λY=>Y.calm=true) X tg iter L:=λpins s σ H R I q=>
 jz (h pins s σ H R I q) λv k h1=>jz h1 λj s2 ⟨it,fp,d,J,H',e,f,T,a,b,c⟩=>⟨it,fp,d,J,H',e,f,⟨T.obj,T.keep,T.item,T.done,T.self⟩,a,b,c⟩
def LW{ok:Cx->Prop}{X:Cx}{use:Option<|aa->Sem Unit}{Q':aa->aE->Prop}{iter:aF}{N:ar}{wi:TI}{g:TG}{tc:TT}{te:TE}(S:CpScope X scope N cap)(hok:∀C s₀ H₀ ex,(∀a o u,X.H₀ a=some (.frz o u)->H₀ a=some (.frz o u))->ok (jo X scope N C s₀ H₀ ex))(hi:U3 ok X tg iter wi)
  (hg:∀C s₀ H₀ ex,PG (jo X scope N C s₀ H₀ ex) tg g) (ht:∀C s₀ H₀ ex,Np (jo X scope N C s₀ H₀ ex) ifs tc) (he:∀C s₀ H₀ ex,PE (jo X scope N C s₀ H₀ ex) elt te)
  (hs:(∀x,foldedSetIterable iter X.env x=pure x)<|>ζ):∀(pins:bo) (s:aE) (σ:St) (H:Hp) (Q:VK),Inv X pins σ H s->Of cap wi g tc te σ H Q ->
  (∀(s6:aE) (C D:aj) (H5:Hp) (m:Str->bd),s6.heap.Ns C m->oR X pins H5 C->(∀h',Heap.SameBut C s6.heap h'->Inv X pins σ H5 { s6 with heap:=h' })->Q (.ref D) H5->∀v,compPost (model X.prog X.w) X.A X.xe use Q' (.ref D) C (.ok v) s6) ->
  wpAny (model X.prog X.w) X.A (comprehension (.ListComp elt [⟨tg,iter,ifs,0⟩] scope pos) scope X.env (firstIterPos [⟨tg,iter,ifs,0⟩] pos) (newList []) (firstAsync [⟨tg,iter,ifs,0⟩]) (firstIter [⟨tg,iter,ifs,0⟩] X.env) use) Q' X.xe s:=by
 intro pins s σ H Q I h hfin;kpf_c;refine wpAny_comprehension_free (use:=use) rfl hs (xq hfree) S.kind S.nm<|jz (hi pins s σ H _ I h) λxv s1 h1=>jz h1 λitv s2 h2=>?_;obtain⟨it,fp,tn,J,H2,rfl,I2,T,st2,f2,h2⟩:=h2;refine bA<|C7 λU B old k=>?_;obtain⟨W,⟨m0,w0⟩,turn⟩:=h2 s2.heap.objs.size I2.fresh;dsimp only at B old k ⊢;have I3:Inv X pins σ (upd H2 s2.heap.objs.size<|.lst []) { s2 with heap:=s2.heap.push {}}:=I2.KC (t':=s2.toks) (its:=[]) .nil<|eZ _;have hfp:∀b∈fp,∃o,s2.heap.get? b=some o:=λb f=>by
  obtain⟨o,e,_⟩:=T.obj 0 _ st2 b f;exact⟨o,e⟩
 have neD:∀b∈fp,b≠s2.heap.objs.size:=λb f=>by
  obtain⟨o,e⟩:=hfp b f;exact br<|aS e
 have f3:∀b∈fp,oR X pins (upd H2 s2.heap.objs.size<|.lst []) b:=λb f=>⟨by rw[gV<|neD b f];exact(f2 b f).1,(f2 b f).2⟩;have hDC:s2.heap.objs.size≠(s2.heap.push {}).objs.size:=by rw[cH];exact br (ck _)
 have I4:=JW (tk:=s2.toks+([]:List<|Str×aa).length) (fp:=fp) S I3 f3 (λb f=>by
  obtain⟨o,e⟩:=hfp b f;exact⟨o,aI _ e⟩) B k old
 have st4:tn 0 U:=T.keep _ _ _ st2 λb f o e=>old b o<|aI _ e;have hc:=hok (s2.heap.push {}).objs.size { s2 with heap:=s2.heap.push {}} (upd H2 s2.heap.objs.size<|.lst []) fp λa o u e=>by
  have z:=I2.base.frzs a o u e;rw[gV λq=>by rw[q,I2.fresh]at z;cases z];exact z
 have O:∀{H':Hp},(∀b∈fp,H' b=none)->∀b∈fp,oR (jo X scope N (s2.heap.push {}).objs.size { s2 with heap:=s2.heap.push {}} (upd H2 s2.heap.objs.size<|.lst []) fp) [] H' b:=λhn b f=>by
  have ok:=I4.ok;refine⟨hn b f,(ok.exf b f).1,ok.exfs b f,.inl f,λx c e=>(ok.exf b f).2 x c e,λp hp=>nomatch hp⟩
 have V:∀s4:aE,s4={ s2 with heap:=U,toks:=s2.toks+([]:List<|Str×aa).length } ->
   codeAny (model X.prog X.w) X.A (.compLoop (.ListComp elt [⟨tg,iter,ifs,0⟩] scope pos) 0 (.ref it) (.ref s2.heap.objs.size)<|compEnvC scope (cellsFrom ((s2.heap.push {}).objs.size+1) scope.names<|oz X.env scope.names []) (s2.heap.push {}).objs.size X.env)
    (compPost (model X.prog X.w) X.A X.xe use Q' (.ref s2.heap.objs.size) (s2.heap.push {}).objs.size) s4:=by
  rintro s4 rfl;refine codeAny_loop rfl (λn s'=>∃i K H',Inv (jo X scope N (s2.heap.push {}).objs.size { s2 with heap:=s2.heap.push {}} (upd H2 s2.heap.objs.size<|.lst []) fp) [] K H' s'/\tn i s'.heap/\(∀b∈fp,H' b=none)/\W i n K H') (λn s5 hI=>?_) m0 ⟨0,_,_,I4,st4,λb f=>(f3 b f).1,w0⟩;obtain⟨i,P,H5,I5,st5,fr5,w5⟩:=hI;show wpAny _ X.A ((compTurn (.ListComp elt [⟨tg,iter,ifs,0⟩] scope pos) 0 (.ref it) (.ref s2.heap.objs.size)<|compEnvC scope (cellsFrom ((s2.heap.push {}).objs.size+1) scope.names<|oz X.env scope.names []) (s2.heap.push {}).objs.size X.env).onRaise λx=>do noteFrame x _;theTreesLotGoes x) _ _ s5;refine wpAny_noted ?_;rw[compTurn_list];refine aH (fL<|aH ?_)
  rcases turn i n P H5 w5 with⟨stop,q⟩|⟨go,step⟩
  ·refine jz (T.done (jo X scope N (s2.heap.push {}).objs.size { s2 with heap:=s2.heap.push {}} (upd H2 s2.heap.objs.size<|.lst []) fp) rfl rfl rfl hc i [] s5 P H5 _ I5 (O fr5) st5 stop) λr s6 h9=>?_;obtain⟨hr,Y⟩:=h9;subst hr;obtain⟨m6,hn6,_⟩:=Y.loc;refine aL<|hfin s6 _ _ H5 m6 hn6 (I3.zh (aO _) Y.free) (λh' sb=>?_) q _;have u6:=Y.base;have nC:∀b o,(s2.heap.push {}).get? b=some o->b≠(s2.heap.push {}).objs.size:=λb o e=>br<|aS e;refine I3.Kr (ch:=fp) Y.os ⟨λb o e n f hx=>?_,λb o e n f hx=>?_,λb o e n hx=>?_,λb o e hx=>?_,u6.tups,u6.frzs,u6.tbls⟩ ?_ Y.bare ?_
   ·exact sb.extBut b o (nC b o e) (u6.keep b o e n f hx)
   ·obtain⟨sl,z⟩:=u6.slot b o e n f hx;exact⟨sl,sb.extBut b _ (nC b o e) z⟩
   ·exact u6.free b o e n hx
   ·obtain⟨o',z⟩:=u6.there b o e hx;exact⟨o',sb.extBut b _ (nC b o e) z⟩
   ·intro b o e;have f:∀c v,H5 c=some v->c≠(s2.heap.push {}).objs.size:=λc v e z=>by
     rw[z]at e;have:=Y.free;rw[show H5 (s2.heap.push {}).objs.size=none from this]at e
     cases e
    refine(Y.hok b o e).stay (λc v hc q=>sb.extBut c v ?_ q) (λ_ q=>q) λ_ _ q=>q
    rcases hc with z|z
    ·rw[z];exact f b o e
    ·exact f c _ z
   ·intro b f;obtain⟨_,z1,_,z3,z4,z5⟩:=f3 b f;exact⟨z3,z1,z4,z5⟩
  ·refine jz (T.item (jo X scope N (s2.heap.push {}).objs.size { s2 with heap:=s2.heap.push {}} (upd H2 s2.heap.objs.size<|.lst []) fp) rfl rfl rfl hc i [] s5 P H5 _ I5 (O fr5) st5 go) λr s6 h9=>?_;obtain⟨u,hr,h6⟩:=h9;subst hr;refine aH<|jz h6 λ_ s7 ⟨x,H7,I7,r7,y7,Z,fr7⟩=>?_;have I7':=I7.pinned (O fr7)<|T.obj _ _ Z;refine aH<|Cn (hg _ _ _ fp _ s7 P H7 x u _ I7' r7<|step x H7 y7) λ_ s8 ⟨F,H8,I8,q8⟩=>?_;refine aH<|Cn (ht _ _ _ fp _ s8 F H8 _ I8 q8) λok s9 ⟨H9,I9,q9⟩=>?_;have again:∀{G:aE} {j:Hp},Inv (jo X scope N (s2.heap.push {}).objs.size { s2 with heap:=s2.heap.push {}} (upd H2 s2.heap.objs.size<|.lst []) fp) ([]++r8 fp s7.heap) F j G->(∃m',m'<n/\W (i+1) m' F j) ->
     ∃m,m<n/\∃i K H',Inv (jo X scope N (s2.heap.push {}).objs.size { s2 with heap:=s2.heap.push {}} (upd H2 s2.heap.objs.size<|.lst []) fp) [] K H' G/\tn i G.heap/\(∀b∈fp,H' b=none)/\W i m K H':=λ{G j} L h9=>by
    obtain⟨m',hm,w10⟩:=h9;refine⟨m',hm,i+1,F,j,L.oE,T.keep _ _ _ Z λb f o e=>(L.pin (b,o)<|bx _<|bx _<|kE f e).1,λb f=>?_,w10⟩;obtain⟨o,e,d⟩:=T.obj _ _ Z b f;exact(L.pin (b,o)<|bx _<|bx _<|kE f e).2.1
   cases ok with
   | false=>
    rw[aQ bh]at q9;exact aL ⟨rfl,again I9 q9⟩
   | true=>
    rw[aT rfl]at q9;refine aH<|aH<|Cn (he _ _ _ fp _ s9 F H9 _ I9 q9) λy G ⟨v10,j,L,r10,ys,hD,hz,w10⟩=>?_;refine aH<|Cn (uB _ G F j (.ref s2.heap.objs.size) [v10] _ [y] (λ_ H'=>H'=upd j s2.heap.objs.size (.lst<|ys++[v10])) L rfl (.cons r10 .nil) ⟨_,ys,v10,rfl,rfl,hD,hz,rfl⟩) λ_ s11 ⟨_,H11,I11,_,e11⟩=>?_;subst e11;exact aL<|aL ⟨rfl,again I11 w10⟩
 exact codeAny_compStart_list (V _ rfl)<|T.self _ 0 _ _ _ st4<|V _ rfl
def Pp{ok:Cx->Prop}{X:Cx}{iter:aF}{N:ar}{L:TI}{g:TG}{tc:TT}{te:TE}(S:CpScope X scope N cap)(J:∀C s₀ H₀ ex,(∀a o u,X.H₀ a=some (.frz o u)->H₀ a=some (.frz o u))->ok (jo X scope N C s₀ H₀ ex))(hi:U3 ok X tg iter L)
  (hg:∀C s₀ H₀ ex,PG (jo X scope N C s₀ H₀ ex) tg g) (U:∀C s₀ H₀ ex,Np (jo X scope N C s₀ H₀ ex) ifs tc) (Z:∀C s₀ H₀ ex,PE (jo X scope N C s₀ H₀ ex) elt te)
  (hs:(∀x,foldedSetIterable iter X.env x=pure x)<|>ζ):PE X (.ListComp elt [⟨tg,iter,ifs,0⟩] scope pos) (Of cap L g tc te):=by
 z_go;rw[eval_ListComp];exact LW (use:=none) (Q':=EP X pins σ Q) S J hi hg U Z hs pins s σ H Q I h λk C D f m hn j inv q v=>⟨m,hn,λh' d=>⟨.ref D,f,inv h' d,rfl,q⟩⟩
def Tu{X:Cx}{iter:aF}{N:ar}{j:TI}{g:TG}{tc:TT}{te:TE}(hc:X.calm=true)(S:CpScope X scope N cap)(hi:PI X tg iter j)
  (hg:∀C s₀ H₀ ex,PG (jo X scope N C s₀ H₀ ex) tg g) (J:∀C s₀ H₀ ex,Np (jo X scope N C s₀ H₀ ex) ifs tc) (L:∀C s₀ H₀ ex,PE (jo X scope N C s₀ H₀ ex) elt te)
  (hs:(∀x,foldedSetIterable iter X.env x=pure x)<|>ζ):PE X (.ListComp elt [⟨tg,iter,ifs,0⟩] scope pos) (Of cap j g tc te):=
 Pp S (λ_ _ _ _ _=>hc) hi.g hg J L hs
section
variable {X:Cx}
def BF{bs:List Bool}:∀{us:ba},Vals (bs.map V.bl) us->LSm.BoolsAre us bs:=by
 induction bs with
 | nil=>intro us r;cases r;exact .nil
 | cons b bs d=>
  intro us r
  cases r with
  | cons h t=>
   have e:_=Value.bool b:=h;subst e;exact .cons b<|d t
def Gu(hc:X.calm=true):iQ X (.builtin "all") (λxs H Q=>∃(p:aj) (bs:List Bool),xs=[.ref p]/\mE X.K H p (bs.map V.bl)/\Q (.bl<|bs.all id) H):=by
 fin2;obtain⟨p,bs,rfl,C,q⟩:=h;kcj_m
 cases rx
 obtain⟨d,B,pl,J⟩:=I.list C;have j:=BF B;have f:=pl.isList;have g:p<s.heap.objs.size:=by obtain⟨_,e,_⟩:=f;exact aS e
 refine call_all_walk<|gj f ?_;refine⟨s.heap.objs.size,[s.heap.objs.size,p],[s.heap.objs.size],d.toArray.size,_,_,λi=>(bs[i]?).getD true,rfl,Walks.list (A:=X.A.in1) (I.ok.hd hc) _ p (br g) d.toArray,
  ⟨⟨_,aU _ rfl,rfl,rfl⟩,f.push _⟩,λi v s' F G hP k=>?_,λh' tk m=>?_⟩
 ·obtain⟨b,e,rfl⟩:=j.get i v (by simpa using hP);dsimp[e,cS]at k;exact cJ k
 ·have e:((List.range d.toArray.size).all λi=>(bs[i]?).getD true)=bs.all id:=by
   rw[aP,j.length];exact LSm.range_all bs
  rw[e];exact⟨.bl _,H,I.kept<|LSm.kept_iter m,rfl,q⟩
theorem y_:iQ X (.builtin "sorted") (λxs H Q=>∃(p:aj) (ns:ag),xs=[.ref p]/\(mE X.K H p (ns.map V.int)\/kZ X.K H p (ns.map V.int))/\ns.length<64 /\
  ∀l (ns':ag),H l=none->ns'.Perm ns->ns'.Pairwise (·<=·)->Q (.ref l) (upd H l<|.lst<|ns'.map V.int)):=by
 fin2;obtain⟨p,ns,rfl,B,Y,q⟩:=h;kcj_m
 cases rx
 have O:∀(d:ba) (T:String) (o:Obj) (n:Nat),(T = "list" \/ T = "tuple")->s.heap.get? p=some o->o.cls=.type T->o.data=.seq d.toArray n->Vals (ns.map V.int) d ->
   wpAny (model X.prog X.w) X.A (call (.builtin "sorted") [.ref p]) (EP X pins σ Q) X.xe s:=by
  intro d T o n hT C f hd j;have hI:=intsAre_of j;have k:d.length=ns.length:=by have:=j.length;rw[aK]at this;exact this.symm
  refine Calls.call_function_entry kind_sorted plain_sorted entry_sorted (args_sorted1 _) ?_;unfold Builtin.«sorted»;refine aH (m:=checkCount "sorted" 1 1 _)<|aL ?_;refine aH (wpAny_collect_seq p hT C f hd (λh' U=>?_)<|by rw[aP,k,bD];lia);refine aH<|wpAny_newList ?_;have g:(h'.push<|seqObj "list" d.toArray 0).get? h'.objs.size=some (seqObj "list" d.toArray 0):=aU _ rfl
  skip
  refine aH<|bX<|cz slot_list_sort ⟨_,g,rfl⟩ entry_list_sort (list_sort_tree g hI () λout ns' a1 N P=>⟨_,rfl,?_⟩)<|args_list_sort _;obtain⟨e,Z⟩:=sortedHeap_at (out:=out) g;have F:ns'.length=ns.length:=N.length_eq;have L:Inv X pins σ H { s with heap:=h' }:=I.kept (t':=s.toks) U;have G:∀b ob,h'.get? b=some ob->(sortedHeap (h'.push<|seqObj "list" d.toArray 0) h'.objs.size d out).get? b=some ob:=λb ob J=>by
   rw[sortedHeap_old (br<|aS J)<|by rw[cH];exact Nat.lt_succ_of_lt<|aS J];exact aI _ J
  refine aL ⟨_,rfl,.ref h'.objs.size,_,L.laid (t':=s.toks) (o:=.lst<|ns'.map V.int) G (aO _) ?_,rfl,q _ ns' (L.hok.fresh<|aO _) N P⟩;refine⟨by rw[aK,F,bD];lia,out.toList,e,t8 a1,?_⟩;rw[Z]
 rcases B with B|B
 ·obtain⟨d,j,pl,hz⟩:=I.list B;obtain⟨o,C,f,n,hd⟩:=pl.isList;exact O d "list" o n (.inl rfl) C f hd j
 ·obtain⟨d,j,pl,hz⟩:=I.tuple B;obtain⟨o,C,f,n,hd⟩:=pl;exact O d "tuple" o n (.inr rfl) C f hd j
def Qd:kC X (compareOp .Is) (λx y H Q=>∃a b,x=.bl a/\y=.bl b/\Q (.bl<|a == b) H):=by
 kt_k;obtain⟨a,b,rfl,rfl,q⟩:=h
 cases rx;cases ry
 exact is_bool ⟨.bl _,H,I,rfl,q⟩
def zv:iQ X (.type "range") (λxs H Q=>∃i j,xs=[.int i,.int j]/\∀p,H p=none->Q (.ref p) (upd H p<|.rng i j)):=by
 fin2;obtain⟨i,j,rfl,q⟩:=h;obtain⟨u,f,rfl,⟨t,rfl⟩,⟨d,rfl⟩⟩:=vals2 r;refine call_range_2 ⟨.ref s.heap.objs.size,_,I.laid (o:=.rng i j) (λb o e=>aI _ e) (aO _) ?_,rfl,q _ I.fresh⟩;exact⟨t,d,s.toks,aU _ rfl⟩
abbrev jj (i j:Int):ag:=(List.range (j-i).toNat).map λk:Nat=>i+(k:Int)
def lW(i j:Int):(jj i j).length=(j-i).toNat:=by unfold jj;rw[aK,List.length_range]
def wY{i:Int}{n:Nat}{acc:Array aa}(h:ItemsOf (λk v=>∃t,v=Value.int (i+(k:Int) * 1) t) acc n):Vals (((List.range n).map λk:Nat=>i+(k:Int)).map V.int) acc.toList:=by
 obtain⟨hs,hv⟩:=h;have d:∀(l:ba) (b:Nat),(∀j v,l[j]?=some v->∃t,v=Value.int (i+((b+j:Nat):Int)) t)->Vals (((List.range' b l.length).map λk:Nat=>i+(k:Int)).map V.int) l:=by
  intro l
  induction l with
  | nil=>intro b _;exact .nil
  | cons v l m=>
   intro b f;rw[bq,dN,aY,aY];refine .cons ?_ ?_
   ·obtain⟨t,e⟩:=f 0 v rfl;exact⟨t,by rw[e];simp⟩
   ·refine m (b+1) λj w hw=>?_;obtain⟨t,e⟩:=f (j+1) w hw;exact⟨t,by rw[e,show b+(j+1)=b+1+j by lia]⟩
 have:=d acc.toList 0 λj v g=>by
  obtain⟨t,e⟩:=hv j v (by simpa using g);exact⟨t,by rw[e,zero_add,Int.mul_one]⟩
 rw[cE,hs,<- dF]at this;exact this
def KS{i j:Int}:Builtin.Range.rangeSize i j 1=(((j-i).toNat:Nat):Int):=by rw[rangeSize_one];split<;>omega
def xN(hc:X.calm=true):iQ X (.type "list") (λxs H Q=>∃p i j,xs=[.ref p]/\H p=some (.rng i j)/\(-(2 ^ 62)<=i/\i<2 ^ 62/\-(2 ^ 62)<=j/\j<2 ^ 62)/\(j-i).toNat<=1000/\∀l,H l=none->Q (.ref l) (upd H l<|.lst<|(jj i j).map V.int)):=by
 fin2;obtain⟨p,i,j,rfl,hp,⟨m,C,F,B⟩,hn,q⟩:=h;kcj_m
 cases rx
 obtain⟨t,J,v,e⟩:=I.hok p _ hp;refine call_list_range (n:=(j-i).toNat) (I.ok.hd hc) e (small_one m C F B) KS () λh' tk d k g G f=>?_;refine⟨.ref s.heap.objs.size,_,I.laid (o:=.lst<|(jj i j).map V.int) g (aO _) ⟨?_,d.toList,k,wY f,by rw[G]⟩,rfl,q _ I.fresh⟩;rw[aK,lW,bD];lia
end
section
variable {X:Cx}
def Bv{prog:ah}{w:af}{A:aA}{E:aa->aE->Prop}{s:aE}{Q:ba->aE->Prop}{r:aj}{a b c:Int}{v:Tok}{n:Nat}(hh:A.handled=none)(U:IsRange s.heap r a b c t u v)(J:Builtin.Range.small a b c=true)
  (hn:Builtin.Range.rangeSize a b c=n) (L:n<=2 ^ 24)
  (Z:∀h' tk (acc':Array aa),(∀b o,s.heap.get? b=some o->h'.get? b=some o)->ItemsOf (λi v=>∃t,v=.int (a+i * c) t) acc' n->Q acc'.toList { s with heap:=h',toks:=tk }) :
  wpAny (model prog w) A (collect<|.ref r) Q E s:=by
 unfold collect;refine aH<|wpAny_runValue<|codeAny_builtin F.entry_proto_collect ?_;rw[Around.under_plainId F.plain_proto_collect _]
 skip
 refine aH<|bA ?_;refine aL ⟨plainId_quiet F.plain_list_iadd _,codeAny_builtin F.entry_list_iadd ?_⟩;rw[Around.under_plainId F.plain_list_iadd _]
 skip
 have B:(s.heap.push {}).get? s.heap.objs.size=some { cls:=.type "list",data:=.seq #[] 0 }:=aU _ rfl;have k:∀(h':au) (tk:Nat) (acc':Array aa) (j:Nat),(∀b o,b≠s.heap.objs.size->(s.heap.push {}).get? b=some o->h'.get? b=some o) ->
   h'.get? s.heap.objs.size=some { cls:=.type "list",dict:=none,data:=.seq acc' j,slots:=#[]}->ItemsOf (λi v=>∃t,v=.int (a+i * c) t) acc' n ->
   wpAny (model prog w) A (match Value.ref s.heap.objs.size with
   | Value.ref a=>do
    match (<- load a).data with
     | Data.seq xs _=>pure xs.toList
     | _=>unsupported "internal:collect"
   | _=>unsupported "internal:collect") Q E { s with heap:=h',toks:=tk }:=by
  intro h' tk acc' j m g d
  skip
  refine aH<|wpAny_load g ?_;refine aL ?_;exact Z h' tk acc' (λb o e=>m b o (br<|aS e)<|aI _ e) d
 refine b_ (wpAny_extend_range (A:=A) (R:=λC s'=>C=.ok (.ret<|.ref s.heap.objs.size)/\∃h' tk acc' j,s'={ s with heap:=h',toks:=tk }/\(∀b o,b≠s.heap.objs.size->(s.heap.push {}).get? b=some o->h'.get? b=some o) /\
   h'.get? s.heap.objs.size=some { cls:=.type "list",dict:=none,data:=.seq acc' j,slots:=#[]}/\ItemsOf (λi v=>∃t,v=.int (a+i * c) t) acc' n)
  (s:={ s with heap:=s.heap.push {}}) hh (aI _ U) J hn L s.heap.objs.size (.ref s.heap.objs.size) 0 B
  (λh' tk acc' j m g d=>⟨rfl,h',tk,acc',j,rfl,m,g,d⟩)) (λp s' h=>?_) λe s' h=>?_
 ·cases p with
  | done f=>
   obtain⟨e,h',tk,acc',j,rfl,m,g,d⟩:=h
   cases e
   exact k h' tk acc' j m g d
  | again j=>exact⟨h.1,fj h.2 λr G U=>by
    obtain⟨rfl,h',tk,acc',j,rfl,m,g,d⟩:=U;exact k h' tk acc' j m g d⟩
 ·exact absurd h.1<|by simp
theorem rf(l:aj){a b:Int}{v:Tok}{n:Nat}(L:Builtin.Range.small a b 1=true)
  (hn:Builtin.Range.rangeSize a b 1=n) (U:n<=1000) :
  Meets (Builtin.«tuple.__new__» ⟨[.type "tuple",.ref l],[]⟩)
   (λA R s=>A.handled=none/\IsRange s.heap l a b 1 t u v/\∀(h':au) (tk:Nat) (acc':Array aa),(∀b o',s.heap.get? b=some o'->h'.get? b=some o')->ItemsOf (λi v=>∃t,v=.int (a+i * 1) t) acc' n->R (.ok<|.ret<|.ref h'.objs.size) { s with heap:=h'.push { cls:=.type "tuple",data:=.seq acc' },toks:=tk }):=
 .of_wp λprog w A R s h=>by
  obtain⟨hp,g,d,tk,os⟩:=s;obtain⟨F,j,h⟩:=h;have B:=sub_tuple_self;have m:=init_tuple_lookup;have G:=madeHere_tuple;have J:Shared.TypeIs ⟨hp,g,d,tk,os⟩ (.ref l) "range" := ⟨_,j,rfl⟩;have k:A.in1.handled=none:=F
  wp_walk using cU j,wpAny_typeOf J,Bv (A:=A.in1) k j L hn (by omega)
  intro h' p acc' C f;show wpAny _ _ (Builtin.Tuple.tupleExact acc'.toList.toArray >>= λv=>ret v) _ _ _;unfold Builtin.Tuple.tupleExact;have e:acc'.toList.toArray=acc':=by simp
  refine aH (bA ?_<|by show acc'.toList.toArray.size<=sizeLine;rw[e,f.1,bD];omega);refine aL ⟨_,rfl,?_⟩;rw[e];exact h h' p acc' C f
def wI(hc:X.calm=true):iQ X (.type "tuple") (λxs H Q=>∃p i j,xs=[.ref p]/\H p=some (.rng i j)/\(-(2 ^ 62)<=i/\i<2 ^ 62/\-(2 ^ 62)<=j/\j<2 ^ 62)/\(j-i).toNat<=1000/\∀l,H l=none->Q (.ref l) (upd H l<|.tup<|(jj i j).map V.int)):=by
 fin2;obtain⟨p,i,j,rfl,hp,⟨m,C,G,B⟩,hn,q⟩:=h;kcj_m
 cases rx
 obtain⟨t,J,v,e⟩:=I.hok p _ hp;refine callType_new F.called_tuple ⋯ (F.typeCall_tuple_1 _) (F.newCall_tuple_1 _) (λobj=>F.args_object_init_2 obj _) F.entry_tuple_new
  (rf (n:=(j-i).toNat) p (small_one m C G B) KS hn) ⟨I.ok.hd hc,e,λh' tk d k f=>⟨⟨_,aU _ rfl,rfl⟩,?_⟩⟩
 have g:Inv X pins σ H { s with heap:=h',toks:=tk }:=I.kept k;refine⟨.ref h'.objs.size,_,g.laid (t':=tk) (o:=.tup<|(jj i j).map V.int) (λb o e=>aI _ e) (aO _) ⟨?_,d.toList,wY f,?_⟩,rfl,q _<|g.hok.fresh<|aO _⟩
 ·rw[aK,lW,bD];lia
 ·have e:d.toList.toArray=d:=by simp
  rw[e];exact lC.new _ _
abbrev Uz (K:az)(te:TE):TE:=λσ H Q=>te σ H λx H1=>∃a xs,x=.ref a/\mE K H1 a xs/\∀p,H1 p=none->Q (.ref p) (upd H1 p<|.lst xs.reverse)
def Mw{te:TE}{J cp:Pos}(L:PE X e te):PE X (.Subscript e (.Slice none none (some<|.UnaryOp .USub (.Constant (.int 1) kk cp) J) p2) pos) (Uz X.K te):=by
 z_go;refine Subscript_<|jz (L pins s σ H _ I h) λv m ⟨x,H1,j,r1,a,xs,ex,C,q⟩=>?_;subst ex
 cases r1
 refine wpAny_Slice ?_;rw[gw];refine aL ?_;refine aL ?_;rw[evalPart_some];refine jz ((HN (a:=.Constant (.int 1) kk cp) Cm C4) pins m σ H1 (λv H'=>v=.int (-1)/\H'=H1) j ⟨1,rfl,rfl,rfl⟩) λvs s3 h9=>?_;obtain⟨y,H3,g,k,B,p⟩:=h9;subst B p;obtain⟨t,rfl⟩:=k;have I4:Inv X pins σ H3 { s3 with heap:=s3.heap.push { cls:=.type "slice",data:=.fields #[.none,.none,.int (-1) t]}}:=g.kept (t':=s3.toks) λb ob q=>aI _ q;obtain⟨its,f,pl,F⟩:=I4.list C
 skip
 refine tail_any (ops:=[.ref a,.ref s3.heap.objs.size]) pl.isList.typeIs gk.lookup ?_ (by with_unfolding_all rfl);have d:=f.length;refine wpAny_getItem_list_slice pl.isList (f7 ..) .none .none (.int (-1) t) ⋯ ?_ (by rw[aP]<;>lia);rw[PySem.W.krv_pick];refine⟨.ref _,_,I4.KC (t':=s3.toks) (ys:=xs.reverse) (its:=its.reverse) f.reverse<|by rw[dM];exact F,rfl,q _ I4.fresh⟩
def Aa{c:String}:iQ X (.builtin "isinstance") (λxs H Q=>∃x t b,xs=[x,.ty c]/\TyOf X.K H x t/\PySem.W.kitOne X.K t (.type c)=some b/\Q (.bl b) H):=by
 fin2;obtain⟨x,t,b,rfl,ty,e,q⟩:=h;obtain⟨u,f,rfl,rx,d⟩:=vals2 r
 cases d
 exact FG I rx ty e λtk=>⟨.bl b,H,I.tok tk,rfl,q⟩
abbrev Qs (K:az):R2:=λx y H Q=>∃a b ys,x=.ref a/\y=.ref b/\kZ K H a []/\kZ K H b ys/\Q (.ref b) H
def IM:kC X (binaryOp .Add) (Qs X.K):=by
 kt_k;obtain⟨a,b,ys,rfl,rfl,h1,C,q⟩:=h
 cases rx
 cases ry
 obtain⟨us,r1,p1,_⟩:=I.tuple h1;obtain⟨ws,r2,p2,_⟩:=I.tuple C
 cases r1
 obtain⟨⟨cls,dd,data,G⟩,B,hc,n,hd⟩:=id p1;obtain⟨⟨p,m,k,j⟩,d,g,F,f⟩:=id p2;simp only at hc hd g f;subst hc hd g f;exact concat_meets ⟨_,B,rfl⟩ ⟨_,d,rfl⟩ noFill_tuple_add seq_tuple_add fm ff (eK _ _)
   (tuple_addW0 a b _ ws.toArray n F dd m G j<|by simp) ⟨B,d,⟨.ref b,H,I,rfl,q⟩⟩
def vH{ys:ar}:∀{us:ba},Vals (ys.map V.str) us->StrsAre us ys:=by
 induction ys with
 | nil=>intro us r;cases r;exact .nil
 | cons b bs f=>
  intro us r
  cases r with
  | cons h t=>
   obtain⟨d,e⟩:=h;subst e;exact .cons b d<|f t
abbrev rJoin (K:az):V->List V->Hp->VK->Prop:=λx vs H Q=>∃z p ys,x=.str z/\vs=[.ref p]/\mE K H p (ys.map V.str)/\(ys.map (·.length)).sum+ys.length * z.length<=16777216/\Q (.str<|Txt.join z ys) H
def Mz:Up X "str.join" (rJoin X.K):=by
 intro pins s σ H x vs v us Q I rx d h;obtain⟨z,p,ys,rfl,rfl,g,B,q⟩:=h;kj_on;obtain⟨u,rfl,j⟩:=d.one
 cases j
 obtain⟨m,r,pl,_⟩:=I.list g;exact join_list pl.isList (vH r) B λf k=>⟨.str _,H,I.tok k,⟨f,rfl⟩,q⟩
end
def kg:bootBuiltins "len" = some (.builtin "len"):=by decide +kernel
def QW:bootBuiltins "abs" = some (.builtin "abs"):=by decide +kernel
def uh:bootBuiltins "all" = some (.builtin "all"):=by decide +kernel
def Pc:bootBuiltins "any" = some (.builtin "any"):=by decide +kernel
def F0:bootBuiltins "sorted" = some (.builtin "sorted"):=by decide +kernel
def ki:bootBuiltins "isinstance" = some (.builtin "isinstance"):=by decide +kernel
def C6:bootBuiltins "int" = some (.type "int"):=by decide +kernel
def M0:bootBuiltins "bool" = some (.type "bool"):=by decide +kernel
def J2:bootBuiltins "str" = some (.type "str"):=by decide +kernel
def sN:bootBuiltins "list" = some (.type "list"):=by decide +kernel
def oB:bootBuiltins "tuple" = some (.type "tuple"):=by decide +kernel
def v5:bootBuiltins "range" = some (.type "range"):=by decide +kernel
def Mr:∀{a b:ag},a.Perm b->a.Pairwise (·<=·)->b.Pairwise (·<=·)->a=b:=λp g f=>
 List.Perm.eq_of_pairwise (λx y _ _ h1 d=>Int.le_antisymm h1 d) g f p
def L4(i j:Int):(jj i j).Pairwise (·<=·):=by
 unfold jj;rw[List.pairwise_map];exact List.pairwise_lt_range.imp λh=>()
def A0{i j k:Int}:k∈jj i j ↔ i<=k/\k<j:=by
 unfold jj;rw[bJ];constructor
 ·rintro⟨a,d,rfl⟩;have:=fh.mp d;omega
 ·rintro⟨h1,f⟩;exact⟨(k-i).toNat,fh.mpr<|by omega,by omega⟩
abbrev Kn (P:ah)(w:af)(K:az)(mg:Str->bd)(base:au)(k:Nat)(x:Str)(ps:ar)(sp:Sp):Prop:=
 ∃(f:aj) (fd:FuncData),FnOk P w K mg base rz k f fd ps sp/\mg x=some (.ref f)/\PySem.W.keepIn K (.ref f)=true/\Binds K fd ps []
def SN{X:Cx}{k:Nat}{x:Str}{ps:ar}{sp:Sp}{t:TA}{p:Pos}(G:Kn X.prog X.w X.K X.mg X.base k x ps sp)(U:Room k X.A)(Z:PA X (e::es) t)(hg:Gl X x<|>ε)
  (L:(x == ("__debug__" : Str))=false<|>δ) (hs:starEach (e::es) X.env=(false,eval e X.env)::starEach es X.env<|>ε) (J:((backTo pos<|starEach es X.env).any (·.1)=false)<|>ε) :
  PE X (.Call (.Name x p) (e::es) [] pos) (Ot sp [] E0 t):=by
 obtain⟨f,fd,F,g,d,j⟩:=G;exact Eo F U hg g d j .nil NG Z L hs J
abbrev wJ (J fs:ar):ar->List (bj)->Prop
 | [],[]=>True
 | _::N,none::c=>wJ J fs N c
 | x::N,some j::c=>J[j]?=some x/\x∈fs/\wJ J fs N c
 | _,_=>False
theorem wJ.len{fs:ar}:∀{N:ar}{c:List<|bj},wJ XN fs N c->c.length=N.length
 | [],[],_=>rfl
 | _::N,none::c,h=>cW (·+1) (wJ.len (N:=N) (c:=c) h)
 | _::N,some j::c,h=>cW (·+1) (wJ.len (N:=N) (c:=c) h.2.2)
 | [],_::_,h=>h.elim
 | _::_,[],h=>h.elim
theorem wJ.cp{fs:ar}:∀{N:ar}{c:List<|bj},wJ XN fs N c->∀(i j:Nat) (x:Str),N[i]?=some x->c[i]?=some (some j)->XN[j]?=some x/\x∈fs
 | [],[],_,i,j,x,h1,_=>by simp at h1
 | y::N,none::c,h,i,j,x,h1,h2=>by
  cases i with
  | zero=>simp at h2
  | succ i=>exact wJ.cp (N:=N) (c:=c) h i j x (by simpa using h1)<|by simpa using h2
 | y::N,some k::c,h,i,j,x,h1,h2=>by
  cases i with
  | zero=>
   simp at h1 h2;subst h1 h2;exact⟨h.1,h.2.1⟩
  | succ i=>exact wJ.cp (N:=N) (c:=c) h.2.2 i j x (by simpa using h1)<|by simpa using h2
 | [],_::_,h,_,_,_,_,_=>h.elim
 | _::_,[],h,_,_,_,_,_=>h.elim
def rH{X:Cx}{scope:Scope}{N:ar}(fs:ar)(kind:scope.kind=.function)(nocf:∀y∈scope.names,y.2=.cell->scope.names.lookup y.1=some .cell/\(y.1,NameKind.free)∉scope.names)(nm:∀y∈scope.names,y.2=.local->scope.names.lookup y.1=some .local)
  (nolf:∀y∈scope.names,y.2=.free->scope.names.lookup y.1≠some .local) (hf:∀y∈scope.names,y.2=.free->y.1∈fs) (J:∀x∈fs,(x,NameKind.free)∈scope.names) (L:∀x∈fs,X.env.kindOf x=some .cell\/X.env.kindOf x=some .free) (cp:wJ X.N fs N cap):CpScope X scope N cap where
 kind:=kind
 nocf:=λx hf hc=>(nocf (x,.cell) hc rfl).2 hf
 nm:=nm
 fr:=λy hy e=>L _ (hf y hy e)
 rl:=λy h=>by
  have g:∀k,(k=NameKind.cell\/k=NameKind.free)->(relabel scope X.env).names.lookup y=some k->(y,NameKind.free)∈scope.names\/scope.names.lookup y=some .cell:=λk L e=>by
   obtain⟨⟨C,p⟩,f,d⟩:=bJ.mp<|xr e;dsimp only at d;split at d
   ·rename_i hc
    cases d
    have:p=.free:=by
     dsimp[cA]at hc;simpa using hc.1.1
    subst this;exact .inl f
   ·cases d
    rcases L with rfl|rfl
    ·exact .inr (nocf _ f rfl).1
    ·exact .inl f
  rcases h with h|h
  ·exact g _ (.inl rfl) h
  ·exact g _ (.inr rfl) h
 len:=cp.len
 nolf:=λx B=>nolf (x,.free) B rfl
 cp:=λi j x h1 m=>by
  obtain⟨a,b⟩:=cp.cp i j x h1 m;exact⟨a,J x b⟩
inductive Kd where
 | non|bl|int|str|lst|tup
 deriving DecidableEq
abbrev Kd.ty:Kd->aa
 | .non=>.type "NoneType" | .bl=>.type "bool" | .int=>.type "int" | .str=>.type "str" | .lst=>.type "list" | .tup=>.type "tuple"
abbrev Py (H:Hp)(x:V):Kd->Prop
 | .non=>x=.non
 | .bl=>∃b,x=.bl b
 | .int=>∃i,x=.int i
 | .str=>∃s,x=.str s
 | .lst=>∃a xs,x=.ref a/\H a=some (.lst xs)
 | .tup=>∃a xs,x=.ref a/\H a=some (.tup xs)
def Py.U9{K:az}{H:Hp}{x:V}{k:Kd}(h:Py H x k):TyOf K H x k.ty:=by
 cases k with
 | non=>cases h;exact .non
 | bl=>obtain⟨b,rfl⟩:=h;exact .bl b
 | int=>obtain⟨b,rfl⟩:=h;exact .int b
 | str=>obtain⟨b,rfl⟩:=h;exact .str b
 | lst=>obtain⟨a,xs,rfl,e⟩:=h;exact .lst e
 | tup=>obtain⟨a,xs,rfl,e⟩:=h;exact .tup e
def LQ{K:az}(k:Kd):PySem.W.kitOne K k.ty (.type "int")=some (decide<|k=.int\/k=.bl):=by cases k<;>rfl
def GY{K:az}(k:Kd):PySem.W.kitOne K k.ty (.type "bool")=some (decide<|k=.bl):=by cases k<;>rfl
def kit_tuple{K:az}(k:Kd):PySem.W.kitOne K k.ty (.type "tuple")=some (decide<|k=.tup):=by cases k<;>rfl
def J0{K:az}(k:Kd):PySem.W.kitOne K k.ty (.type "list")=some (decide<|k=.lst):=by cases k<;>rfl
section
variable {prog:ah}{w:af}{A:aA}{E:aa->aE->Prop}{s:aE}
theorem tw{i:Nat}{x:aa}{Q:aa->aE->Prop}(J:s.heap.IsTupleIter it t i)
  (L:s.heap.IsTuple t items) (U:items[i]?=some x) (Z:∀h',h'.IsTupleIter it t (i+1)->Heap.SameBut it s.heap h'->Q x { s with heap:=h' }) :
  wpAny (model prog w) A (Builtin.SmallTypes.nextOf<|.ref it) Q E s:=by
 obtain⟨o,d,hc,hd⟩:=id J;obtain⟨j,g,_,k,f⟩:=L;unfold Builtin.SmallTypes.nextOf;refine aH (cF (name:=Str.ofString "__next__") J.typeIs dc
  (cz dc J.typeIs F.entry_tuple_iterator_next ?_<|F.args_tuple_iterator_next_1 _))
 show wpAny _ _ (field (.ref it) 0 >>= _) _ _ s;refine aH (bR d hd (x:=.ref t) rfl ?_)
 skip
 rw[aQ<|show ¬((Value.ref t == Value.none)=true)from bh]
 skip
 refine aH (bR d hd (x:=.int i 0) rfl ?_)
 skip
 refine aH<|wpAny_seqItems g f ?_;dsimp[cO,U];refine aH (d_ d hd (by simp)<|aL ⟨x,rfl,aL<|Z _ ?_<|eF ..⟩);exact⟨_,dh _ d<|dX<|dg hd _,(Obj.cls_mapFields ..).trans hc,by
  rw[dg hd];simp[rawInt]⟩
def uH{i:Nat}{Q:aa->aE->Prop}(hh:A.handled=none)
  (J:s.heap.IsTupleIter it t i) (L:s.heap.IsTuple t items) (U:items[i]?=none)
  (Z:∀h' e,Heap.ExtBut it s.heap h'->(∃o,h'.get? e=some o/\o.cls=.type "StopIteration")->E (.ref e) { s with heap:=h' }) :
  wpAny (model prog w) A (Builtin.SmallTypes.nextOf<|.ref it) Q E s:=by
 obtain⟨o,g,hc,hd⟩:=id J;obtain⟨j,f,_,k,d⟩:=L;unfold Builtin.SmallTypes.nextOf;refine aH (cF (name:=Str.ofString "__next__") J.typeIs dc
  (cz dc J.typeIs F.entry_tuple_iterator_next ?_<|F.args_tuple_iterator_next_1 _))
 show wpAny _ _ (field (.ref it) 0 >>= _) _ _ s;refine aH (bR g hd (x:=.ref t) rfl ?_)
 skip
 rw[aQ<|show ¬((Value.ref t == Value.none)=true)from bh]
 skip
 refine aH (bR g hd (x:=.int i 0) rfl ?_)
 skip
 refine aH<|wpAny_seqItems f d ?_;dsimp[cO,U];refine aH (wpAny_rule<|aH<|d_ g hd (by simp) ?_)
 skip
 refine aH ?_;dsimp[newExc,newTuple];refine aH (bA ?_<|by size_fits);refine aH (m:=firstArgMember _ _) (wpAny_of_eq (a:=Value.none) (by first|rfl|(dsimp[firstArgMember];rfl)) ?_);refine bA ?_ (by size_fits);dsimp[raiseNew];refine aH (wpAny_handled ?_)
 first|rw[show A.in1.handled=none from hh]|rw[hh]
 refine aH<|aL<|wpAny_throw ?_;exact Z _ _ (((eF ..).extBut.push _).push _) ⟨_,aU _ rfl,rfl⟩
end
def Lf{prog:ah}{w:af}{A:aA}(hh:A.handled=none)(it l:aj)(L:l≠it)(J:Array aa) :
  Draws prog w A it [it,l] J.size (λi v=>J[i]?=some v) (λi h=>h.IsTupleIter it l i/\h.IsTuple l J) where
 live:=λ_ _ st=>let⟨o,ho,_⟩:=st.1;⟨o,ho⟩
 frame:=λ_ _ _ st g=>⟨st.1.at λo e=>g it (by simp) o e,let⟨o,ho,r⟩:=st.2;⟨o,g l (by simp) o ho,r⟩⟩
 item:=λi s Q E hi st k=>by
  refine tw st.1 st.2 (x:=J[i]) (by simp[hi]) λh' f d=>?_;exact k _ h' s.toks (by simp[hi]) ⟨f,let⟨o,ho,r⟩:=st.2;⟨o,d.extBut l o L ho,r⟩⟩ d
 done:=λs Q E st j=>uH hh st.1 st.2 (by simp) j
def A5(l:aj)(J:Array aa) :
  Meets (Builtin.«enumerate.__new__» ⟨[.type "enumerate",.ref l],[]⟩) (λ_ R s=>s.heap.IsTuple l J /\
   R (.ok<|.ret<|.ref (s.heap.push { cls:=.type "tuple_iterator",data:=.fields #[.ref l,.int 0 0]}).objs.size)
    { s with heap:=(s.heap.push { cls:=.type "tuple_iterator",data:=.fields #[.ref l,.int 0 0]}).push { cls:=.type "enumerate",data:=.fields #[.none,.bool false,.ref s.heap.objs.size,rawInt 0,.none,.none]}}):=
 .of_wp λprog w A R s h=>by
  obtain⟨hp,g,d,tk,os⟩:=s;obtain⟨j,h⟩:=h;have k:=sub_enumerate;obtain⟨C,f,m,B,p⟩:=id j
  wp_walk using cU f
  refine wpAny_stack_any λst=>aL ?_;split
  ·rename_i c _ _ _ _ _
   cases(c == Value.type "enumerate")
   ·wp_walk using cU f,eU j
    exact⟨_,rfl,h⟩
   ·wp_walk using cU f,eU j
    exact⟨_,rfl,h⟩
  ·wp_walk using cU f,eU j
   exact⟨_,rfl,h⟩
abbrev UG (K:az)(a:aj):It:=
 ⟨λi H=>∃xs x,kZ K H a xs/\xs[i]?=some x,λi H x H'=>∃T,H T=none/\x=.ref T/\∀xs y,kZ K H a xs->xs[i]?=some y->H'=upd H T (.tup [.int i,y]),λi H=>∃xs,kZ K H a xs/\xs.length=i⟩
def Ca{P:ah}{w:af}{K:az}(a e it:aj)(hei:e≠it):Turn P w K (.Tuple elts x1 tpos) (UG K a) [e,it] e (λi h=>(∃old,IsEnum h e it i old)/\h.IsTupleIter it a i) where
 mem:=by simp
 obj:=λi h st b T=>by
  obtain⟨⟨old,f⟩,g⟩:=st;have L:b=e\/b=it:=by simpa using T
  rcases L with rfl|rfl
  ·exact⟨_,f,λv z=>by cases z⟩
  ·obtain⟨o,e,c,d⟩:=g;exact⟨o,e,λv z=>by rw[d]at z;cases z⟩
 keep:=λi h h' st k=>by
  obtain⟨⟨old,f⟩,g⟩:=st;exact⟨⟨old,k e (by simp) _ f⟩,g.at λo C=>k it (by simp) o C⟩
 item:=by
  x_go;subst hP hw hK;obtain⟨⟨old,f⟩,g⟩:=st;obtain⟨xs,x,hq,hx⟩:=hg;obtain⟨F,rv,p,hz⟩:=I.tuple hq;obtain⟨u,hu,ru⟩:=rv.get hx;have O:a≠it:=by
   obtain⟨o,C,J,_⟩:=p;obtain⟨o2,V,G,_⟩:=g;intro z;rw[z,V]at C
   cases C
   rw[J]at G;exact absurd (Value.type.inj G) ⋯
  have hea:e≠a:=by
   obtain⟨o,C,J,_⟩:=p;intro z;rw[<- z,f]at C
   cases C
   exact absurd (Value.type.inj J) ⋯
  have hlt:i<F.toArray.size:=by
   rw[aP];exact(aM.mp hu).1
  refine wpAny_pyNext_enum_itemD (Lf (A:=X.A.in1) (I.ok.hd hc) it a O F.toArray) f ⟨g,p⟩ hlt hei (by simp[hei,hea]) λx' h' tk hP hout hst hT hsz hk=>?_;have ex:x'=u:=by
   have:F.toArray[i]?=some u:=by simpa using hu
   rw[this]at hP;exact(aR hP).symm
  subst ex;refine⟨_,rfl,wpAny_letOwnedTupleGo_enum hout λh2 he2 U=>?_⟩;have Y:H s.heap.objs.size=none:=I.hok.fresh<|aO _;have Z:e<s.heap.objs.size:=aS f;have hil:it<s.heap.objs.size:=by obtain⟨o,C,_⟩:=g;exact aS C
  have k2:∀b o,b≠e->b≠it->s.heap.get? b=some o->h2.get? b=some o:=λb o h1 h3 q=>U.extBut b o h1<|hk b o h1 h3 q;have hT2:h2.get? s.heap.objs.size=some { cls:=.type "tuple",data:=.seq #[.int i tk,x']}:=U.extBut _ _ (ez Z) hT;obtain⟨e0,e1,e2,e3,e4,e5⟩:=hf e (by simp);obtain⟨i0,i1,i2,i3,i4,i5⟩:=hf it (by simp);have nT:∀b o,s.heap.get? b=some o->b≠s.heap.objs.size:=λb o q=>br<|aS q;have j:∀c v,H c=some v->c≠e/\c≠it:=λc v q=>⟨(λz=>by rw[z,e0]at q;cases q),(λz=>by rw[z,i0]at q;cases q)⟩;have I2:Inv X pins σ (upd H s.heap.objs.size<|.tup [.int i,x]) { s with heap:=h2,toks:=tk+1 }:=by
   refine I.step (g':=s.gens) (d':=s.drawn) (ch:=[e,it]) (λb T=>?_) (λb o _ _ B q _=>?_) (λb o _ _ B q _=>?_) (λb o B q n=>?_) (λb o B q=>?_) (λb ys q=>?_) (λb o u' q=>?_) (λb ps q=>?_) (λm hm=>?_) (λb u' q=>?_) I.bare
   ·have L:b=e\/b=it:=by simpa using T
    rcases L with rfl|rfl
    ·exact⟨e3,e1,e4,e5⟩
    ·exact⟨i3,i1,i4,i5⟩
   ·exact k2 b o (λz=>B<|by simp[z]) (λz=>B<|by simp[z]) q
   ·exact⟨o.slots,k2 b o (λz=>B<|by simp[z]) (λz=>B<|by simp[z]) q⟩
   ·rw[gV<|nT b o q];exact n
   ·exact⟨o,k2 b o (λz=>B<|by simp[z]) (λz=>B<|by simp[z]) q⟩
   ·rw[gV<|g9 q Y];exact q
   ·rw[gV<|g9 q Y];exact q
   ·exact⟨#[],by rw[gV<|g9 q Y,q];simp⟩
   ·obtain⟨o,es,ep,C,r⟩:=hm;exact⟨o,es,ep,k2 _ o (bP e1) (bP i1) C,r⟩
   ·by_cases z:b=s.heap.objs.size
    ·subst z;rw[iF]at q
     cases q
     exact⟨by show 2<=sizeLine;decide,[.int i tk,x'],.cons ⟨tk,rfl⟩<|.cons ru .nil,⟨_,hT2,rfl,rfl,0,rfl⟩⟩
    ·rw[gV z]at q;refine(I.hok b u' q).stay (λc v hc q'=>k2 c v ?_ ?_ q') (λc q'=>?_) λc ys q'=>?_
     ·rcases hc with z|z
      ·rw[z];exact(j b u' q).1
      ·exact(j c _ z).1
     ·rcases hc with z|z
      ·rw[z];exact(j b u' q).2
      ·exact(j c _ z).2
     ·rw[gV<|g9 q' Y];exact q'
     ·rw[gV<|g9 q' Y];exact q'
  refine⟨.ref s.heap.objs.size,_,I2,rfl,⟨s.heap.objs.size,Y,rfl,λys y hy N=>?_⟩,⟨⟨x',by simpa using he2⟩,?_⟩,λb T=>?_⟩
  ·rw[I.uF hy hq]at N;rw[hx]at N
   cases N
   rfl
  ·exact hst.1.at λo C=>U.extBut it o (bP hei) C
  ·have L:b=e\/b=it:=by simpa using T
   rcases L with rfl|rfl
   ·rw[gV<|br Z];exact e0
   ·rw[gV<|br hil];exact i0
 done:=by
  x_go;subst hP hw hK;obtain⟨⟨old,f⟩,g⟩:=st;obtain⟨xs,hq,hx⟩:=hg;obtain⟨F,rv,p,hz⟩:=I.tuple hq;obtain⟨i0,i1,i2,i3,i4,i5⟩:=hf it (by simp);have O:a≠it:=by
   obtain⟨o,C,J,_⟩:=p;obtain⟨o2,V,G,_⟩:=g;intro z;rw[z,V]at C
   cases C
   rw[J]at G;exact absurd (Value.type.inj G) ⋯
  have hl:=rv.length;have ei:F.toArray.size=i:=by rw[aP,<- hl,hx]
  exact wpAny_pyNext_enum_endD (Lf (A:=X.A.in1) (I.ok.hd hc) it a O F.toArray) f ⟨by rw[ei];exact g,p⟩ λh' eb=>⟨rfl,I.turned (t':=s.toks) (λb o T q=>eb b o T q) i0 i1 i3 i4 i5⟩
 self:=λ_ _ _ _ _ st h=>let⟨⟨_,f⟩,_⟩:=st;wpAny_pyIter_enum f h
def zE:bootBuiltins "enumerate" = some (.type "enumerate"):=by decide +kernel
section
variable {X:Cx}
abbrev RL (K:az)(ta:TA):TI:=λσ H R=>ta σ H λvs H1=>∃a xs,vs=[.ref a]/\kZ K H1 a xs/\R (UG K a) H1
def I_{a:aF}{ta:TA}{p:Pos}(hg:Gl X "enumerate")(U:X.mg "enumerate" = none)(Z:PA X [a] ta)(hs:starEach [a] X.env=[(false,eval a X.env)]<|>ε):PI X (.Tuple elts x1 tpos) (.Call (.Name "enumerate" p) [a] [] pos) (RL X.K ta):=by
 intro pins s σ H R I h;refine Call_<|t9 I hg U zE<|c5 (jz (Z pos pins s σ H _ I h) λus d ⟨vs,H1,f,r1,L⟩=>?_) hs rfl;obtain⟨t,xs,e,N,q⟩:=L;subst e;obtain⟨u,rfl,rx⟩:=vals1 r1
 cases rx
 obtain⟨k,P,O,T⟩:=f.tuple N;refine callType_new F.called_enumerate ⋯ (F.typeCall_enumerate_1 _) (F.newCall_enumerate_1 _) (λobj=>F.args_object_init_2 obj _) F.entry_enumerate_new (A5 t k.toArray) ⟨O,⟨_,aU _ rfl,rfl⟩,?_⟩;have B:Inv X pins σ H1 { d with heap:=d.heap.push { cls:=.type "tuple_iterator",data:=.fields #[.ref t,.int 0 0]}}:=f.kept (t':=d.toks) λb o e=>aI _ e;have G:Inv X pins σ H1 { d with heap:=(d.heap.push { cls:=.type "tuple_iterator",data:=.fields #[.ref t,.int 0 0]}).push { cls:=.type "enumerate",data:=.fields #[.none,.bool false,.ref d.heap.objs.size,rawInt 0,.none,.none]}}:=B.kept (t':=d.toks) λb o e=>aI _ e;have C:IsEnum ((d.heap.push { cls:=.type "tuple_iterator",data:=.fields #[.ref t,.int 0 0]}).push { cls:=.type "enumerate",data:=.fields #[.none,.bool false,.ref d.heap.objs.size,rawInt 0,.none,.none]}) (d.heap.push { cls:=.type "tuple_iterator",data:=.fields #[.ref t,.int 0 0]}).objs.size d.heap.objs.size 0 .none:=aU _ rfl;have j:((d.heap.push { cls:=.type "tuple_iterator",data:=.fields #[.ref t,.int 0 0]}).push { cls:=.type "enumerate",data:=.fields #[.none,.bool false,.ref d.heap.objs.size,rawInt 0,.none,.none]}).IsTupleIter d.heap.objs.size t 0:=⟨_,aI _<|aU _ rfl,rfl,rfl⟩;have g:(d.heap.push { cls:=.type "tuple_iterator",data:=.fields #[.ref t,.int 0 0]}).objs.size≠d.heap.objs.size:=by rw[cH];exact ez (ck _)
 refine wpAny_pyIter_enum C ⟨_,[_,d.heap.objs.size],_,_,H1,rfl,G,Ca t _ d.heap.objs.size g,⟨⟨.none,C⟩,j⟩,λb J=>?_,q⟩;have m:b=(d.heap.push { cls:=.type "tuple_iterator",data:=.fields #[.ref t,.int 0 0]}).objs.size\/b=d.heap.objs.size:=by simpa using J
 rcases m with rfl|rfl
 ·exact f.zh (by rw[cH];exact le_succ _) (B.hok.fresh<|aO _)
 ·exact f.zh (aO _)<|f.hok.fresh<|aO _
end
section
variable {prog:ah}{w:af}{A:aA}{E:aa->aE->Prop}{s:aE}
def B5(n:Nat):Builtin.Slice.sliceAdjust none none (-1) (n:Int)=((n:Int)-1,-1):=by
 unfold Builtin.Slice.sliceAdjust;rfl
def C1(n:Nat):Builtin.Slice.slicePlaces ((n:Int)-1) (-1) (-1)=n:=by
 unfold Builtin.Slice.slicePlaces;have h1:¬((-1:Int)>0):=by decide
 dsimp[h1,eN];by_cases h:n=0
 ·subst h;simp
 ·rw[aT ()];rw[show(- -1:Int)=1 by decide,Int.ediv_one]
  lia
def uE{n:Nat}{Q:Int×Int×Nat->aE->Prop}(hs:s.heap.IsSliceOf sl .none .none<|.int (-1) t)
  (h:Q ((n:Int)-1,-1,n) s):wpAny (model prog w) A (Builtin.Slice.sliceApplied (.ref sl)<|pure (n:Int)) Q E s:=by
 obtain⟨os,f,g,d⟩:=id hs;unfold Builtin.Slice.sliceApplied Builtin.Slice.sliceFields;refine aH<|aH<|bR f d (x:=.none) rfl<|aH<|bR f d (x:=.none) rfl<|aH<|bR f d (x:=.int (-1) t) rfl<|aL ?_;refine aH (slicePart_int ?_)
 skip
 rw[aQ ⋯];refine aH<|slicePart_none<|aH<|slicePart_none<|aH<|aL ?_;show wpAny _ _ (match Builtin.Slice.sliceAdjust none none (-1) (n:Int)with|(lo,hi)=>pure (lo,(-1:Int),Builtin.Slice.slicePlaces lo hi<|-1)) _ _ s;rw[B5 n];show wpAny _ _ (pure ((n:Int)-1,(-1:Int),Builtin.Slice.slicePlaces ((n:Int)-1) (-1)<|-1)) _ _ s;rw[C1];exact aL h
def HV(xs:Array aa):((List.range xs.size).filterMap λ(m:Nat)=>xs[((xs.size:Int)-1+(m:Int) * (-1)).toNat]?).toArray=xs.toList.reverse.toArray:=by
 have e:(λ(m:Nat)=>xs[((xs.size:Int)-1+(m:Int) * (-1)).toNat]?)=(λx=>xs[x]?) ∘ λk=>xs.size-1-k:=by
  funext m
  have:((xs.size:Int)-1+(m:Int) * (-1)).toNat=xs.size-1-m:=()
  show xs[((xs.size:Int)-1+(m:Int) * (-1)).toNat]?=xs[xs.size-1-m]?;rw[this]
 rw[e,<- List.filterMap_map,PySem.W.krv_range,List.filterMap_reverse,PySem.W.krv_all]
def tQ{J:Array aa}{Q:aa->aE->Prop}(L:IsTup s.heap t J)(hs:s.heap.IsSliceOf sl .none .none<|.int (-1) tk)
  (h:Q (.ref s.heap.objs.size) { s with heap:=s.heap.push { cls:=.type "tuple",data:=.seq J.toList.reverse.toArray }})
  (hsz:J.size<=sizeLine):wpAny (model prog w) A (getItem (.ref t)<|.ref sl) Q E s:=by
 have d:sizeOk (.seq J.toList.reverse.toArray):=by
  show J.toList.reverse.toArray.size<=sizeLine;rw[aP,dM,cE];exact hsz
 obtain⟨os,g,f,p⟩:=id hs;have k:s.TypeIs (.ref sl) "slice" := ⟨os,g,f⟩;unfold getItem
 try with_reducible refine bX ?_
 first|refine aH (aL ?_)|skip
 refine aH<|wpAny_sequenceKey L.typeIs ⋯ ?_;refine aH (cF (name:=Str.ofString "__getitem__") L.typeIs bZ
  (cz bZ L.typeIs entry_tuple_getitem ?_<|args_tuple_getitem _ _))
 show wpAny _ _ (Builtin.Tuple.tupleItemsOf (.ref t) >>= _) _ _ s;refine aH<|tupleItemsOf_ L ?_;refine aH<|wpAny_typeOf k ?_;rw[aT ⋯];refine aH<|uE hs ?_;have j:¬((((J.size:Int)-1) == 0 && (-1:Int) == 1 && J.size == J.size)=true):=by
  intro q;rw[cA,cA]at q;exact absurd q.1.2 ⋯
 show wpAny _ _ (if (((J.size:Int)-1) == 0 && (-1:Int) == 1 && J.size == J.size)=true then _ else _) _ _ s;rw[aQ j,HV]
 first
  | exact aH (m:=Builtin.Tuple.tupleExact _) (bA (aL ⟨_,rfl,aL h⟩) d)
  | exact aH (m:=Builtin.Tuple.tupleExact _) (bA (aH<|aL<|aL ⟨_,rfl,aL h⟩) d)
  | exact aH (aH (m:=Builtin.Tuple.tupleExact _)<|bA (aL<|aL ⟨_,rfl,aL h⟩) d)
  | exact aH<|aH (m:=Builtin.Tuple.tupleExact _)<|bA (aL ⟨_,rfl,aL h⟩) d
end
section
variable {X:Cx}
abbrev Sq (K:az)(te:TE):TE:=λσ H Q=>te σ H λx H1=>∃a xs,x=.ref a/\kZ K H1 a xs/\∀p,H1 p=none->Q (.ref p) (upd H1 p<|.tup xs.reverse)
def Ep{te:TE}{L cp:Pos}(U:PE X e te):PE X (.Subscript e (.Slice none none (some<|.UnaryOp .USub (.Constant (.int 1) kk cp) L) p2) pos) (Sq X.K te):=by
 z_go;refine Subscript_<|jz (U pins s σ H _ I h) λv B ⟨x,H1,m,r1,a,xs,ex,G,q⟩=>?_;subst ex
 cases r1
 refine wpAny_Slice ?_;rw[gw];refine aL ?_;refine aL ?_;rw[evalPart_some];refine jz ((HN (a:=.Constant (.int 1) kk cp) Cm C4) pins B σ H1 (λv H'=>v=.int (-1)/\H'=H1) m ⟨1,rfl,rfl,rfl⟩) λvs s3 h9=>?_;obtain⟨y,H3,k,p,F,C⟩:=h9;subst F C;obtain⟨t,rfl⟩:=p;have f:Inv X pins σ H3 { s3 with heap:=s3.heap.push { cls:=.type "slice",data:=.fields #[.none,.none,.int (-1) t]}}:=k.kept (t':=s3.toks) λb ob q=>aI _ q;obtain⟨d,j,pl,J⟩:=f.tuple G
 skip
 refine tail_any (ops:=[.ref a,.ref s3.heap.objs.size]) pl.typeIs bZ.lookup ?_ (by with_unfolding_all rfl);have g:=j.length;refine tQ pl (f7 ..) ?_ (by rw[aP]<;>lia);refine⟨.ref _,_,f.laid (t':=s3.toks) (o:=.tup xs.reverse) (λb o e=>aI _ e) (aO _) ⟨by rw[dM];exact J,d.reverse,j.reverse,?_⟩,rfl,q _ f.fresh⟩;exact lC.new _ _
end
end L2
namespace L2
open PySem PySem.Spec PyProof.Rows
open PySem.SeqAt
open PySem.AutoSeq1 (wpAny_loadPart')
open PySem.MeetsSeq PySem.MeetsSeq2 PySem.MeetsSeq3 PySem.SeqAt
section
variable {X:Cx}
def HM:kC X (binaryOp .FloorDiv) (rI (λ_ j=>0<j/\j<18446744073709551616) λi j=>.int<|i / j):=TL λi j _ _ _ _ _ hc q=>by
 have h1:(0:Int)<j:=hc.1;have d:j<18446744073709551616:=hc.2;refine floordiv_int (by omega) (by rw[Int.fdiv_eq_ediv_of_nonneg i<|by omega];exact q)<|.inl<|PyProof.noPylong_of_log2 ?_;exact bu ((Nat.log2_lt<|by omega).mpr<|show j.natAbs<2 ^ 64 by omega) ⋯
end
end L2
namespace L2
open PySem PySem.Spec PyProof.Rows
abbrev UX (x:Str):It:=⟨λi _=>i<x.cps.size,λi H v H'=>H'=H/\∃c,x.cps[i]?=some c/\v=.str ⟨#[c]⟩,λi _=>i=x.cps.size⟩
def GQ{P:ah}{w:af}{K:az}(x:Str)(t:Tok)(it:aj):Turn P w K tg (UX x) [it] it (λi h=>h.IsStrIter it "str_ascii_iterator" x t i) where
 mem:=by simp
 obj:=λi h st b f=>by
  have e:b=it:=by simpa using f
  subst e;obtain⟨o,e,c,d⟩:=st;exact⟨o,e,λv z=>by rw[d]at z;cases z⟩
 keep:=λi h h' st k=>let⟨o,ho,r⟩:=st;⟨o,k it (by simp) o ho,r⟩
 item:=by
  x_go;subst hP hw hK;kd_p;have W:=Walks.strAscii (prog:=X.prog) (w:=X.w) (I.ok.hd hc) it x t;refine W.item i s _ _ hg st λv h' tk hv g j=>?_;obtain⟨c,u,m,rfl⟩:=hv;have p:Inv X pins σ H { s with heap:=h',toks:=tk }:=I.turned (λb o f e=>j b o (by simpa using f) e) f0 f1 f3 f4 f5;obtain⟨o,e,B,d⟩:=id g;exact⟨_,rfl,Eb (s:={ s with heap:=h',toks:=tk }) e B d ⋯ ⟨.str ⟨#[c]⟩,H,p,⟨u,rfl⟩,⟨rfl,c,m,rfl⟩,g,λb f=>(hf b f).1⟩⟩
 done:=by
  x_go;subst hP hw hK;kd_p;have hg:i=x.cps.size:=hg;subst hg;have W:=Walks.strAscii (prog:=X.prog) (w:=X.w) (I.ok.hd hc) it x t;exact W.done s _ _ st λh' tk j=>⟨rfl,I.turned (λb o f e=>j b o (by simpa using f) e) f0 f1 f3 f4 f5⟩
 self:=λ_ _ _ _ _ st h=>wpAny_pyIter_striter_ascii st h
section
variable {X:Cx}{tg:aF}
abbrev UY (tl:TE):TI:=λσ H R=>tl σ H λx H1=>∃y:Str,x=.str y/\y.cps.all (· < 128)=true/\R (UX y) H1
def O8{tl:TE}(J:PE X l tl):PI X tg l (UY tl):=by
 intro pins s σ H R I h;refine jz (J pins s σ H _ I h) λv d h9=>?_;obtain⟨x,H1,f,r1,k⟩:=h9;obtain⟨y,e,j,q⟩:=k;subst e;obtain⟨t,rfl⟩:=r1;refine wpAny_pyIter_ascii j ?_;refine⟨d.heap.objs.size,[d.heap.objs.size],_,_,H1,rfl,f.kept (t':=d.toks) λb o e=>aI _ e,GQ y t _,⟨_,aU _ rfl,rfl,rfl⟩,λb g=>?_,q⟩;have e:b=d.heap.objs.size:=by simpa using g
 subst e;exact f.zh (aO _)<|f.hok.fresh<|aO _
theorem rE:∀(tk:Nat) (ys:ar),Vals (ys.map V.str) (strValues<|numbered tk ys)
 | _,[]=>.nil
 | tk,y::ys=>.cons ⟨tk,rfl⟩<|rE (tk+1) ys
def Jw:Cb X "str.split" (λx xs H Q=>∃y z:Str,x=.str y/\xs=[.str z]/\(z.length == 0)=false/\y.length<=sizeLine/\(Txt.split y z).length<=sizeLine/\∀p,H p=none->Q (.ref p) (upd H p<|.lst<|(Txt.split y z).map V.str)):=by
 intro pins s σ H x xs v us Q I rx m h;obtain⟨y,z,rfl,rfl,k,hy,j,q⟩:=h;kj_on;obtain⟨w,rfl,g⟩:=vals1 m;obtain⟨u,rfl⟩:=g;have d:∀(f:Nat) (l:List<|Str×Tok),l.map (·.1)=Txt.split y z->Vals ((Txt.split y z).map V.str) (strValues l)->EP X pins σ Q (.ref s.heap.objs.size) { s with toks:=f,heap:=s.heap.push { cls:=.type "list",data:=.seq (strValues l).toArray }}:=λf l e r=>
  ⟨.ref s.heap.objs.size,_,I.laid (t':=f) (o:=.lst<|(Txt.split y z).map V.str) (λb ob q=>aI _ q) (aO _) ⟨by rw[aK];exact j,_,_,r,aU _ rfl⟩,rfl,q _<|I.hok.fresh<|aO _⟩
 cases h1:(decide (y.length<z.length) || decide (Builtin.Str.strKind y<Builtin.Str.strKind z))
 ·cases hf:(Builtin.Str.occurrences y z 0 y.length<|y.length+1).isEmpty
  ·have es:Txt.split y z=Builtin.Str.partsBetween y (Builtin.Str.occurrences y z 0 y.length<|y.length+1) z.length:=(aQ<|fX h1).trans<|aQ<|fX hf;refine eW F.slot_str_split (f9 _ _ _) gp (gc _ _) (meets_str_split_sep y z t u h1 k hf hy<|by rw[<- es];exact j) ?_
   skip
   rw[strsFrom_eq];exact d _ (numbered s.toks _) ((numbered_texts _ _).trans es.symm)<|by rw[es];exact rE _ _
  ·have es:Txt.split y z=[y]:=(aQ<|fX h1).trans<|aT hf;exact eW F.slot_str_split (f9 _ _ _) gp (gc _ _) (meets_str_split_not_found y z t u h1 k hf)<|d s.toks [(y,t)] es.symm<|by rw[es];exact .cons ⟨t,rfl⟩ .nil
 ·have es:Txt.split y z=[y]:=aT h1;exact eW F.slot_str_split (f9 _ _ _) gp (gc _ _) (meets_str_split_cannot_occur y z t u h1)<|d s.toks [(y,t)] es.symm<|by rw[es];exact .cons ⟨t,rfl⟩ .nil
def xQ:Cb X "str.startswith" (λx xs H Q=>∃y z:Str,x=.str y/\xs=[.str z]/\Q (.bl<|0+z.length<=y.length && Builtin.Str.subAt y z 0) H):=by
 intro pins s σ H x xs v us Q I rx f h;obtain⟨y,z,rfl,rfl,q⟩:=h;kj_on;obtain⟨w,rfl,d⟩:=vals1 f;obtain⟨u,rfl⟩:=d;exact eW F.slot_str_startswith (f9 _ _ _) F.entry_str_startswith (F.args_str_startswith_2 _ _) (gives_str_startswith y z t u).meets ⟨.bl _,H,I,rfl,q⟩
def FT:iQ X (.type "int") (λxs H Q=>∃(y:Str) (n:Int),xs=[.str y]/\y.length<=640/\PySem.intText? y=some n/\Q (.int n) H):=by
 intro pins s σ H xs us Q I f h;obtain⟨y,n,rfl,g,hn,q⟩:=h;obtain⟨w,rfl,d⟩:=vals1 f;obtain⟨u,rfl⟩:=d;exact PySem.W.KIN.call_text hn g ⟨.int n,H,I.tok _,⟨_,rfl⟩,q⟩
end
section
variable {κ:Type}[DecidableEq κ]
abbrev pV (kvs:List<|κ×V)(k:κ):Option V:=(kvs.find? λd=>decide<|d.1=k).map (·.2)
abbrev putK (kvs:List<|κ×V)(k:κ)(v:V):List (κ×V):=
 if (kvs.any λd=>decide<|d.1=k)=true then kvs.map (λd=>if d.1=k then(d.1,v)else d)else kvs++[(k,v)]
abbrev uY (kvs:List<|κ×V)(k:κ):List (κ×V):=kvs.filter λd=>decide<|d.1≠k
def sL{p:κ×V}{r:List<|κ×V}{k:κ}(e:p.1=k):pV (p::r) k=some p.2:=by simp[pV,cL,e]
def sH{p:κ×V}{r:List<|κ×V}{k:κ}(e:¬p.1=k):pV (p::r) k=pV r k:=by simp[pV,cL,e]
theorem vW(k:κ):∀kvs:List<|κ×V,(kvs.any λkv=>decide<|kv.1=k)=(pV kvs k).isSome
 | []=>rfl
 | p::r=>by
  rw[dW];by_cases e:p.1=k
  ·dsimp[sL e,bF e,Bool.true_or,gb]
  ·rw[sH e,bK e,Bool.false_or];exact vW k r
def ve(kvs:List<|κ×V)(k:κ)(v:V):(putK kvs k v).length<=kvs.length+1:=by
 unfold putK;split
 ·rw[aK];lia
 ·rw[aZ,bq,gF];lia
def pT.qV{o:Option V}{u:bd}(r:pT o u):o.isSome=u.isSome:=by
 cases o with
 | none=>cases u with
  | none=>rfl
  | some _=>exact(show False from r).elim
 | some _=>cases u with
  | none=>exact(show False from r).elim
  | some _=>rfl
def pT.getD{o:Option V}{u:bd}{d:V}(r:pT o u)(j:RelV d d'):RelV (o.getD d) (u.getD d'):=by
 cases o with
 | none=>cases u with
  | none=>exact j
  | some _=>exact(show False from r).elim
 | some _=>cases u with
  | none=>exact(show False from r).elim
  | some _=>exact r
def KV.val(r:KV kvs vs)(k:κ):pT (pV kvs k) (valueAt vs k):=by
 unfold KV at r
 induction r with
 | nil=>exact True.intro
 | @cons p q ps d h t j=>
  obtain⟨h1,g⟩:=h;by_cases e:p.1=k
  ·have f:q.1=k:=h1.symm.trans e;have b:valueAt (q::d) k=some q.2:=by simp[valueAt,cL,f]
   rw[sL e,b];exact g
  ·have f:¬q.1=k:=λz=>e<|h1.trans z;have b:valueAt (q::d) k=valueAt d k:=by simp[valueAt,cL,f]
   rw[sH e,b];exact j
def KV.any{kvs:List<|κ×V}{vs:List<|κ×aa}(r:KV kvs vs)(k:κ):(kvs.any λkv=>decide<|kv.1=k)=vs.any λkv=>decide (kv.1=k):=by
 unfold KV at r
 induction r with
 | nil=>rfl
 | cons h t d=>rw[dW,dW,d,h.1]
def KV.repl{kvs:List<|κ×V}{vs:List<|κ×aa}(r:KV kvs vs)(k:κ)(ry:RelV y u) :
  KV (kvs.map λkv=>if kv.1=k then(kv.1,y)else kv) (vs.map λkv=>if kv.1=k then(kv.1,u)else kv):=by
 unfold KV at r ⊢
 induction r with
 | nil=>exact .nil
 | @cons p q ps g h t f=>
  rw[aY,aY];refine .cons ?_ f;obtain⟨h1,d⟩:=h;by_cases e:p.1=k
  ·rw[aT e,aT<|h1.symm.trans e];exact⟨h1,ry⟩
  ·rw[aQ e,aQ λz=>e<|h1.trans z];exact⟨h1,d⟩
def KV.put(r:KV kvs vs)(k:κ)(ry:RelV y u):KV (putK kvs k y) (stored vs k u):=by
 unfold putK stored;rw[r.any k];by_cases e:(vs.any λd=>decide<|d.1=k)=true
 ·rw[aT e,aT e];exact r.repl k ry
 ·rw[aQ e,aQ e];exact Paired.snoc r ⟨rfl,ry⟩
def KV.drop(r:KV kvs vs)(k:κ):KV (uY kvs k) (without vs k):=by
 unfold KV at r ⊢;unfold uY without
 induction r with
 | nil=>exact .nil
 | @cons p q ps j h t d=>
  obtain⟨h1,f⟩:=h;rw[eB,eB];by_cases e:p.1=k
  ·have a:¬decide (p.1≠k)=true:=by simp[e]
   have b:¬decide (q.1≠k)=true:=by simp[h1.symm.trans e]
   rw[aQ a,aQ b];exact d
  ·have g:¬q.1=k:=λz=>e<|h1.trans z;have a:decide (p.1≠k)=true:=by simp[e]
   have b:decide (q.1≠k)=true:=by simp[g]
   rw[aT a,aT b];exact .cons ⟨h1,f⟩ d
def KV.length{kvs:List<|κ×V}{vs:List<|κ×aa}(r:KV kvs vs):kvs.length=vs.length:=gv r
def Be(kvs:List<|κ×V)(k:κ):(uY kvs k).length<=kvs.length:=fH _ _
end
def rG{P:ah}{w:af}{k:Key}(r:RelV (kV k) u):(iR P w).is k u=true:=by
 cases k with
 | inl i=>obtain⟨t,e⟩:=(show ∃t,u=Value.int i t from r);subst e;exact Aj P w i t
 | inr x=>obtain⟨t,e⟩:=(show ∃t,u=Value.str x t from r);subst e;exact A9 P w x t
theorem yC{P:ah}{w:af}:∀{ks:List Key}{us:ba},Vals (ks.map kV) us->ItemsAre (iR P w) ks us
 | [],_,r=>by rw[gA]at r;cases r;exact .nil
 | k::ks,_,r=>by
  rw[aY]at r
  cases r with
  | cons h t=>exact .cons (rG h)<|yC t
meta abbrev KT (H:Hp):List (List Key×V)->List (List Key×aj×aa)->Prop:=Paired λp q=>p.1=q.1/\H q.2.1=some (.tup<|p.1.map kV)/\RelV p.2 q.2.2
def KT.val{H:Hp}(r:KT H kvs xs)(k:List Key):pT (pV kvs k) ((atKey xs k).map (·.2)):=by
 induction r with
 | nil=>exact True.intro
 | @cons p q ps d h t j=>
  obtain⟨h1,_,g⟩:=h;by_cases e:p.1=k
  ·have f:q.1=k:=h1.symm.trans e;have b:atKey (q::d) k=some q.2:=by simp[atKey,cL,f]
   rw[sL e,b];exact g
  ·have f:¬q.1=k:=λz=>e<|h1.trans z;have b:atKey (q::d) k=atKey d k:=by simp[atKey,cL,f]
   rw[sH e,b];exact j
def KT.repl{H:Hp}{kvs:List<|List Key×V}{xs:List<|List Key×aj×aa}(r:KT H kvs xs)(k:List Key)(ry:RelV y u) :
  KT H (kvs.map λkv=>if kv.1=k then(kv.1,y)else kv) (xs.map<|putAt k u):=by
 induction r with
 | nil=>exact .nil
 | @cons p q ps j h t g=>
  rw[aY,aY];refine .cons ?_ g;obtain⟨h1,d,f⟩:=h;unfold putAt;by_cases e:p.1=k
  ·rw[aT e,aT<|h1.symm.trans e];exact⟨h1,d,ry⟩
  ·rw[aQ e,aQ λz=>e<|h1.trans z];exact⟨h1,d,f⟩
def KT.put{H:Hp}(r:KT H kvs xs)(k:List Key)(hb:H b=some (.tup<|k.map kV))(ry:RelV y u) :
  KT H (putK kvs k y) (storedH xs k b u):=by
 have e:(kvs.any λd=>decide<|d.1=k)=(atKey xs k).isSome:=by
  rw[vW,(r.val k).qV,gq]
 unfold putK storedH;rw[e];by_cases q:(atKey xs k).isSome=true
 ·rw[aT q,aT q];exact r.repl k ry
 ·rw[aQ q,aQ q];exact Paired.snoc r ⟨rfl,hb,ry⟩
def KT.keeps{H H':Hp}(r:KT H kvs xs)(j:∀b ys,H b=some (.tup ys)->H' b=some (.tup ys)):KT H' kvs xs:=
 Paired.Qt r λ_ _ z=>⟨z.1,j _ _ z.2.1,z.2.2⟩
section
variable {P:ah}{w:af}{H:Hp}{h:au}{a:aj}
def NY(ok:qR P w H h)(e:Rd H a u):jm P w H h a u:=e.ok ok
def yG{kvs:List<|Key×V}(ok:qR P w H h)(e:Rd H a<|.dK kvs):kvs.length<=sizeLine/\(a == sysModules)=false/\∃vs,KV kvs vs/\h.DictOf (iR P w) a vs:=
 show jm P w H h a (.dK kvs)from NY ok e
def BK{kvs:List<|Key×V}(ok:qR P w H h)(e:H a=some (.dK kvs)):kvs.length<=sizeLine/\(a == sysModules)=false/\∃vs,KV kvs vs/\h.DictOf (iR P w) a vs:=yG ok<|.inl e
def wu{ks:List Key}(ok:qR P w H h)(e:H a=some (.tup<|ks.map kV)):(tupleKind<|iR P w).is h ks a:=by
 obtain⟨_,d,r,o,h1,f,_,n,g⟩:=(show jm P w H h a (.tup<|ks.map kV)from ok a _ e);exact⟨o,d.toArray,n,h1,f,g,by simpa using yC r⟩
def An{kvs:List<|List Key×V}(ok:qR P w H h)(e:Rd H a<|.dT kvs):kvs.length<=sizeLine/\(a == sysModules)=false /\
  ∃xs,KT H kvs xs/\h.DictOfH (tupleKind<|iR P w) a xs:=by
 obtain⟨z,y,xs,r,o,es,ep,h1,j,k,g,C⟩:=(show jm P w H h a (.dT kvs)from NY ok e);refine⟨z,y,xs,r,o,es,ep,h1,j,k,g,λx d=>?_,C⟩;have all:∀{l:List<|List Key×V} {m:List<|List Key×aj×aa},KT H l m->∀x∈m,(tupleKind<|iR P w).is h x.1 x.2.1:=by
  intro l m q
  induction q with
  | nil=>intro x d;exact nomatch d
  | @cons p q ps F f t B=>
   intro x d
   rcases bG.mp d with e|d
   ·subst e;exact wu ok (by rw[<- f.1];exact f.2.1)
   ·exact B x d
 exact all r x d
def TF{kvs:List<|List Key×V}(ok:qR P w H h)(e:H a=some (.dT kvs)):kvs.length<=sizeLine/\(a == sysModules)=false /\
  ∃xs,KT H kvs xs/\h.DictOfH (tupleKind<|iR P w) a xs:=An ok<|.inl e
end
abbrev vD (H:Hp)(a:aj)(y:V)(r:Option V):Prop:=
 (∃kvs k,Rd H a (.dK kvs)/\y=kV k/\r=pV kvs k)\/∃kvs k b,Rd H a (.dT kvs)/\y=.ref b/\H b=some (.tup<|k.map kV)/\r=pV kvs k
abbrev JD (H:Hp)(a:aj)(y v:V)(H':Hp):Prop:=
 (∃kvs k,H a=some (.dK kvs)/\y=kV k/\kvs.length<sizeLine/\H'=upd H a (.dK<|putK kvs k v)) \/
 ∃kvs k b,H a=some (.dT kvs)/\y=.ref b/\H b=some (.tup<|k.map kV)/\kvs.length<sizeLine/\H'=upd H a (.dT<|putK kvs k v)
theorem vD.k{H:Hp}{a:aj}{k:Key}(e:H a=some (.dK kvs)):vD H a (kV k) (pV kvs k):=.inl ⟨kvs,k,.inl e,rfl,rfl⟩
theorem JD.k{H:Hp}{a:aj}{kvs:List<|Key×V}{k:Key}{v:V}(e:H a=some (.dK kvs))(j:kvs.length<sizeLine):JD H a (kV k) v (upd H a<|.dK<|putK kvs k v):=.inl ⟨kvs,k,e,rfl,j,rfl⟩
section
variable {X:Cx}{pins:bo}{σ:St}{H:Hp}{s:aE}{a:aj}{y v:V}{u r:aa}{o:Option V}{A:aA}{E:aa->aE->Prop}
def Inv.big(I:Inv X pins σ H s):sysModules<s.heap.objs.size:=by
 have h:mainGlobals<s.heap.objs.size:=(I.mod.glob.keeps I.bk).lt;exact Nat.lt_trans ⋯ h
def F3{Q:aa->aE->Prop}(J:A.units+1<cLine)(I:Inv X pins σ H s)(g:vD H a y<|some v)(ry:RelV y u)(h:∀w' s',Inv X pins σ H s'->RelV v w'->Q w' s') :
  wpAny (model X.prog X.w) A (getItem (.ref a) u) Q E s:=by
 rcases g with⟨kvs,k,e,m,l⟩|⟨kvs,k,b,e,m,B,l⟩
 ·subst m;obtain⟨z,hd,vs,d,dd⟩:=yG I.hok e;obtain⟨w',hw,f⟩:=pT.some_of (v:=v) (o:=valueAt vs k) (by rw[l];exact d.val k);exact wpAny_getItem_of (rG ry) dd.mapOf hw (h w' _ (I.tok _) f)
 ·subst m
  cases(show u=Value.ref b from ry)
  obtain⟨z,hd,xs,d,dd⟩:=An I.hok e;obtain⟨w',hw,f⟩:=pT.some_of (v:=v) (o:=(atKey xs k).map (·.2)) (by rw[l];exact d.val k);obtain⟨p,hp,j⟩:=aV.mp hw;refine wpAny_getItem_heap (eX J) (wu I.hok B) dd hp ?_;rw[j];exact h w' _ (I.tok _) f
def LL{Q:aa->aE->Prop}(J:A.units+1<cLine)(I:Inv X pins σ H s)(g:vD H a y o)(ry:RelV y u)(h:∀s',Inv X pins σ H s'->Q (.bool<|!o.isSome) s') :
  wpAny (model X.prog X.w) A (compareOp .NotIn u<|.ref a) Q E s:=by
 rcases g with⟨kvs,k,e,f,l⟩|⟨kvs,k,b,e,f,j,l⟩
 ·subst f;obtain⟨z,hd,vs,d,dd⟩:=yG I.hok e;refine wpAny_notIn_of (rG ry) hd dd.mapOf ?_;rw[<- (d.val k).qV,<- l];exact h _ (I.tok _)
 ·subst f
  cases(show u=Value.ref b from ry)
  obtain⟨z,hd,xs,d,dd⟩:=An I.hok e;refine wpAny_notIn_heap (eX J) (wu I.hok j) hd dd ?_;have q:=(d.val k).qV;rw[gq]at q;rw[<- q,<- l];exact h _<|I.tok _
def sZ{h':au}{t':Nat}{ob:HO}(I:Inv X pins σ H s)(j:Sa<|H a)(hs:Heap.SameBut a s.heap h')(J:∃q,h'.get? a=some q)(new:jm X.prog X.w (upd H a ob) h' a ob) :
  Inv X pins σ (upd H a ob) { s with heap:=h',toks:=t' }:=
 I.write (x:=a) (e:=a) j (.inl rfl) (λb q d z=>(hs.2 b d).trans z) J new
def zb{P:ah}{w:af}{H':Hp}{h':au}{kvs:List<|Key×V}(z:kvs.length<=sizeLine)(hd:(a == sysModules)=false)(j:KV kvs vs)(dd:h'.DictOf (iR P w) a vs) :
  jm P w H' h' a (.dK kvs):=⟨z,hd,vs,j,dd⟩
def FP{H':Hp}{Q:Unit->aE->Prop}(Z:A.units+1<cLine)(I:Inv X pins σ H s)(g:JD H a y v H')(ry:RelV y u)(U:RelV v r)(h:∀s',Inv X pins σ H' s'->Q Unit.unit s') :
  wpAny (model X.prog X.w) A (setItem (.ref a) u r) Q E s:=by
 rcases g with⟨kvs,k,e,m,l,j⟩|⟨kvs,k,b,e,m,F,l,j⟩
 ·subst m j;obtain⟨z,hd,vs,d,dd⟩:=BK I.hok e;have B:vs.length<=sizeLine:=by rw[<- d.length];exact z
  have p:(putK kvs k v).length<=sizeLine:=by have:=ve kvs k v;lia
  refine wpAny_setItem_pairs (hsz:=B) (rG ry) dd λh' dd' hs=>h _ ?_;have L:∃q,h'.get? a=some q:=let⟨q,_,_,f,_⟩:=dd';⟨q,f⟩
  exact sZ I (by rw[e];exact True.intro) hs L<|zb p hd (d.put k U) dd'
 ·subst m j
  cases(show u=Value.ref b from ry)
  obtain⟨z,hd,xs,d,dd⟩:=TF I.hok e;have B:xs.length<=sizeLine:=by rw[<- gv d];exact z
  have p:(putK kvs k v).length<=sizeLine:=by have:=ve kvs k v;lia
  refine wpAny_setItem_heap (hsz:=B) (eX Z) (wu I.hok F) dd λh' dd' hs=>h _ ?_;obtain⟨q,es,ep,f,G,K,J,_,N⟩:=dd';refine sZ I (by rw[e];exact True.intro) hs ⟨q,f⟩ ⟨p,hd,_,(d.put k F U).keeps λc ys C=>?_,q,es,ep,f,G,K,J,N⟩;rw[gV<|NV C e λz=>nomatch z];exact C
end
section
variable {X:Cx}{pins:bo}{σ:St}{H:Hp}{s:aE}{a:aj}{kvs:List (Key×V)}{k:Key}{u:aa}{A:aA}{E:aa->aE->Prop}
def Gz{Q:Unit->aE->Prop}(I:Inv X pins σ H s)(e:H a=some (.dK kvs))(ry:RelV (kV k) u)(l:(pV kvs k).isSome=true)(h:∀s',Inv X pins σ (upd H a<|.dK<|uY kvs k) s'->Q Unit.unit s') :
  wpAny (model X.prog X.w) A (delItem (.ref a) u) Q E s:=by
 obtain⟨z,hd,vs,d,dd⟩:=BK I.hok e;refine wpAny_delItem_slot dd.typeIs ⋯ PySem.F.slot_dict_delitem
  (gB PySem.F.slot_dict_delitem dd.typeIs PySem.F.entry_dict_delitem (PySem.F.args_dict_delitem_2 _ _) (meets_dict_delitem_pairs (iR X.prog X.w) a<|rG ry) ⟨vs,dd,by rw[<- d.length];exact z,by rw[<- (d.val k).qV];exact l,λh' dd' hs=>h _ ?_⟩)
 have f:∃q,h'.get? a=some q:=let⟨q,_,_,hq,_⟩:=dd';⟨q,hq⟩
 exact sZ I (by rw[e];exact True.intro) hs f<|zb (bN (Be kvs k) z) hd (d.drop k) dd'
def R_{v:V}{Q:aa->aE->Prop}(I:Inv X pins σ H s)(e:H a=some (.dK kvs))(ry:RelV (kV k) u)(l:pV kvs k=some v)(J:more=[]\/∃x,more=[x])
  (h:∀w' s',Inv X pins σ (upd H a<|.dK<|uY kvs k) s'->RelV v w'->Q w' s'):wpAny (model X.prog X.w) A (call (.builtin "dict.pop") (.ref a::u::more)) Q E s:=by
 obtain⟨z,hd,vs,d,dd⟩:=BK I.hok e;obtain⟨w',hw,f⟩:=pT.some_of (v:=v) (o:=valueAt vs k) (by rw[<- l];exact d.val k);have hp:(keyPart u).isSome=true:=by
  cases k with
  | inl i=>obtain⟨t,q⟩:=(show ∃t,u=Value.int i t from ry);subst q;rfl
  | inr x=>obtain⟨t,q⟩:=(show ∃t,u=Value.str x t from ry);subst q;rfl
 have g:argsOk "dict.pop" ⟨.ref a::u::more,[]⟩:=by
  rcases J with q|⟨x,q⟩
  ·subst q;exact PySem.F.args_dict_pop_2 _ _
  ·subst q;exact PySem.F.args_dict_pop_3 _ _ _
 refine gB PySem.F.slot_dict_pop dd.typeIs PySem.F.entry_dict_pop g (meets_dict_pop_there (iR X.prog X.w) a (rG ry) more J hp)
  ⟨vs,w',dd,by rw[<- d.length];exact z,hw,λh' dd' hs=>h w' _ ?_ f⟩
 have j:∃q,h'.get? a=some q:=let⟨q,_,_,hq,_⟩:=dd';⟨q,hq⟩
 exact sZ I (by rw[e];exact True.intro) hs j<|zb (bN (Be kvs k) z) hd (d.drop k) dd'
def Rq{Q:aa->aE->Prop}(I:Inv X pins σ H s)(e:Rd H a<|.dK kvs)(h:∀t s',Inv X pins σ H s'->Q (.int kvs.length t) s'):wpAny (model X.prog X.w) A (call (.builtin "len") [.ref a]) Q E s:=by
 obtain⟨z,hd,vs,d,dd⟩:=yG I.hok e;refine call_len_dict hd dd (by rw[<- d.length];rw[bD]at z;lia) ?_;rw[<- d.length];exact h _ _<|I.tok _
end
def BC{H:Hp}{s:aE}{a:aj}(I:Inv X pins σ H s)(g:vD H a y o):s.TypeIs (.ref a) "dict" := by
 rcases g with⟨kvs,k,e,_,_⟩|⟨kvs,k,b,e,_,_,_⟩
 ·obtain⟨_,_,vs,_,dd⟩:=yG I.hok e;exact dd.typeIs
 ·obtain⟨_,_,xs,_,dd⟩:=An I.hok e;exact dd.typeIs
abbrev Tj (td ty:TE):TS:=λD σ H=>td σ H λx H1=>ty σ H1 λy H2=>∃a kvs k,x=.ref a/\H2 a=some (.dK kvs)/\y=kV k/\(pV kvs k).isSome=true/\D.nx σ (upd H2 a<|.dK<|uY kvs k)
section
variable {X:Cx}{o i e:aF}{pos tpos:Pos}{td ty:TE}
def Nh(J:PE X o td)(hi:PE X i ty):PS X (.Delete [.Subscript o i tpos] pos) (Tj td ty):=by
 kcf_m;refine wpAny_Delete<|wpAny_deleteEach_cons<|wpAny_delete_Subscript<|jz (J pins s σ H _ I h) λu g ⟨x,H1,f,rx,j⟩=>jz (hi pins g σ H1 _ f j) λiv s2 ⟨y,H2,p,ry,a,kvs,k,ex,e,m,l,B⟩=>?_;subst ex m;obtain rfl:u=Value.ref a:=rx;exact Gz p e ry l λs3 d=>wpAny_deleteEach_nil ⟨σ,_,d,B⟩
end
def Ie{P:ah}{w:af}{H:Hp}(h:au)(hb:sysModules<h.objs.size):jm P w H (h.push { cls:=.type "dict",data:=.dict #[]}) h.objs.size (.dK []):=
 ⟨eZ _,b7.mpr<|bP<|br hb,[],.nil,Heap.DictOf.new h⟩
abbrev P4:TE:=λ_ H Q=>∀p,H p=none->Q (.ref p) (upd H p<|.dK [])
section
variable {X:Cx}{pos:Pos}
def KY:PE X (.Dict [] [] pos) P4:=λpins s σ H Q I h=>
 wpAny_Dict_empty ⟨.ref s.heap.objs.size,_,I.laid (a:=s.heap.objs.size) (o:=.dK []) (t':=s.toks) (λ_ _ q=>aI _ q) (aO _)<|Ie s.heap I.big,rfl,h _<|I.hok.fresh<|aO _⟩
end
section
variable {X:Cx}{pins:bo}{σ:St}{H:Hp}{s:aE}{a:aj}{y:V}{u:aa}{o:Option V}{A:aA}{E:aa->aE->Prop}
def QB{Q:aa->aE->Prop}(J:A.units+1<cLine)(I:Inv X pins σ H s)(g:vD H a y o)(ry:RelV y u)(h:∀w' s',Inv X pins σ H s'->RelV (o.getD .non) w'->Q w' s') :
  wpAny (model X.prog X.w) A (call (.builtin "dict.get") [.ref a,u]) Q E s:=by
 rcases g with⟨kvs,k,e,f,l⟩|⟨kvs,k,b,e,f,j,l⟩
 ·subst f;obtain⟨z,hd,vs,d,dd⟩:=yG I.hok e;refine gB fJ dd.typeIs PySem.F.entry_dict_get (PySem.F.args_dict_get_2 _ _) (meets_dict_get (iR X.prog X.w) a (rG ry) hd) ⟨_,dd.mapOf,h _ _ (I.tok _) ?_⟩;rw[l];exact(d.val k).getD rfl
 ·subst f
  cases(show u=Value.ref b from ry)
  obtain⟨z,hd,xs,d,dd⟩:=An I.hok e;refine gB fJ dd.typeIs PySem.F.entry_dict_get (PySem.F.args_dict_get_2 _ _) (meetsH_dict_get (tupleKind<|iR X.prog X.w) a b hd) ⟨eX J,k,xs,wu I.hok j,dd,h _ _ (I.tok _) ?_⟩;rw[l];exact(d.val k).getD rfl
end
meta abbrev Gf:=ag×ag
abbrev Ob (x:ag):Int:=reduceHash<|Builtin.Tuple.tupleHashOf<|x.map hashInt
abbrev Tp (k:Gf):Int:=reduceHash<|Builtin.Tuple.tupleHashOf [Ob k.1,Ob k.2]
abbrev VX (x:(Gf×aj×aa)):DictEntry:=⟨Tp x.1,.ref x.2.1,x.2.2⟩
abbrev Ux (a:aj)(xs:List<|Gf×aj×aa)(h:au):Prop:=(a == sysModules)=false/\xs.length<=sizeLine/\∃o es ep,h.get? a=some o/\o.ExactDict/\o.data=.dict es ep/\es.toList=xs.map VX/\(xs.map (·.1)).Nodup
abbrev AY (H:Hp)(b:aj)(k:Gf):Prop:=∃r1 r2,H b=some (.tup [.ref r1,.ref r2])/\H r1=some (.tup<|k.1.map V.int)/\H r2=some (.tup<|k.2.map V.int)
section
variable {X:Cx}
def LX(J:X.A.units+1<cLine):Ol X (λx y H Q=>∃a v,x=.ref a/\vD H a y (some v)/\Q v H):=by
 intro value f pins s σ H x y v u Q I rx ry h hs;obtain⟨a,z,rfl,g,q⟩:=h
 cases rx
 have m:=BC I g;unfold subscriptTail;refine aH ?_;rw[getitemInPython_of_ne m.not_modules];refine aH<|wpAny_specialOf m PySem.F.slot_dict_getitem.lookup ?_;have d:wpAny (model X.prog X.w) X.A (subscripted f false (.ref a) u) (λr j=>wpAny (model X.prog X.w) X.A (letTemporaryGo value (.ref a) r >>= λ_=>pure r) (EP X pins σ Q) X.xe j) X.xe s:=by
  rw[hs];exact wpAny_operating<|F3 J I g ry λB s3 p k=>aH<|wpAny_letTemporaryGo<|aL ⟨z,H,p,k,q⟩
 first
  | exact aL (aH d)
  | exact aH (aL<|aH d)
  | exact aH d
def FZ(j:X.A.units+1<cLine):kC X (compareOp .NotIn) (λy x H Q=>∃a o,x=.ref a/\vD H a y o/\Q (.bl<|!o.isSome) H):=by
 intro pins s σ H y x v u Q I ry rx h;obtain⟨a,o,rfl,g,q⟩:=h
 cases rx
 exact LL j I g ry λs3 d=>⟨.bl<|!o.isSome,H,d,rfl,q⟩
def set_dict(J:X.A.units+1<cLine):Iu X (λo i v H Q=>∃a H',o=.ref a/\JD H a i v H'/\Q H'):=by
 intro pins s σ H o i v m iv u Q I d f j h;obtain⟨a,H',rfl,g,q⟩:=h
 cases d
 exact FP J I g f j λp k=>⟨H',k,q⟩
end
section
variable {P:ah}{w:af}{A:aA}{E:aa->aE->Prop}{s:aE}{it d:aj}{i ep:Nat}{es:Array DictEntry}{o:Obj}{k0 v0:aa}
def Nf{Q:bd->aE->Prop}(hi:IsItemIter s.heap it d i es.size ep k0 v0)(ho:s.heap.get? d=some o)(hd:o.data=.dict es ep)(lt:i<es.size)
  (q:∀h',IsItemIterOut h' it d (i+1) es.size ep es[i].key es[i].val s.heap.objs.size->h'.get? s.heap.objs.size=some { cls:=.type "tuple",data:=.seq #[es[i].key,es[i].val]}->h'.objs.size=s.heap.objs.size+1 ->
   (∀b ob,b≠it->s.heap.get? b=some ob->h'.get? b=some ob)->Q (some<|.ref s.heap.objs.size) { s with heap:=h' }) :
  wpAny (model P w) A (pyNext<|.ref it) Q E s:=by
 obtain⟨hp,U,N,tk,os⟩:=s;have ty:Shared.TypeIs ⟨hp,U,N,tk,os⟩ (.ref it) "dict_itemiterator" := ⟨_,hi,rfl⟩;have own:Builtin.Dict_items.ownsTuple "dict_itemiterator" = true:=by decide
 have nn:¬((Value.ref d == Value.none)=true):=bh;have n0:¬((i:Int)<0):=()
 unfold pyNext;refine aH<|eO<|cF (name:=Str.ofString "__next__") ty bO<|cz bO ty eG ?_<|eE _;refine aH (aL<|aH<|aH ?_)
 first
  | refine aH (cT ty<|aL<|aH<|gf hi rfl ?_)
  | refine aH<|dw ty<|aL<|aH<|gf hi rfl ?_
 dsimp[own,dD];show wpAny (model P w) _ (if (Value.ref d == Value.none)=true then _ else _) _ _ ⟨hp,U,N,tk,os⟩;rw[aQ nn];refine aH<|aL<|aH<|gr ho hd ?_;rw[aQ<|show ¬_ by simp];refine aH<|aL<|aH<|wpAny_dictEpoch ho hd ?_;rw[aQ<|show ¬_ by simp];refine aL ?_;dsimp[n0,eN,cO,Array.getElem?_eq_getElem lt];refine aH ?_
 first
  | refine aH (cT ty<|aL<|aH<|dQ ty ?_)
  | refine aH<|dw ty<|aL<|aH<|dQ ty ?_
 show wpAny (model P w) _ (setField (.ref it) 3 (rawInt<|(i:Int)+1) >>= _) _ _ _;refine aH (dR hi (show _ by simp) λh1 e1 F=>?_);have F:Heap.SameBut it hp h1:=F;have e1:IsItemIter h1 it d (i+1) es.size ep k0 v0:=by
  have z:((i+1:Nat):Int)=(i:Int)+1:=()
  unfold IsItemIter;rw[z];simpa[rawInt]using e1
 have k:Shared.TypeIs ⟨h1,U,N,tk,os⟩ (.ref it) "dict_itemiterator" := ⟨_,e1,rfl⟩;refine aH (bX<|aH<|dQ k<|aH<|dQ k ?_)
 skip
 delta Builtin.Dict_items.pairFromOwner;refine aH<|wpAny_newTuple<|?_;have il:it<hp.objs.size:=aS hi;have j:h1.objs.size=hp.objs.size:=F.1;obtain⟨g,f⟩:∃g,g=h1.push { cls:=.type "tuple",data:=.seq #[es[i].key,es[i].val]}:=⟨_,rfl⟩;have e2:IsItemIter g it d (i+1) es.size ep k0 v0:=by rw[f];exact aI _ e1
 have t2:g.get? hp.objs.size=some { cls:=.type "tuple",data:=.seq #[es[i].key,es[i].val]}:=by rw[f,<- j];exact aU _ rfl
 have T:g.objs.size=hp.objs.size+1:=by rw[f,cH,j]
 have L:∀b ob,b≠it->hp.get? b=some ob->g.get? b=some ob:=λb ob nb p=>by rw[f];exact aI _ (F.extBut b ob nb p)
 skip
 rw[<- f,j];refine aH ?_;delta Builtin.Dict_items.ownedTupleIsFree;refine aH<|bR e2 rfl (x:=.none) rfl<|aL ?_;dsimp[dD];refine aH<|bR e2 rfl (x:=k0) rfl<|aH<|bR e2 rfl (x:=v0) rfl ?_;refine aH (dR e2 (show _ by simp) λV e3 J=>?_);have J:Heap.SameBut it g V:=J;have e3:IsItemIter V it d (i+1) es.size ep es[i].key v0:=e3;refine aH (dR e3 (show _ by simp) λO Y G=>?_);have G:Heap.SameBut it V O:=G;have Y:IsItemIter O it d (i+1) es.size ep es[i].key es[i].val:=Y;refine aH (dR Y (show _ by simp) λh5 Z C=>?_);have C:Heap.SameBut it O h5:=C;have Z:IsItemIterOut h5 it d (i+1) es.size ep es[i].key es[i].val hp.objs.size:=Z;refine aH (dR Z (show _ by simp) λh6 K B=>?_);have B:Heap.SameBut it h5 h6:=B;have K:IsItemIterOut h6 it d (i+1) es.size ep es[i].key es[i].val hp.objs.size:=K;have m:∀b ob,b≠it->g.get? b=some ob->h6.get? b=some ob:=λb ob nb p=>B.extBut b ob nb<|C.extBut b ob nb<|G.extBut b ob nb<|J.extBut b ob nb p;refine aH (wpAny_letGo<|aL<|aL ⟨_,rfl,aL<|q h6 K (m _ _ (ez il) t2) ?_ λb ob nb p=>m b ob nb<|L b ob nb p⟩)
 skip
 rw[B.1,C.1,G.1,J.1,T]
def Qw{Q:bd->aE->Prop}(hh:A.handled=none)(hi:IsItemIter s.heap it d i es.size ep k0 v0)(j:s.heap.get? d=some o)(hd:o.data=.dict es ep)(J:es.size<=i)
  (q:∀h',Heap.ExtBut it s.heap h'->Q none { s with heap:=h' }):wpAny (model P w) A (pyNext<|.ref it) Q E s:=by
 have ty:s.TypeIs (.ref it) "dict_itemiterator" := ⟨_,hi,rfl⟩;have own:Builtin.Dict_items.ownsTuple "dict_itemiterator" = true:=by decide
 have f:¬((Value.ref d == Value.none)=true):=bh;have g:¬((i:Int)<0):=()
 unfold pyNext;refine aH<|eO<|cF (name:=Str.ofString "__next__") ty bO<|cz bO ty eG ?_<|eE _;refine aH (aL<|aH<|aH ?_)
 first
  | refine aH (cT ty<|aL<|aH<|gf hi rfl ?_)
  | refine aH<|dw ty<|aL<|aH<|gf hi rfl ?_
 dsimp[own,dD];show wpAny (model P w) _ (if (Value.ref d == Value.none)=true then _ else _) _ _ s;rw[aQ f];refine aH<|aL<|aH<|gr j hd ?_;rw[aQ<|show ¬_ by simp];refine aH<|aL<|aH<|wpAny_dictEpoch j hd ?_;rw[aQ<|show ¬_ by simp];refine aL ?_;dsimp[g,eN,cO,Array.getElem?_eq_none J];refine aH ?_
 first
  | refine aH (cT ty<|aL ?_)
  | refine aH<|dw ty<|aL ?_
 show wpAny (model P w) _ (setField (.ref it) 2 .none >>= _) _ _ s;refine aH (d_ hi rfl (show _ by simp) ?_)
 skip
 refine aH ?_;dsimp[newExc,newTuple];refine aH (bA (aH (m:=firstArgMember _ _)<|wpAny_of_eq (a:=Value.none) (by first|rfl|(dsimp[firstArgMember];rfl))<|bA ?_<|by size_fits)<|by size_fits);dsimp[raiseNew];have hn:A.in1.handled=none:=hh;refine aH<|wpAny_handled<|?_;rw[hn];refine aH<|aL<|wpAny_throw<|?_;refine aH<|wpAny_isInstance (b:=true) (T := "StopIteration") ⟨_,aU _ rfl,rfl⟩ isSubtype_stop<|aL<|q _<|((eF ..).extBut.push _).push _
end
def LZ:entryFor table "dict_itemiterator.__iter__" = some Builtin.«dict_keyiterator.__iter__»:=entryFor_alias (by kernel_rfl) rfl (id' := "dict_keyiterator.__iter__") ∅ (by kernel_rfl)
section
variable {X:Cx}
def Ay{A:aA}{E:aa->aE->Prop}{s:aE}{d:aj}{Q:aa->aE->Prop}(ty:s.TypeIs (.ref d) "dict")(hd:(d == sysModules)=false)
  (q:Q (.ref s.heap.objs.size) { s with heap:=s.heap.push { cls:=.type "dict_items",data:=.fields #[.ref d]}}):wpAny (model X.prog X.w) A (call (.builtin "dict.items") [.ref d]) Q E s:=by
 refine cz PySem.F.slot_dict_items ty PySem.F.entry_dict_items ?_<|PySem.F.args_dict_items_1 _;delta Builtin.«dict.items»;refine aH ?_;delta Builtin.Dict.noArgs;refine aH (wpAny_notOrdered_dict ty ?_)
 skip
 refine aL ?_
 skip
 delta Builtin.Dict.showsAll;have f:¬((d == sysModules)=true):=by rw[hd];exact bh
 rw[aQ f];exact aH<|aL<|aH<|bA<|aL ⟨_,rfl,q⟩
def A3{A:aA}{E:aa->aE->Prop}{s:aE}{v d:aj}{o:Obj}{es:Array DictEntry}{Q:aa->aE->Prop}(hv:s.heap.IsItemsView v d)(J:s.heap.get? d=some o)(hd:o.data=.dict es ep)
  (q:Q (.ref s.heap.objs.size) { s with heap:=s.heap.push { cls:=.type "dict_itemiterator",data:=.fields #[.none,.bool false,.ref d,.int 0 0,.int es.size 0,.int ep 0,.none,.none]}}) :
  wpAny (model X.prog X.w) A (pyIter<|.ref v) Q E s:=by
 obtain⟨k,f,j,g⟩:=id hv;have own:Builtin.Dict_items.ownsTuple "dict_itemiterator" = true:=by decide
 refine wpAny_pyIter_slot hv.typeIs fS<|cz fS hv.typeIs PySem.F.entry_dict_items_iter ?_<|PySem.F.args_dict_items_iter_1 _;delta Builtin.«dict_items.__iter__»;refine aH<|aL<|aH ?_;delta Builtin.Dict_items.dictOf;refine aH<|bR f g (x:=.ref d) rfl<|aL<|aH ?_;delta Builtin.Dict_items.newIterator;refine aH<|gr J hd<|aH<|wpAny_dictEpoch J hd ?_;dsimp[own,dD];refine bA (aL ⟨_,rfl, "dict_itemiterator",_,⟨_,aU _ rfl,rfl⟩,bO.lookup,?_⟩) (by dsimp[sizeOk,Builtin.Dict_items.ownedTupleFields,aP,aZ,bq,gF,bD];lia);simpa[rawInt,Builtin.Dict_items.ownedTupleFields]using q
end
abbrev C0 (e:aj)(h:au):Prop:=∃o vs,h.get? e=some o/\o.data=.fields vs/\vs[2]?=some .none/\o.dict=none
abbrev iJ (e:aj){α:Type}(m:Sem α):Prop:=∀(M:Model) (d:PySem.Ctx) (Q:α->Pos->aE->Prop) (E:aa->Pos->aE->Prop) (p:Pos) (s:aE),Sem.wp M d m Q E p s->C0 e s.heap->Sem.wp M d m (λa p s=>Q a p s/\C0 e s.heap) (λv p s=>E v p s/\C0 e s.heap) p s
section
variable {e:aj}{α β:Type}
def iJ.bind{m:Sem α}{f:α->Sem β}(h1:iJ e m)(j:∀a,iJ e<|f a):iJ e (m >>= f):=by
 intro M d Q E p s h c;rw[Sem.wp_bind']at h ⊢;exact Sem.wp_mono M d m (λa g s' z=>j a M d Q E g s' z.1 z.2) (λ_ _ _ z=>z) p s<|h1 M d _ _ p s h c
theorem iJ.pure(a:α):iJ e (pure a:Sem α):=λM d Q E p s h c=>by rw[Sem.wp_pure']at h ⊢;exact⟨h,c⟩
def iJ.Jr(w:String):iJ e (PySem.unsupported w:Sem α):=λM d Q E p s h c=>by
 have h:Sem.wp M d (.unsupported w:Sem α) Q E p s:=h;rw[Sem.wp_unsupported]at h;exact h.elim
def iJ.load(a:aj):iJ e (PySem.load a):=λM d Q E p s h c=>by
 have h:Sem.wp M d (.load a none .pure) Q E p s:=h;show Sem.wp M d (.load a none .pure) _ _ p s;rw[Sem.wp_load]at h ⊢;obtain⟨o,f,h⟩:=h;rw[fN]at h;exact⟨o,f,by rw[fN];exact⟨h,c⟩⟩
def C0.update{h:au}{a:aj}{f:Obj->Obj}(c:C0 e h)(hf:∀o vs,o.data=.fields vs->vs[2]?=some .none->∃ws,(f o).data=.fields ws/\ws[2]?=some .none/\(f o).dict=o.dict):C0 e (h.update a f):=by
 obtain⟨o,vs,h1,g,j,d⟩:=c;by_cases z:a=e
 ·subst z;obtain⟨ws,k,m,p⟩:=hf o vs g j;exact⟨f o,ws,dh f h1<|dX k,k,m,p.trans d⟩
 ·exact⟨o,vs,by rw[cP _ _ z];exact h1,g,j,d⟩
def iJ.update(a:aj)(f:Obj->Obj)(hf:∀o vs,o.data=.fields vs->vs[2]?=some .none->∃ws,(f o).data=.fields ws/\ws[2]?=some .none/\(f o).dict=o.dict):iJ e (PySem.update a f):=λM d Q E p s h c=>by
 have h:Sem.wp M d (.update a none f .pure) Q E p s:=h;show Sem.wp M d (.update a none f .pure) _ _ p s;rw[Sem.wp_update]at h ⊢;obtain⟨g,h⟩:=h;rw[fN]at h;exact⟨g,by rw[fN];exact⟨h,c.update hf⟩⟩
def iJ.alloc(o:Obj):iJ e (PySem.alloc o):=λM d Q E p s h c=>by
 have h:Sem.wp M d (.alloc o .pure) Q E p s:=h;show Sem.wp M d (.alloc o .pure) _ _ p s;rw[Sem.wp_alloc,fN]at h ⊢;obtain⟨ob,vs,h1,g,j,f⟩:=c;exact⟨h,ob,vs,aI _ h1,g,j,f⟩
def iJ.stack:iJ e PySem.stack:=λM d Q E p s h c=>by
 have h:Sem.wp M d (.stack .pure) Q E p s:=h;show Sem.wp M d (.stack .pure) _ _ p s;rw[Sem.wp_stack,fN]at h ⊢;exact⟨h,c⟩
def iJ.ite{c:Prop}[Decidable c]{a b:Sem α}(h1:iJ e a)(j:iJ e b):iJ e (if c then a else b):=by
 split
 ·exact h1
 ·exact j
def iJ.field(v:aa)(i:Nat):iJ e (PySem.field v i):=by
 unfold PySem.field PySem.fieldsOf;refine iJ.bind ?_ λvs=>?_
 ·split
  ·refine iJ.bind (iJ.load _) λo=>?_;split
   ·exact iJ.pure _
   ·exact iJ.Jr _
  ·exact iJ.Jr _
 ·split
  ·exact iJ.pure _
  ·exact iJ.Jr _
def iJ.setField(v x:aa)(i:Nat)(hi:i≠2):iJ e (PySem.setField v i x):=by
 unfold PySem.setField PySem.updateField;split
 ·refine iJ.bind (iJ.load _) λo=>?_;split
  ·refine iJ.ite (iJ.update _ _ λo vs h1 d=>⟨_,dg h1 _,?_,?_⟩) (iJ.Jr _)
   ·rw[Array.getElem?_setIfInBounds_ne hi];exact d
   ·unfold Obj.mapFields;split<;>rfl
  ·exact iJ.Jr _
 ·exact iJ.Jr _
def iJ.frameEnvs:iJ e PySem.frameEnvs:=by
 unfold PySem.frameEnvs;exact iJ.bind iJ.stack λ_=>iJ.pure _
def iJ.behind(env:Env)(outer:List Env):iJ e (behindIsImport env outer):=by
 unfold behindIsImport;refine iJ.ite (iJ.pure _)<|iJ.ite (iJ.pure _)<|iJ.bind (iJ.field _ _) λ_=>iJ.pure _
def iJ.under:iJ e underTheClaimsCaller:=by
 unfold underTheClaimsCaller;exact iJ.bind iJ.stack λ_=>iJ.pure _
def iJ.kept(env:Env)(b:Bool)(l:List Env):iJ e (keptBack env b l):=by
 unfold keptBack;split
 ·refine iJ.ite (iJ.pure _) (iJ.bind iJ.under λ_=>iJ.pure _)
 ·exact iJ.pure _
theorem iJ.ready:∀(l:List Env),iJ e (readyFrames l)
 | []=>iJ.pure _
 | env::outer=>by
  unfold readyFrames;split
  ·refine iJ.bind (iJ.load _) λo=>?_;refine iJ.ite (iJ.pure _) ?_;refine iJ.bind (iJ.behind _ _) λ_=>iJ.bind (iJ.kept _ _ _) λ_=>iJ.bind (iJ.update _ _ λo vs h1 d=>⟨vs,h1,d,rfl⟩) λ_=>iJ.ready outer
  ·exact iJ.Jr _
def iJ.frameOf(env:Env):iJ e (PySem.frameOf env):=by
 unfold PySem.frameOf;refine iJ.bind iJ.frameEnvs λl=>iJ.bind ?_ λ_=>?_
 ·unfold frameObject;split
  ·exact iJ.pure _
  ·exact iJ.bind (iJ.ready _) λ_=>iJ.pure _
 ·split
  ·exact iJ.pure _
  ·exact iJ.Jr _
def iJ.place(f:aj)(b:Bool):iJ e (entryPlaceOf f b):=by
 unfold entryPlaceOf;refine iJ.bind iJ.stack λ_=>?_;split
 ·exact iJ.pure _
 ·exact iJ.pure _
def iJ.entry(a b c d f:aa)(l:ba):iJ e (EntryCells.newEntry a b c d f l):=by
 unfold EntryCells.newEntry newFields newObj
 repeat (first|exact iJ.pure _|exact iJ.Jr _|refine iJ.bind (iJ.alloc _) λ_=>?_|refine iJ.bind (iJ.Jr _) λ_=>?_|refine iJ.ite ?_ ?_|(refine iJ.bind ?_ λ_=>?_))
def iJ.flight(v:aa)(f:Option aj):iJ e (setFlight v f):=by
 unfold setFlight;refine iJ.bind (iJ.field _ _) λ_=>iJ.ite (iJ.setField _ _ _ ⋯)<|iJ.pure _
def iJ.note(v:aa)(env:Env):iJ e (noteFrame v env):=by
 unfold noteFrame;split
 ·refine iJ.bind (iJ.field _ _) λh=>iJ.ite ?_ ?_
  ·refine iJ.bind (iJ.field _ _) λ_=>iJ.ite (iJ.pure _) ?_;refine iJ.bind (iJ.setField _ _ _ ⋯) λ_=>iJ.bind (iJ.frameOf _) λ_=>iJ.bind (iJ.place _ _) λ_=>iJ.bind (iJ.entry _ _ _ _ _ _) λ_=>iJ.setField _ _ _ ⋯
  ·refine iJ.bind (iJ.frameOf _) λ_=>iJ.bind (iJ.place _ _) λ_=>iJ.bind (iJ.entry _ _ _ _ _ _) λ_=>iJ.setField _ _ _ ⋯
 ·exact iJ.Jr _
def iJ.leave(v:aa)(env:Env):iJ e (leaving env v):=by
 unfold leaving;exact iJ.bind (iJ.note _ _) λ_=>iJ.flight _ _
def iJ.any{m:Sem α}{A:aA}{Q:α->aE->Prop}{E:aa->aE->Prop}{s:aE}(k:iJ e m)(h:wpAny M A m Q E s)(c:C0 e s.heap):wpAny M A m (λa s'=>Q a s'/\C0 e s'.heap) (λv s'=>E v s'/\C0 e s'.heap) s:=
 λf p d=>k M f _ _ p s (h f p d) c
end
def jm.here{P:ah}{w:af}{H:Hp}{h:au}{a:aj}(x:jm P w H h a o):∃ob,h.get? a=some ob:=by
 cases o with
 | lst xs=>obtain⟨_,_,_,_,e⟩:=x;exact⟨_,e⟩
 | tup xs=>obtain⟨_,_,_,p⟩:=x;obtain⟨o,e,_⟩:=p;exact⟨_,e⟩
 | dK kvs=>obtain⟨_,_,_,_,o,_,_,e,_⟩:=x;exact⟨_,e⟩
 | dT kvs=>obtain⟨_,_,_,_,o,_,_,e,_⟩:=x;exact⟨_,e⟩
 | set S n=>obtain⟨o,_,_,_,e,_⟩:=x;exact⟨_,e⟩
 | ins C dx fs=>obtain⟨_,_,_,e,_⟩:=x;exact⟨_,e⟩
 | own y=>exact x
 | xd fs=>obtain⟨_,⟨_,_,_,e,_⟩,_⟩:=x;exact⟨_,e⟩
 | rng lo hi=>obtain⟨_,_,_,e⟩:=x;exact⟨_,e⟩
 | frz ob u=>obtain⟨e,_⟩:=x;exact⟨_,e⟩
 | tbl ps=>exact⟨_,(show h.get? a=some _ from x)⟩
 | met f y=>exact⟨_,(show h.get? a=some _ from x)⟩
 | ext d=>obtain⟨_,⟨o,e⟩,_⟩:=x;exact⟨_,e⟩
structure Fly (l:List Env)(xs:bb)(g:au)(pn:bo)(H:Hp)(e:aj)(cls:aa)(h:au):Prop where
 ex:∃(B:au) (a0:aa),Heap.FlyingW B l e cls a0 h/\(∀a u,H a=some u->∃o,B.get? a=some o)/\(∀b o,g.get? b=some o->b∉frs l->b∉xs->∃o',B.get? b=some o')/\(∀p∈pn,∃o',B.get? p.1=some o')/\C0 e h
structure Made (X:Cx)(H:Hp)(e:aj)(cls:aa)(g:au)(h:au):Prop where
 ex:∃(g':au) (vs:ba),Heap.MadeExcOf g' h e cls vs/\g'.FunFrames X.base X.stack/\(∀a u,H a=some u->∃o,g'.get? a=some o)/\(∀b o,g.get? b=some o->b∉X.ex->∃o',g'.get? b=some o')/\(∀p∈X.pn,∃o',g'.get? p.1=some o')
def zz{g:au}{cls:aa}(M:Heap.MadeExcOf g h e cls vs):C0 e h:=by
 obtain⟨t,d,_⟩:=M.there;exact⟨_,_,d,rfl,rfl,rfl⟩
structure Held (X:Cx)(H:Hp)(e:aj)(cls:aa)(h:au):Prop where
 ex:∃(B:au) (a0:aa) (L:aj),X.env.frame=some L/\Heap.HeldW B X.stack e cls a0 L h/\(∀a u,H a=some u->∃o,B.get? a=some o)/\(∀b o,X.s₀.heap.get? b=some o->b∉frs X.stack->b∉X.ex->∃o',B.get? b=some o')/\(∀p∈X.pn,∃o',B.get? p.1=some o')/\C0 e h
abbrev t_ (X:Cx)(H:Hp)(e:aj)(cls:aa)(s':aE):Prop:=Made X H e cls X.s₀.heap s'.heap\/Fly X.stack X.ex X.s₀.heap X.pn H e cls s'.heap\/Held X H e cls s'.heap
section
variable {X:Cx}{pins:bo}{σ:L2.St}{H:Hp}{s':aE}{e:aj}{cls:aa}
def sY(I:Inv X pins σ H s')(J:X.ex=[]){B:au}(k1:B.StaysIn s'.heap)(k2:B.StaysIn h')(L:s'.heap.UpToSlots h')(c1:∀a u,H a=some u->∃o,B.get? a=some o)(c2:∀b o,X.s₀.heap.get? b=some o->b∉X.fs->∃o',B.get? b=some o') :
  Un X.fs [] X.H₀ H X.s₀.heap h'/\qR X.prog X.w H h':=by
 have nx:∀b:aj,b∉X.ex:=λb z=>by rw[J]at z;cases z
 have g:∀b o o',B.get? b=some o'->s'.heap.get? b=some o->h'.get? b=some o:=λb o o' f es=>by
  have:=k1 b o' f;rw[es]at this;cases this;exact k2 b o f
 have slot:∀b o,X.s₀.heap.get? b=some o->X.H₀ b=none->b∈X.fs->∃j,h'.get? b=some { o with slots:=j }:=λb o q n d=>by
  obtain⟨j,e1⟩:=I.base.slot b o q n d<|nx b;obtain⟨_,F,p,C⟩:=I.ok.pU.mem d;rw[q]at p;cases p;obtain⟨k,e2⟩:=L b _ e1 C;exact⟨k,e2⟩
 refine⟨⟨λb o q n d _=>?_,λb o q n d _=>slot b o q n d,λb o q n _=>I.base.free b o q n<|nx b,λb o q _=>?_,I.base.tups,I.base.frzs,I.base.tbls⟩,λa u m=>?_⟩
 ·obtain⟨o',f⟩:=c2 b o q d;exact g b o o' f (I.base.keep b o q n d<|nx b)
 ·by_cases d:b∈X.fs
  ·obtain⟨j,z⟩:=slot b o q (I.ok.frf b d) d;exact⟨_,z⟩
  ·obtain⟨o',f⟩:=c2 b o q d;exact⟨o',k2 b o' f⟩
 ·refine(I.hok a u m).stay (λb v d q=>?_) (λ_ q=>q) λ_ _ q=>q
  rcases d with z|z
  ·subst z;obtain⟨o',f⟩:=c1 _ u m;exact g _ v o' f q
  ·obtain⟨o',f⟩:=c1 b _ z;exact g b v o' f q
def Cr(I:Inv X pins σ H s')(hst:X.stack=X.env::X.outer)(hf:X.env.frame=some X.env.locals)(hex:X.ex=[])(R:t_ X H e cls s'){Q:aE->Prop}{E:aa->aE->Prop}
  (hQ:∀h',Un X.fs [] X.H₀ H X.s₀.heap h'->qR X.prog X.w H h'->Fly X.outer [] X.s₀.heap [] H e cls h'->Q { s' with heap:=h' }):wpAny (model X.prog X.w) X.A (leaving X.env<|.ref e) (λ_ s''=>Q s'') E s':=by
 have C:X.A.frames=some (X.env::X.outer):=by rw[<- hst];exact I.ok.frames
 have G:∀b o,X.s₀.heap.get? b=some o->b∉X.fs->b∉frs (X.env::X.outer):=λb o q d z=>by
  unfold frs at z;rw[dJ,hf]at z
  rcases bG.mp z with z|z
  ·rw[z]at q;exact absurd (bu (aS q) I.ok.above) (c6 _)
  ·exact d z
 have nx:∀b:aj,b∉X.ex:=λb z=>by rw[hex]at z;cases z
 rcases R with⟨g',vs,M,m,Z,T,_⟩|⟨B,a0,F,c1,c2,_,k0⟩|⟨B,a0,L,O,F,c1,c2,_,k0⟩
 ·
  rw[hst]at m;have N:∀env∈(X.env::X.outer),∀b,env.frame=some b->b∈frs (X.env::X.outer):=λenv Y b d=>c9.mpr ⟨env,Y,d⟩;refine b_ (iJ.any (e:=e) (iJ.leave _ _) (wpAny_leaves_madeW (Q:=λ_ s''=>∃h' t,s''={ s' with heap:=h' }/\Heap.FlyingW (PySem.W.hideAll g'<|frs (X.env::X.outer)) X.outer e cls (.ref t) h'/\s'.heap.UpToSlots h') (E:=λ_ _=>False) (base:=PySem.W.hideAll g'<|frs (X.env::X.outer)) C hf (λb o q=>cG _ q) (fy m N) M λh' t f x2 x3 k=>⟨h',t,rfl,f,k⟩)<|zz M) (λ_ s'' z=>?_) λ_ _ z=>z.1.elim;obtain⟨⟨h',t,rfl,f,k⟩,k0⟩:=z;kst_p;have c1:∀a u,H a=some u->∃o,(PySem.W.hideAll g'<|frs (X.env::X.outer)).get? a=some o:=λa u J=>by
   obtain⟨o,q⟩:=Z a u J;refine⟨o,cD _ q λz=>?_⟩;rw[<- hst]at z;rw[I.q_ a z]at J;cases J
  have c2:∀b o,X.s₀.heap.get? b=some o->b∉X.fs->∃o',(PySem.W.hideAll g'<|frs (X.env::X.outer)).get? b=some o':=λb o q d=>by
   obtain⟨o',q'⟩:=T b o q<|nx b;exact⟨o',cD _ q'<|G b o q d⟩
  obtain⟨un,j⟩:=sY I hex k1 f.1 k c1 c2;exact hQ h' un j ⟨_,_,f,c1,λb o q d _=>c2 b o q d,λp hp=>absurd hp<|by simp,k0⟩
 ·rw[hst]at F c2;refine b_ (iJ.any (e:=e) (iJ.leave _ _) (wpAny_leaves_onW (Q:=λ_ s''=>∃h',s''={ s' with heap:=h' }/\Heap.FlyingW B X.outer e cls a0 h'/\s'.heap.UpToSlots h') (E:=λ_ _=>False) C hf F λh' f k=>⟨h',rfl,f,k⟩) k0) (λ_ s'' z=>?_) λ_ _ z=>z.1.elim;obtain⟨⟨h',rfl,f,k⟩,k0'⟩:=z;have g:∀b o,X.s₀.heap.get? b=some o->b∉X.fs->∃o',B.get? b=some o':=λb o q d=>c2 b o q (G b o q d)<|nx b;obtain⟨un,j⟩:=sY I hex F.1 f.1 k c1 g;exact hQ h' un j ⟨_,_,f,c1,λb o q d _=>g b o q d,λp hp=>absurd hp<|by simp,k0'⟩
 ·rw[hst]at F c2;rw[hf]at O
  cases O
  have V:wpAny (model X.prog X.w) X.A (leaving X.env<|.ref e) (λ_ s''=>∃h',s''={ s' with heap:=h' }/\Heap.FlyingW B X.outer e cls a0 h'/\s'.heap.UpToSlots h') (λ_ _=>False) s':=by
   unfold leaving;refine aH<|fB hf F.2.2.2 ?_;refine wpAny_landsW F λh' K P=>?_;obtain⟨k1,k2,⟨_,_,k3⟩,U⟩:=K;exact⟨h',rfl,⟨k1,k2,k3,U⟩,P⟩
  refine b_ (iJ.any (e:=e) (iJ.leave _ _) V k0) (λ_ s'' z=>?_) λ_ _ z=>z.1.elim;obtain⟨⟨h',rfl,f,k⟩,k0'⟩:=z;have g:∀b o,X.s₀.heap.get? b=some o->b∉X.fs->∃o',B.get? b=some o':=λb o q d=>c2 b o q (G b o q d)<|nx b;obtain⟨un,j⟩:=sY I hex F.1 f.1 k c1 g;exact hQ h' un j ⟨_,_,f,c1,λb o q d _=>g b o q d,λp hp=>absurd hp<|by simp,k0'⟩
end
abbrev vj (P:ah)(w:af):Kz:=λouter H s E e d=>∃f cls H',e=.ref f/\d.os=s.os/\AllBare d.gens/\Un (frs outer) [] H H' s.heap d.heap/\qR P w H' d.heap/\Fly outer [] s.heap [] H' f cls d.heap/\E cls none H'
section
variable {P:ah}{w:af}{K:az}{mg:Str->bd}{base:au}{N:ar}{qual:Str}{scope:Scope}{f:aj}{cd:aa}{A:aA}{outer:List Env}{s:aE}{H:Hp}{E:XK}
def F1{H':Hp}{cls:aa}(I:Inv (vt (vj P w) P w K mg base N qual scope f cd A outer s H E) pins σ' H' s')
  (hf:(envOfC qual scope s.heap.objs.size f cd).frame=some (envOfC qual scope s.heap.objs.size f cd).locals)
  (R:t_ (vt (vj P w) P w K mg base N qual scope f cd A outer s H E) H' ea cls s') (J:E cls none H'):(vt (vj P w) P w K mg base N qual scope f cd A outer s H E).xe (.ref ea) s':=by
 refine Cr I rfl hf rfl R (Q:=λg=>vj P w outer H s E (.ref ea) g) λh' un d j=>?_;exact⟨ea,cls,H',rfl,I.os,I.bare,un,d,j,J⟩
abbrev EX (X:Cx):XK:=λcls _ H'=>∀pins d s' e,Inv X pins d H' s'->t_ X H' e cls s'->X.xe (.ref e) s'
def v9{X:Cx}(hP:X.prog=P)(hw:X.w=w):Passes (vj P w) X (EX X):=by
 intro pins σ H s e s' I ⟨G,cls,H',L,os,f,un,j,⟨B,a0,F,c1,c2,_,k0⟩,N⟩;subst L hP hw;obtain⟨J,g,d,t,k⟩:=s';obtain rfl:k=s.os:=os;refine N pins σ _ G (I.call (h':=J) (g':=g) (d':=d) (t':=t) (ch:=[]) un j f λb z=>absurd z<|by simp) (.inr<|.inl ⟨B,a0,F,c1,λb o q C O=>?_,λp hp=>?_,k0⟩)
 ·obtain⟨o',q'⟩:=I.base.there b o q O;exact c2 b o' q' C (by simp)
 ·obtain⟨q,_,m,K,_⟩:=I.pin p<|bC _ hp;exact c2 p.1 _ q (λz=>(bG.mp<|I.ux _ z).elim m K)<|by simp
abbrev PM (X:Cx)(C:aj)(t:TA):TS:=λ_ σ H=>t σ H λvs H'=>vs.length<=sizeLine/\EX X (.ref C) none H'
def wO{X:Cx}{x:Str}{C:aj}{t:TA}(O:OwnCls x C bmB newId X.mg X.base)(U:ExcBaseFacts B newId initId bmB)(hh:X.A.handled=none)(Z:PA X (e::es) t)(hg:Gl X x<|>ε)
  (hs:starEach (e::es) X.env=(false,eval e X.env)::starEach es X.env<|>ε) (L:((backTo cpos<|starEach es X.env).any (·.1)=false)<|>ε) (hd:(x == ("__debug__" : Str))=false<|>δ) :
  PS X (.Raise (some<|.Call (.Name x np) (e::es) [] cpos) none pos) (PM X C t):=by
 kcf_m;obtain⟨tl,N,nm,q,bs,hdct,sn,sub,ab,col,dd,k0,k1,k2,k3,k5,mN,m,k,f,T⟩:=O.obj;refine wpAny_Raise_call_subU (C:=C) (nm:=nm) (q:=q) (N:=N) (bs:=bs) (bm:=tl) (hdct:=hdct) (sn:=sn) (sub:=sub) (ab:=ab) (col:=col) (dd:=dd) (k0:=k0) (k1:=k1) (k2:=k2) (k3:=k3) (k5:=k5)
  U U.hasB U (mN:=mN) (T.hasType U.hasBase) hh (by rw[hs];show(false || (backTo cpos<|starEach es X.env).any (·.1))=false;rw[L];rfl) f (sM I hg O.bound ⟨rfl,?_⟩ hd)
 have j:=Z cpos pins s σ H _ I h;rw[hs]at j ⊢;refine Calls.evalArgs_plain<|jz j λus s2 ⟨vs,H2,d,r2,F,J⟩=>?_;refine⟨rfl,by rw[<- r2.length];exact F,d.bk _ _ m,k.keeps d.bk,T.keeps d.bk,λh' g M=>?_⟩;refine J pins σ { s2 with heap:=h' } g ?_ (.inl ⟨s2.heap,us,M,d.stack,λa u g=>?_,λb o q G=>?_,λp hp=>⟨_,(d.pin p<|bC _ hp).1⟩⟩)
 ·exact d.kept (t':=s2.toks) M.keeps
 ·exact(d.hok a u g).here
 ·exact d.base.there b o q G
end
abbrev xw:List (Str ⊕ TE)->St->Hp->(Hp->Prop)->Prop
 | [],_,H,k=>k H
 | .inl x::ps,σ,H,k=>x.length<=1000/\xw ps σ H k
 | .inr t::ps,σ,H,k=>t σ H λv H'=>∃i,v=.int i/\i.natAbs.log2<64/\xw ps σ H' k
inductive FParts (X:Cx):List aF->List (Str ⊕ TE)->Prop
 | nil:FParts X [] []
 | txt {x:Str} {j pos} {es:List aF} {ps:List<|Str ⊕ TE} (h:FParts X es ps):FParts X (.Constant (.str x) j pos::es) (.inl x::ps)
 | val {e:aF} {pos:Pos} {t:TE} {es:List aF} {ps:List<|Str ⊕ TE} (he:PE X e t) (h:FParts X es ps):FParts X (.FormattedValue e (-1) none pos::es) (.inr t::ps)
theorem sq{X:Cx}{Q:VK}:∀{es:List aF}{ps:List<|Str ⊕ TE},FParts X es ps->∀(H:Hp) (s:aE) (out:Str),Inv X pins σ H s->out.length+2000 * es.length<=sizeLine ->
  xw ps σ H (λH'=>∀x:Str,x.length<=sizeLine->Q (.str x) H')->wpAny (model X.prog X.w) X.A (joinParts out<|evalEach es X.env) (EP X pins σ Q) X.xe s
 | _,_,.nil,H,s,out,I,d,h=>joinParts_nilE (joinParts_nil (show EP X pins σ Q _ _ from⟨.str out,H,I.tok _,⟨_,rfl⟩,h out<|by simpa using d⟩)<|by simpa using d)
 | _,_,.txt (x:=x) hp,H,s,out,I,d,h=>by
  refine fU<|joinParts_cons<|f6 ?_;rw[bq]at d;have g:=h.1;have f:(out++x).length=out.length+x.length:=fM ..;exact⟨by rw[f];lia,sq hp H _ _ (I.tok _) (by rw[f];lia) h.2⟩
 | _,_,.val (e:=e) (t:=t) he hp,H,s,out,I,d,h=>by
  rw[bq]at d;refine fU<|joinParts_cons<|FormattedValue_plain<|jz (he pins s σ H _ I h) λv p ⟨x,H1,j,r1,i,g,hi,h1⟩=>?_;subst g;obtain⟨tk,rfl⟩:=r1;refine formatField_int_small () ?_;have m:(Str.ofString<|toString i).length<=65:=by
   have:=int_text_length_le (a:=i) (k:=64) ⋯ hi;rw[PySem.ofString_length];exact this
  have f:(out++Str.ofString (toString i)).length=out.length+(Str.ofString<|toString i).length:=fM ..;exact⟨by rw[f];lia,sq hp H1 _ _ (j.tok _) (by rw[f];lia) h1⟩
abbrev V2 (ps:List<|Str ⊕ TE):TE:=λσ H Q=>xw ps σ H λH'=>∀x:Str,x.length<=sizeLine->Q (.str x) H'
def Tt{ps:List<|Str ⊕ TE}(h:FParts X (e1::e2::es) ps)(j:2000 * (e1::e2::es).length<=sizeLine<|>δ):PE X (.JoinedStr (e1::e2::es) pos) (V2 ps):=
 λpins s σ H Q I q=>JoinedStr_many<|sq h H s Str.empty I (by rw[show Str.empty.length=0 from rfl,zero_add];exact j) q
abbrev Cx.oq (X:Cx)(pn':bo)(xe':aa->aE->Prop):Cx:={ X with xe:=xe',pn:=pn' }
abbrev xu:HO:=.ext λ_=>True
abbrev Cx.hand (X:Cx)(pn':bo)(e:aj)(oe:Obj):Cx:={ X with A:=X.A.mark<|some<|.ref e,calm:=false,xe:=λ_ _=>False,pn:=pn',H₀:=upd X.H₀ e<|.frz oe xu}
structure XO (C:aj)(o:Obj):Prop where
 cls:o.cls=.ref C
 dict:o.dict=none
 ctx:∃vs,o.data=.fields vs/\vs[2]?=some .none
structure Fr0 (X:Cx)(e:aj):Prop where
 no:∀o,X.s₀.heap.get? e≠some o
 tup:∀xs,X.H₀ e≠some (.tup xs)
 frz:∀o u,X.H₀ e≠some (.frz o u)
 tbl:∀ps,X.H₀ e≠some (.tbl ps)
section
variable {X:Cx}{pins:bo}{σ:L2.St}{H:Hp}{s':aE}{e:aj}{cls:aa}
def Gh(I:Inv X pins σ H s')(hst:X.stack=X.env::X.outer)(hf:X.env.frame=some X.env.locals)(hex:X.ex=[])(R:t_ X H e cls s'){Q:Unit->aE->Prop}{E:aa->aE->Prop}
  (hQ:∀h' B a0,Heap.HeldW B (X.env::X.outer) e cls a0 X.env.locals h'->B.StaysIn s'.heap->s'.heap.UpToSlots h'->(∀a u,H a=some u->∃o,B.get? a=some o)->(∀b o,X.s₀.heap.get? b=some o->b∉X.fs->∃o',B.get? b=some o')->(∀p∈X.pn,∃o',B.get? p.1=some o')->C0 e h'->Q Unit.unit { s' with heap:=h' }) :
  wpAny (model X.prog X.w) X.A (noteFrame (.ref e) X.env) Q E s':=by
 have m:X.A.frames=some (X.env::X.outer):=by rw[<- hst];exact I.ok.frames
 have G:∀b o,X.s₀.heap.get? b=some o->b∉X.fs->b∉frs (X.env::X.outer):=λb o q d z=>by
  unfold frs at z;rw[dJ,hf]at z
  rcases bG.mp z with z|z
  ·rw[z]at q;exact absurd (bu (aS q) I.ok.above) (c6 _)
  ·exact d z
 have nx:∀b:aj,b∉X.ex:=λb z=>by rw[hex]at z;cases z
 rcases R with⟨g',vs,M,k,m1,V,Y⟩|⟨B,a0,F,c1,c2,c3,k0⟩|⟨B,a0,L,N,F,c1,c2,c3,k0⟩
 ·rw[hst]at k;have K:∀env∈(X.env::X.outer),∀b,env.frame=some b->b∈frs (X.env::X.outer):=λenv C b d=>c9.mpr ⟨env,C,d⟩;have hl:=fy k K;obtain⟨t,C,htn,ht⟩:=M.there;have O:(PySem.W.hideAll g'<|frs (X.env::X.outer)).get? e=none:=by
   cases hq:(PySem.W.hideAll g'<|frs (X.env::X.outer)).get? e with
   | none=>rfl
   | some o'=>have:=cG _ hq;rw[M.new]at this;cases this
  kst_p;have go:wpAny (model X.prog X.w) X.A (noteFrame (.ref e) X.env) (λ_ f=>∃h',f={ s' with heap:=h' }/\Heap.HeldW (PySem.W.hideAll g'<|frs (X.env::X.outer)) (X.env::X.outer) e cls (.ref t) X.env.locals h'/\s'.heap.UpToSlots h') (λ_ _=>False) s':=by
   unfold noteFrame;dsimp[hf];refine aH<|bR C rfl (x:=.none) rfl ?_;rw[aQ ⋯];refine wpAny_entryW (base:=PySem.W.hideAll g'<|frs (X.env::X.outer)) (a0:=.ref t) m (hl.of_keeps λb o d _=>⟨o,M.keeps b o d,rfl⟩) hf C k1 O rfl (by simp) rfl λh' hL=>?_;obtain⟨j,P,U,g⟩:=hL;exact⟨h',rfl,⟨j,O,P,U⟩,g⟩
  refine b_ (iJ.any (e:=e) (iJ.note _ _) go<|zz M) (λ_ f z=>?_) λ_ _ z=>z.1.elim;obtain⟨⟨h',rfl,j,g⟩,k0⟩:=z;refine hQ h' _ _ j k1 g (λa u J=>?_) (λb o q d=>?_) (λp hp=>?_) k0
  ·obtain⟨o,q⟩:=m1 a u J;refine⟨o,cD _ q λz=>?_⟩;rw[<- hst]at z;rw[I.q_ a z]at J;cases J
  ·obtain⟨o',q'⟩:=V b o q<|nx b;exact⟨o',cD _ q'<|G b o q d⟩
  ·obtain⟨o',q'⟩:=Y p hp;obtain⟨q,_,T,Z,_⟩:=I.pin p<|bC _ hp;refine⟨o',cD _ q' λz=>?_⟩;rw[<- hst]at z;exact(bG.mp<|I.ux _ z).elim T Z
 ·rw[hst]at F c2;refine b_ (iJ.any (e:=e) (iJ.note _ _) (wpAny_looks_onW (Q:=λ_ f=>∃h',f={ s' with heap:=h' }/\Heap.HeldW B (X.env::X.outer) e cls a0 X.env.locals h'/\s'.heap.UpToSlots h') (E:=λ_ _=>False) m hf F λh' j g=>⟨h',rfl,j,g⟩) k0) (λ_ f z=>?_) λ_ _ z=>z.1.elim;obtain⟨⟨h',rfl,j,g⟩,k0'⟩:=z;exact hQ h' B a0 j F.1 g c1 (λb o q d=>c2 b o q (G b o q d)<|nx b) c3 k0'
 ·rw[hst]at F c2;rw[hf]at N
  cases N
  refine fB hf F.2.2.2 ?_;exact hQ s'.heap B a0 F F.1 (Heap.UpToSlots.refl _) c1 (λb o q d=>c2 b o q (G b o q d)<|nx b) c3 k0
end
section
variable {X:Cx}{pn' pins:bo}{xe':aa->aE->Prop}{σ:L2.St}{H:Hp}{s':aE}{e C:aj}{B h6:au}{a0:aa}
def yf(I:Inv (X.oq pn' xe') pins σ H s')(hex:X.ex=[])(F:Heap.FlyingW B (X.env::X.outer) e (.ref C) a0 h6)(k1:B.StaysIn s'.heap)(up:s'.heap.UpToSlots h6)
  (c1:∀a u,H a=some u->∃o,B.get? a=some o) (c2:∀b o,X.s₀.heap.get? b=some o->b∉X.fs->∃o',B.get? b=some o') (c3:∀p∈pn',∃o',B.get? p.1=some o') (k0:C0 e h6) :
  Fr0 X e/\H e=none/\∃oe,XO C oe/\Inv (X.hand pn' e oe) [] σ (upd H e<|.frz oe xu) { s' with heap:=h6 }:=by
 obtain⟨un,Y⟩:=sY I hex k1 F.1 up c1 c2;have hn:H e=none:=by
  cases q:H e with
  | none=>rfl
  | some u=>obtain⟨o,z⟩:=c1 e u q;rw[F.2.1]at z;cases z
 obtain⟨g,Z,G,g2,g3,g5⟩:=k0;have ns:∀o,X.s₀.heap.get? e≠some o:=λo q=>by
  by_cases f:e∈X.fs
  ·obtain⟨_,V,j,d2⟩:=I.ok.pU.mem f;have j:X.s₀.heap.get? e=some V:=j;rw[q]at j;cases j;obtain⟨sl,z⟩:=un.slot e o q (I.ok.frf e f) f (by simp);rw[G]at z;have z:g=_:=aR z;rw[z]at g2;exact d2 _ g2
  ·obtain⟨o',z⟩:=c2 e o q f;rw[F.2.1]at z;cases z
 have K:∀(b:aj) (ob:Obj),s'.heap.get? b=some ob->(∀vs,ob.data≠.fields vs)->b≠e:=λb ob q d z=>by
  obtain⟨sl,O⟩:=up b ob q d;rw[z,G]at O;have O:g=_:=aR O;rw[O]at g2;exact d _ g2
 obtain⟨m,hm,hl⟩:=id I.loc;have L:s'.heap.Ns X.env.locals m:=hm;have J:∀c v,s'.heap.IsCell c v->h6.IsCell c v:=λc v h9=>by
  obtain⟨oc,q,d⟩:=h9;obtain⟨sl,z⟩:=up c oc q λvs y=>by rw[d]at y;cases y
  exact⟨_,z,d⟩
 have U:X.env.locals≠e:=by
  obtain⟨oL,es,ep,q,d,_⟩:=id L;exact K _ oL q λvs y=>by rw[d]at y;cases y
 have xo:XO C g:=by
  obtain⟨_,_,_,oe,vs,T,oT,ts,P,⟨hc,_⟩,hd,_⟩:=F;rw[G]at P;have P:g=oe:=aR P;subst P;exact⟨hc,g5,Z,g2,g3⟩
 have no:∀u,H e≠some u:=λu q=>by rw[hn]at q;cases q
 have fr:Fr0 X e:=⟨ns,λxs q=>no _<|un.tups e xs q,λo u q=>no _<|un.frzs e o u q,λps q=>let⟨_,z⟩:=un.tbls e ps q;no _ z⟩;refine⟨fr,hn,g,xo,⟨I.ok.mod,I.ok.kind,I.ok.glob,I.ok.blt,I.ok.above,I.ok.inj,I.ok.has,I.ok.cab,λh=>(by cases h),I.ok.frames,I.ok.stk,I.ok.exf,λb o q=>⟨(I.ok.bs b o q).1,?_⟩,I.ok.bsz,I.ok.noex,I.ok.exfs,I.ok.pU,λb f=>?_⟩,I.os,I.bare,?_,⟨m,up.ns L,λi x v h1 h2 h3=>?_⟩,λx c h=>?_,?_,λx c h=>?_,λp hp=>?_,λb u q=>?_,I.len⟩
 ·show upd X.H₀ e _ b=none;rw[gV λz=>ns o<|by rw[<- z];exact(I.ok.bs b o q).1];exact(I.ok.bs b o q).2
 ·show upd X.H₀ e _ b=none;obtain⟨_,V,j,d2⟩:=I.ok.pU.mem f;rw[gV λz=>ns V<|by rw[<- z];exact j];exact I.ok.frf b f
 ·have h0:∀b o,X.s₀.heap.get? b=some o->upd X.H₀ e (.frz g xu) b=none->X.H₀ b=none:=λb o q n=>by
   rwa [gV λz=>ns o<|by rw[<- z];exact q]at n
  refine⟨λb o q n h _=>un.keep b o q (h0 b o q n) h<|by simp,λb o q n h _=>un.slot b o q (h0 b o q n) h<|by simp,λb o q n _=>?_,λb o q _=>un.there b o q<|by simp,λb xs q=>?_,λb o u q=>?_,λb ps q=>?_⟩
  ·rw[gV λz=>ns o<|by rw[<- z];exact q];exact un.free b o q (h0 b o q n) (by simp)
  ·have q:upd X.H₀ e (.frz g xu) b=some (.tup xs):=q;by_cases f:b=e
   ·rw[f,iF]at q;cases q
   ·rw[gV f]at q ⊢;exact un.tups b xs q
  ·have q:upd X.H₀ e (.frz g xu) b=some (.frz o u):=q;by_cases f:b=e
   ·rw[f,iF]at q ⊢;exact q
   ·rw[gV f]at q ⊢;exact un.frzs b o u q
  ·have q:upd X.H₀ e (.frz g xu) b=some (.tbl ps):=q;by_cases f:b=e
   ·rw[f,iF]at q;cases q
   ·rw[gV f]at q ⊢;exact un.tbls b ps q
 ·obtain⟨u,r,lk⟩:=hl i x v h1 h2 h3;refine⟨u,r,?_⟩
  rcases lk with⟨k,z⟩|⟨k,c,z,y⟩
  ·exact .inl ⟨k,z⟩
  ·exact .inr ⟨k,c,z,J c _ y⟩
 ·obtain⟨v,z⟩:=I.cell x c h;exact⟨v,J c v z⟩
 ·show upd H e _ X.env.locals=none;rw[gV U];exact I.free
 ·obtain⟨v,oc,q,d⟩:=I.cell x c h;rw[gV<|K c oc q λvs y=>by rw[d]at y;cases y];exact I.freeC x c h
 ·have hp:p∈pn':=by
   have hp:p∈pn'++[]:=hp
   rwa [bT]at hp
  obtain⟨q,n,n1,n2,d⟩:=I.pin p<|bC _ hp;obtain⟨o',z⟩:=c3 p hp;have N:=k1 _ _ z;rw[q]at N;have N:p.2=o':=aR N;refine⟨by rw[N];exact F.1 _ _ z,?_,n1,n2,d⟩;rw[gV λy=>by rw[y,F.2.1]at z;cases z];exact n
 ·by_cases f:b=e
  ·subst f;rw[iF]at q;cases q;exact⟨G,trivial,⟨g,G⟩,λ_ _ _ _=>trivial⟩
  ·rw[gV f]at q;exact(Y b u q).stay (λ_ _ _ z=>z) (λc z=>by rw[gV<|g9 z hn];exact z) λc xs z=>by rw[gV<|g9 z hn];exact z
end
section
variable {X:Cx}{pins:bo}{σ:L2.St}{H:Hp}{s:aE}
def Gi{A:aA}{E:aa->aE->Prop}{i:Nat}{n:Str}{v:V}{Q:Unit->aE->Prop}(I:Inv X pins σ H s)(hN:X.N.Nodup)(hi:X.N[i]?=some n)(hlo:X.env.scope.names.lookup n=some .local)(hv:σ[i]?=some (some v))
  (h:∀s',Inv X pins (σ.set i none) H s'->Q Unit.unit s'):wpAny M A (unbindName X.env n) Q E s:=by
 obtain⟨m,hn,K⟩:=id I.loc;obtain⟨u,r,lk⟩:=K i n v hi hv<|.inl hlo;have hm:m n=some u:=by
  rcases lk with⟨_,z⟩|⟨k,_⟩
  ·exact z
  ·exfalso;have O:X.env.kindOf n=some .local:=hlo
   rcases k with k|k<;>(rw[O]at k;cases k)
 have G:(X.env.scope.kind == .class || (X.env.scope.kind == .module && X.env.locals != X.env.globals))=false:=by rw[I.ok.kind];rfl
 refine wpAny_unbindName_local hlo hn hm G λh' u' C hs=>?_;have f:∀b o,X.s₀.heap.get? b=some o->h'.get? b=s.heap.get? b:=λb o q=>hs.2 b<|br<|bu (aS q) I.ok.above;obtain⟨oL,_,_,hoL,_⟩:=id hn;refine h _ ⟨I.ok,I.os,I.bare,⟨λb o q J B g=>(f b o q).trans<|I.base.keep b o q J B g,λb o q J B g=>?_,I.base.free,λb o q g=>?_,I.base.tups,I.base.frzs,I.base.tbls⟩,⟨_,C,λj y U e1 e2 e3=>?_⟩,λy c q=>?_,I.free,I.freeC,λp hp=>?_,λb ob q=>?_,by rw[bL];exact I.len⟩
 ·obtain⟨Y,z⟩:=I.base.slot b o q J B g;exact⟨Y,(f b o q).trans z⟩
 ·obtain⟨o',z⟩:=I.base.there b o q g;exact⟨o',(f b o q).trans z⟩
 ·by_cases F:j=i
  ·subst F;have:j<σ.length:=(aM.mp hv).1;rw[bz this]at e2
   cases e2
  ·rw[a_<|bP F]at e2;obtain⟨w,P,q⟩:=K j y U e1 e2 e3;refine⟨w,P,?_⟩
   rcases q with⟨k,z⟩|⟨k,c,z,Z⟩
   ·have:y≠n:=λz=>F<|wW hN e1<|z ▸ hi;exact .inl ⟨k,by simp[this,z]⟩
   ·exact .inr ⟨k,c,z,Z.sameBut hs<|I.M4 y c z⟩
 ·obtain⟨w,z⟩:=I.cell y c q;exact⟨w,z.sameBut hs<|I.M4 y c q⟩
 ·obtain⟨z,T,ne,L,d⟩:=I.pin p hp;exact⟨(hs.2 p.1 ne).trans z,T,ne,L,d⟩
 ·refine(I.hok b ob q).stay (λc w hc z=>(hs.2 c ?_).trans z) (λ_ z=>z) λ_ _ z=>z;intro y
  rcases hc with hc|hc
  ·rw[<- hc,y,I.free]at q;cases q
  ·rw[y,I.free]at hc;cases hc
def Inv.oq(I:Inv X pins σ H s)(xe':aa->aE->Prop):Inv (X.oq (X.pn++pins) xe') [] σ H s:=
 ⟨⟨I.ok.mod,I.ok.kind,I.ok.glob,I.ok.blt,I.ok.above,I.ok.inj,I.ok.has,I.ok.cab,I.ok.hd,I.ok.frames,I.ok.stk,I.ok.exf,I.ok.bs,I.ok.bsz,I.ok.noex,I.ok.exfs,I.ok.pU,I.ok.frf⟩,I.os,I.bare,I.base,I.loc,I.cell,I.free,I.freeC,λp hp=>I.pin p (by
  have hp:p∈(X.pn++pins)++[]:=hp
  rwa [bT]at hp),I.hok,I.len⟩
def Inv.yp{xe':aa->aE->Prop}(I:Inv (X.oq (X.pn++pins) xe') pins' σ H s):Inv X pins σ H s:=
 ⟨⟨I.ok.mod,I.ok.kind,I.ok.glob,I.ok.blt,I.ok.above,I.ok.inj,I.ok.has,I.ok.cab,I.ok.hd,I.ok.frames,I.ok.stk,I.ok.exf,I.ok.bs,I.ok.bsz,I.ok.noex,I.ok.exfs,I.ok.pU,I.ok.frf⟩,I.os,I.bare,I.base,I.loc,I.cell,I.free,I.freeC,λp hp=>I.pin p<|bC _ hp,I.hok,I.len⟩
def Inv.QJ(I:Inv (X.hand (X.pn++pins) e oe) pins' σ H s)(ok:X.Ok)(f0:Fr0 X e):Inv X pins σ H s:=
 have h0:∀b o,X.s₀.heap.get? b=some o->X.H₀ b=none->upd X.H₀ e (.frz oe xu) b=none:=λb o q n=>by
  rw[gV λz=>f0.no o<|by rw[<- z];exact q];exact n
 ⟨ok,I.os,I.bare,⟨λb o q n=>I.base.keep b o q<|h0 b o q n,λb o q n=>I.base.slot b o q<|h0 b o q n,λb o q n=>I.base.free b o q<|h0 b o q n,I.base.there,λb xs q=>I.base.tups b xs<|show upd X.H₀ e (.frz oe xu) b=_ by rw[gV λz=>f0.tup xs<|by rw[<- z];exact q];exact q,λb o u q=>I.base.frzs b o u<|show upd X.H₀ e (.frz oe xu) b=_ by rw[gV λz=>f0.frz o u<|by rw[<- z];exact q];exact q,λb ps q=>I.base.tbls b ps<|show upd X.H₀ e (.frz oe xu) b=_ by rw[gV λz=>f0.tbl ps<|by rw[<- z];exact q];exact q⟩,I.loc,I.cell,I.free,I.freeC,λp hp=>I.pin p<|bC _ hp,I.hok,I.len⟩
end
section
variable {M:Model}{A:aA}{E:aa->aE->Prop}{h:au}{g:Array GenState}{d:Drawn}{t:Nat}{os:OsState}{C N D N':aj}{nm q nm' q':Str}{bs bm bs' bm':ba}{hdct hdct':Bool}{sn sn':ar}{sub sub':ba}{ab ab':Bool}{col col':bi}{dd dd':Option aj}{k0 k1 k2 k3 k5 k0' k1' k2' k3' k5':bd}{newId newId':String}
def xO{oe:Obj}{Q:Bool->aE->Prop}(hC:h.get? C=some (excClassObj nm q C N bs bm hdct sn sub ab col dd k0 k1 k2 k3 k5 newId))(U:h.get? D=some (excClassObj nm' q' D N' bs' bm' hdct' sn' sub' ab' col' dd' k0' k1' k2' k3' k5' newId'))
  (he:h.get? e=some oe) (L:oe.cls=.ref C) (J:bm'.contains (.type "BaseException")=true) (Z:Q ((Value.ref C::bm).contains<|.ref D) ⟨h,g,d,t,os⟩):wpAny M A (excMatches (.ref e)<|.ref D) Q E ⟨h,g,d,t,os⟩:=by
 have j:(Value.ref D::bm').contains (.type "BaseException")=true:=by rw[List.contains_cons,J,Bool.or_true]
 have f:=tc_notTuple;unfold excMatches
 repeat (first|(with_reducible refine wpAny_loadPart_at he ?_;rw[L])|with_reducible refine wpAny_loadPart_at U ?_|(with_reducible refine wpAny_isSubtype_exc U ?_;rw[j])|with_reducible refine wpAny_isSubtype_exc hC ?_|wp_step)
 cases k:(Value.ref C::bm).contains (.ref D)<;>(rw[k]at Z;wp_walk;exact Z)
end
abbrev mroIn (K:az)(C:aj):Option (ba):=match K.lookup C with
 | some ⟨.type "type",_,.cls cd,sl⟩=>(match cd.mro,sl.toList with
  | .ref C'::bm,[_,_,_,_,some<|.builtin _,_]=>if C'=C/\cd.hasDel=false then some bm else none
  | _,_=>none)
 | _=>none
structure ClsAt (h:au)(C:aj)(bm:ba):Prop where
 ex:∃nm q N bs hdct sn sub ab col dd k0 k1 k2 k3 k5 newId,h.get? C=some (excClassObj nm q C N bs bm hdct sn sub ab col dd k0 k1 k2 k3 k5 newId)
def Hr{K:az}{C:aj}(X:K.In h)(e:mroIn K C=some bm):ClsAt h C bm:=by
 unfold mroIn at e;split at e
 ·rename_i dd cd g B;split at e
  ·rename_i F bm' k0 k1 k2 k3 n k5 j hs;split at e
   ·rename_i hc
    cases e
    obtain⟨rfl,d⟩:=hc;obtain⟨nm,bs,m,ns,k,hd,sn,sub,ab,col,p⟩:=cd;dsimp only at j d;subst j d;have f:g=#[k0,k1,k2,k3,some<|.builtin n,k5]:=by
     obtain⟨l⟩:=g;simp only at hs;rw[hs]
    subst f;exact⟨nm,k,ns,bs,hd,sn,sub,ab,col,dd,k0,k1,k2,k3,k5,n,X _ _ B⟩
   ·cases e
  ·cases e
 ·cases e
abbrev UB (i:Nat)(D:Ends):Ends:=⟨λσ H=>D.nx (σ.set i none) H,D.rt,λσ H=>D.bk (σ.set i none) H,λσ H=>D.ct (σ.set i none) H⟩
section
variable {X:Cx}{pins pins':bo}{xe':aa->aE->Prop}{σ:L2.St}{H:Hp}{s':aE}{e C Dc:aj}{bm bmD:ba}{x n:Str}{i:Nat}{De:Ends}{b0:aG}{suite:List aG}{np hp:Pos}
def Ak{f:Flow}(U:X.N.Nodup)(hi:X.N[i]?=some n)(L:X.env.scope.names.lookup n=some .local)(ok:X.Ok)(f0:Fr0 X e)(h:SP (X.hand (X.pn++pins) e oe) [] (UB i De) f s2) :
  wpAny (model X.prog X.w) X.A (do bindName X.env n .none;unbindBehindTheSuite X.env n pos) (λ_ s3=>SP X pins De f s3) X.xe s2:=by
 have m:∀{d:L2.St} {H':Hp},Inv (X.hand (X.pn++pins) e oe) [] d H' s2->(∀s3,Inv X pins (d.set i none) H' s3->SP X pins De f s3)->wpAny (model X.prog X.w) X.A (do bindName X.env n .none;unbindBehindTheSuite X.env n pos) (λ_ s3=>SP X pins De f s3) X.xe s2:=λ{d H'} J k=>by
  have J:=J.QJ ok f0;have j:i<d.length:=by rw[J.len];exact(aM.mp hi).1
  refine aH<|wpAny_bindName<|sO (v:=.non) J U hi (.inl L) rfl (λs3 g=>?_)<|.inr L;unfold unbindBehindTheSuite;refine wpAny_onRaise (Gi (v:=.non) g U hi L (bz j) λB p=>k B ?_)
  rwa [List.set_set]at p
 cases f with
 | next=>obtain⟨d,H',J,q⟩:=h;exact m J λs3 g=>⟨_,_,g,q⟩
 | brk=>obtain⟨d,H',J,q⟩:=h;exact m J λs3 g=>⟨_,_,g,q⟩
 | cont=>obtain⟨d,H',J,q⟩:=h;exact m J λs3 g=>⟨_,_,g,q⟩
 | ret u=>obtain⟨v,d,H',J,r,q⟩:=h;exact m J λs3 g=>⟨v,_,_,g,r,q⟩
def HG(hst:X.stack=X.env::X.outer)(hf:X.env.frame=some X.env.locals)(hex:X.ex=[])(hN:X.N.Nodup)(hi:X.N[i]?=some n)(hlo:X.env.scope.names.lookup n=some .local)(hg:Gl X x)(hm:X.mg x=some (.ref Dc))(mD:mroIn X.K Dc=some bmD)(hbD:bmD.contains (.type "BaseException")=true)
  (I:Inv (X.oq (X.pn++pins) xe') pins' σ H s') (R:t_ (X.oq (X.pn++pins) xe') H e (.ref C) s') (mC:mroIn X.K C=some bm) (hCD:(Value.ref C::bm).contains (.ref Dc)=true)
  (k:∀oe s6,XO C oe->H e=none->Inv (X.hand (X.pn++pins) e oe) [] (σ.set i<|some<|.ref e) (upd H e<|.frz oe xu) s6->wpAny (model X.prog X.w) (X.A.mark<|some<|.ref e) (execs (b0::suite) X.env) (SP (X.hand (X.pn++pins) e oe) []<|UB i De) (λ_ _=>False) s6)
  (ok:X.Ok) (hdb:(x == ("__debug__" : Str))=false) :
  wpAny (model X.prog X.w) X.A (noteFrame (.ref e) X.env) (λ_ s2=>wpAny (model X.prog X.w) X.A (setFlight (.ref e) none) (λ_ s3=>wpAny (model X.prog X.w) X.A (handleBy (.ref e) X.env [.ExceptHandler (some<|.Name x np) (some n) (b0::suite) hp]) (SP X pins De) X.xe s3) X.xe s2) X.xe s':=by
 refine Gh I hst hf hex R λh4 B a0 g k1 m c1 c2 c3 z4=>?_;refine b_ (iJ.any (e:=e) (iJ.flight _ _) (wpAny_landsW (Q:=λ_ d=>∃h',d={ s' with heap:=h' }/\Heap.FlyingW B (X.env::X.outer) e (.ref C) a0 h'/\h4.UpToSlots h') (E:=λ_ _=>False) g λh' G J=>⟨h',rfl,G,J⟩) z4) (λ_ d z=>?_) λ_ _ z=>z.1.elim;obtain⟨⟨h5,rfl,O,j⟩,P⟩:=z;obtain⟨_,_,T,x5,p⟩:=yf I hex O k1 (m.trans j) c1 c2 c3 P;refine wpAny_handleBy_cons (codeAny_handlers_test<|sM (X:=X.hand (X.pn++pins) e T) p hg hm ?_ hdb) (by intro q;cases q);obtain⟨g1,_⟩:=p.hok e _ iF;obtain⟨_,_,_,_,_,_,_,_,_,_,_,_,_,_,_,_,V⟩:=(Hr p.rQ mC).ex;obtain⟨_,_,_,_,_,_,_,_,_,_,_,_,_,_,_,_,U⟩:=(Hr p.rQ mD).ex;refine xO V U g1 x5.cls hbD ?_;rw[hCD];refine codeAny_handlers_suite_as ?_;refine b_ (iJ.any (e:=e) (iJ.flight _ _) (lands_againW (Q:=λ_ d=>∃h',d={ s' with heap:=h' }/\Heap.FlyingW B (X.env::X.outer) e (.ref C) a0 h'/\h5.UpToSlots h') (E:=λ_ _=>False) O λh' G J=>⟨h',rfl,G,J⟩) P) (λ_ d z=>?_) λ_ _ z=>z.1.elim;obtain⟨⟨h6,rfl,Y,F⟩,Z⟩:=z;obtain⟨f0,n6,L,x6,I6⟩:=yf I hex Y k1 ((m.trans j).trans F) c1 c2 c3 Z;refine sO (X:=X.hand (X.pn++pins) e L) (v:=.ref e) I6 hN hi (.inl hlo) rfl (λs7 I7=>?_)<|.inr hlo;exact b_ (k L s7 x6 n6 I7) (λf s8 h8=>Ak hN hi hlo ok f0 h8) λ_ _ z=>z.elim
end
open PySem.W in
structure XCls (K:az)(C:aj):Prop where
 ga:findIn K (.ref C) "__getattribute__" = some (some<|.builtin "BaseException.__getattribute__")
 gt:findIn K (.ref C) "__getattr__" = some none
 fc:findObj K C none "__class__" = some (.bind (.builtin "getset_descriptor.__get__")<|.builtin "object.__class__")
 ob:PySem.W.mroIn K C (.type "object")=some true
 bs:subIn K (.ref C) (.type "BaseException")=some true
section
open PySem.W
variable {K:az}{C a:aj}{ox:Obj}{prog:ah}{w:af}{A:aA}{E:aa->aE->Prop}{h:au}{g:Array GenState}{d:Drawn}{t:Nat}{os:OsState}
def GP{Q:Fin->aE->Prop}(x:XCls K C)(X:K.In h)(I:PySem.W.InstAt h a ox C none)(J:Q (.done<|.ret<|.ref C) ⟨h,g,d,t,os⟩) :
  wpAny (model prog w) A (Builtin.«object.__getattribute__» ⟨[.ref a,.str "__class__" tk],[]⟩) Q E ⟨h,g,d,t,os⟩:=by
 have j:=I.type (M:=model prog w);have f:=looks_find (M:=model prog w) X I x.fc;unfold Builtin.«object.__getattribute__»
 repeat (first|with_reducible refine aH (gz ?_)|with_reducible refine gz ?_|lk)
 refine class_get X I x.ob ?_
 repeat lk
 exact J
def JZ{Q:Unit->aE->Prop}(x:XCls K C)(X:K.In h)(I:PySem.W.InstAt h a ox C none)(J:Q Unit.unit ⟨h,g,d,t,os⟩):wpAny M A (checkBuiltinCall "BaseException.__getattribute__" ⟨[.ref a,nv],[]⟩) Q E ⟨h,g,d,t,os⟩:=by
 have m:builtinKind "BaseException.__getattribute__" = some .slot:=by decide +kernel
 have hs:splitId "BaseException.__getattribute__" = some ("BaseException", "__getattribute__"):=by decide +kernel
 have B:Looks M h (isInstance (.ref a)<|.type "BaseException") true:=(I.type (M:=M)).andThen<|looks_subIn X x.bs;have k:=F.args_bexc_ga (.ref a) nv;dsimp[checkBuiltinCall,m,hs];refine aH<|B.at ?_;show wpAny M A (match Manifest.signature? "BaseException.__getattribute__" with
  | some f=>Bind.checkArgs "BaseException.__getattribute__" f { pos:=[Value.ref a,nv]}
  | x=>pure Unit.unit) Q E _
 cases j:Manifest.signature? "BaseException.__getattribute__" with
 | none=>exact aL J
 | some f=>
  dsimp[argsOk,j]at k;have p:Bind.checkArgs "BaseException.__getattribute__" f ⟨[.ref a,nv],[]⟩=pure Unit.unit:=k;show wpAny M A (Bind.checkArgs "BaseException.__getattribute__" f ⟨[.ref a,nv],[]⟩) Q E _;rw[p];exact aL J
def MH(self:aa):bindSpecial (.builtin "BaseException.__getattribute__") self=pure (.builtin "BaseException.__getattribute__",[self]):=by
 have h1:withoutEnding? "BaseException.__getattribute__" "#opaque" = none:=by decide +kernel
 have f:withoutEnding? "BaseException.__getattribute__" "#data" = none:=by decide +kernel
 have d:builtinKind "BaseException.__getattribute__" = some .slot:=by decide +kernel
 dsimp[bindSpecial,typeOf,builtinType,h1,f,d];rfl
def SI{Q:aa->aE->Prop}(x:XCls K C)(X:K.In h)(I:PySem.W.InstAt h a ox C none)(J:Q (.ref C) ⟨h,g,d,t,os⟩):wpAny (model prog w) A (getAttrBy (.ref a) (.str "__class__" tk) false) Q E ⟨h,g,d,t,os⟩:=by
 have j:=I.type (M:=model prog w);have f:=looks_findIn (M:=model prog w) X x.ga;have L2:=looks_findIn (M:=model prog w) X x.gt;unfold getAttrBy;refine bX<|aH<|j.at<|aH<|f.at ?_;show wpAny _ _ (if (onTheHeap (Value.ref C) && Value.builtin "BaseException.__getattribute__" == Value.builtin "object.__getattribute__")=true then _ else getAttrByItsOwn (.ref a) (.str "__class__" tk) (.ref C) (.builtin "BaseException.__getattribute__") false false) _ _ _;have ne:(Value.builtin "BaseException.__getattribute__" == Value.builtin "object.__getattribute__")=false:=by decide +kernel
 rw[ne,gH,aQ bh];unfold getAttrByItsOwn hookBefore;rw[aT<|show onTheHeap (Value.ref C)=true from rfl];refine aH<|L2.at<|aH<|eO<|bX ?_;unfold callGetattribute boundAndCalled
 skip
 rw[MH,pure_bind];refine gz<|codeAny_call_builtin ∅ F.entry_bexc_ga (JZ x X I<|GP x X I ?_);exact aL J
def HR{Q:bd->aE->Prop}(x:XCls K C)(X:K.In h)(I:PySem.W.InstAt h a ox C none)(j:Q (some<|.ref C) ⟨h,g,d,t+1,os⟩):wpAny (model prog w) A (getAttr? (.ref a) "__class__") Q E ⟨h,g,d,t,os⟩:=by
 unfold getAttr? getAttrBy?;refine aH<|wpAny_mkText<|aH<|eO<|SI x X I ?_;exact aL j
abbrev Wu (C a:aj):au->Prop:=λh=>∃ox,PySem.W.InstAt h a ox C none
def HP(x:XCls K C)(hc:(clsIn K C).isSome=true):KitX K (.ref a) (.ref C) (Wu C a) where
 ty:=λ_ _ _ ⟨_,I⟩=>I.type
 it:=λ_ _ X _=>by
  unfold clsIn at hc;split at hc
  ·rename_i f;intro m B G s' k q;unfold isType loadHead;exact aH (wpAny_loadPart (k _ _<|X _ _ f)<|aL q)
  ·cases hc
 ne:=λh g dd j n F X d=>by
  refine Bool.eq_false_iff.mpr λq=>?_;have e:C=g:=Value.ref.inj<|d8.mp q;subst e;unfold clsIn at hc;split at hc
  ·rename_i f;have z:=(X _ _ f).symm.trans d
   cases z
  ·cases hc
 ca:=λ{_ _ _ _ _ s} X ⟨_,I⟩ k=>by
  obtain⟨p,N,dd,L,J⟩:=s;exact HR x X I k
end
section
variable {X:Cx}{C:aj}{pins:bo}{σ:L2.St}{H:Hp}{s:aE}
def CV{A:aA}{E:aa->aE->Prop}{Q:aa->aE->Prop}{a:aj}{c:aa}(x:XCls X.K C)(hc:(PySem.W.clsIn X.K C).isSome=true)(I:Inv X pins σ H s)(J:H a=some (.frz oe xu))(L:XO C oe)(e:PySem.W.kitOne X.K (.ref C) c=some b)(h:∀tk,Q (.bool b) { s with toks:=tk }) :
  wpAny (model X.prog X.w) A (call (.builtin "isinstance") [.ref a,c]) Q E s:=by
 obtain⟨g,_⟩:=I.hok a _ J;obtain⟨g2,d,vs,f,j⟩:=L;refine b9 (HP x hc) I.rQ ⟨oe,g,g2,?_,?_⟩ e (λz=>nomatch z) h
 ·unfold PySem.W.notCls;rw[f]
 ·rw[d];trivial
end
end L2
namespace L2
open PySem PySem.Spec PyProof.Rows
def xJ:entryFor table "proto.unchain" = some Builtin.«proto.unchain»:=entryFor_of_fast<|by kernel_rfl
section
variable {prog:ah}{w:af}{A:aA}{E:aa->aE->Prop}{s:aE}{e n:aj}{oe on:Obj}{vs ns:Array aa}
def BX{α:Type}{Q:α->aE->Prop}(hh:A.handled=some (.ref e))(j:s.heap.get? e=some oe)(hd:oe.data=.fields vs)(J:vs[2]?=some .none)(hn:s.heap.get? n=some on)(L:on.data=.fields ns)(U:2<ns.size)(ne:e≠n)
  (h:E (.ref n) { s with heap:=s.heap.update n<|Obj.mapFields (·.setIfInBounds 2 (.ref e))}):wpAny (model prog w) A (raiseNew (.ref n):Sem α) Q E s:=by
 unfold raiseNew;refine aH<|wpAny_handled ?_;rw[hh];show wpAny _ _ (if (Value.ref e != Value.ref n)=true then _ else _) _ _ _;rw[aT<|by simp[ne]];refine aH<|bX<|wpAny_runValue<|codeAny_builtin xJ ?_;unfold Builtin.«proto.unchain»;refine aH<|bR j hd J ?_;rw[aT<|show(Value.none == Value.none)=true from rfl];refine aL ?_
 skip
 exact aH<|d_ hn L U<|wpAny_throw h
def CT{i:Nat}{Q:bd->aE->Prop}(hh:A.handled=some (.ref e))(Z:s.heap.get? e=some oe)(hd:oe.data=.fields vs)(h2:vs[2]?=some .none)(U:e≠it)
  (L:s.heap.IsListIter it l i) (hl:s.heap.IsList l items) (hx:items[i]?=none) (hQ:∀h',Heap.ExtBut it s.heap h'->Q none { s with heap:=h' }):wpAny (model prog w) A (pyNext<|.ref it) Q E s:=by
 obtain⟨o,B,hc,d⟩:=id L;obtain⟨K,j,_,J,k⟩:=hl;unfold pyNext;refine aH<|eO<|cF (name:=Str.ofString "__next__") L.typeIs slot_listiter_next<|cz slot_listiter_next L.typeIs entry_listiter_next ?_<|args_listiter_next _;show wpAny _ _ (field (.ref it) 0 >>= _) _ _ _;refine aH (bR B d (x:=.ref l) rfl ?_)
 skip
 rw[aQ<|show ¬((Value.ref l == Value.none)=true)from bh]
 skip
 refine aH (bR B d (x:=.int i 0) rfl ?_)
 skip
 refine aH<|wpAny_seqItems j k ?_;dsimp[cO,hx];refine aH (wpAny_rule<|aH<|d_ B d (by simp) ?_)
 skip
 refine aH ?_;dsimp[newExc,newTuple];refine aH (bA ?_<|by size_fits);refine aH (m:=firstArgMember _ _) (wpAny_of_eq (a:=Value.none) (by first|rfl|(dsimp[firstArgMember];rfl)) ?_);refine bA ?_ (by size_fits);have g:∀(f:Obj->Obj),(s.heap.update it f).get? e=some oe:=λf=>by rw[cP _ _<|bP U];exact Z
 have p:∀(f:Obj->Obj) (C:Obj),e≠((s.heap.update it f).push C).objs.size:=λf C=>br<|aS<|aI _<|g f;refine BX (A:=A.in1) hh (aI _<|aI _<|g _) hd h2 (aU _ rfl) rfl (by simp[ownMembersOf]) (p _ _) ?_;refine aH<|wpAny_isInstance (T := "StopIteration") (b:=true) ⟨_,dh _ (aU _ rfl)<|dX<|dg rfl _,Obj.cls_mapFields ..⟩ isSubtype_stop ?_;refine aL<|hQ _ λb o' G q=>?_;have F:=((eF it (Obj.mapFields λx=>x.setIfInBounds 0 Value.none) (h:=s.heap)).extBut.push { cls:=Value.type "tuple",data:=Data.seq #[]}) b o' G q;rw[cP _ _<|bP<|br<|aS F];exact aI _ F
def zG(hh:A.handled=some (.ref e))(hd:oe.data=.fields vs)(h2:vs[2]?=some .none)(it L:aj)(Z:L≠it)(U:e≠it)(J:Array aa) :
  Walks prog w A it [it,L,e] [it] J.size (λi v=>J[i]?=some v) (λi h=>(h.IsListIter it L i/\h.IsList L J)/\h.get? e=some oe) where
 sub:=λb d=>by simp at d;simp[d]
 frame:=λ_ _ _ st g=>⟨⟨st.1.1.at λo q=>g it (by simp) o q,st.1.2.at λo q=>g L (by simp) o q⟩,g e (by simp) oe st.2⟩
 item:=λi s Q E hi st f=>by
  refine wpAny_pyNext_list_item st.1.1 st.1.2 (x:=J[i]) (by simp[hi]) λh' k j=>?_;exact f _ h' s.toks (by simp[hi]) ⟨⟨k,st.1.2.extBut j.extBut Z⟩,j.extBut e oe U st.2⟩ λb o d q=>j.extBut b o (λz=>d<|by simp[z]) q
 done:=λs Q E st f=>CT hh st.2 hd h2 U st.1.1 st.1.2 (by simp) λh' q=>f h' s.toks λb o d z=>q b o (λy=>d<|by simp[y]) z
 self:=λ_ _ _ _ st f=>wpAny_pyIter_listiter st.1.1 f
end
section
variable {X:Cx}{e C:aj}{oe:Obj}
def FQ(hh:X.A.handled=some (.ref e))(h0:X.H₀ e=some (.frz oe xu))(U:XO C oe):iQ X (.builtin "any") (λxs H Q=>∃(p:aj) (bs:List Bool),xs=[.ref p]/\mE X.K H p (bs.map V.bl)/\Q (.bl<|bs.any id) H):=by
 fin2;obtain⟨p,bs,rfl,G,q⟩:=h;kcj_m
 cases rx
 obtain⟨d,F,pl,P⟩:=I.list G;have k:=BF F;have f:=pl.isList;obtain⟨j,_⟩:=I.hok e _<|I.base.frzs e oe xu h0;obtain⟨vs,L,J⟩:=U.ctx;have g:p<s.heap.objs.size:=by obtain⟨_,z,_⟩:=f;exact aS z
 refine call_any_walk<|gj f ?_;refine⟨s.heap.objs.size,[s.heap.objs.size,p,e],[s.heap.objs.size],d.toArray.size,_,_,λi=>(bs[i]?).getD false,rfl,zG (A:=X.A.in1) hh L J _ p (br g) (br<|aS j) d.toArray,
  ⟨⟨⟨_,aU _ rfl,rfl,rfl⟩,f.push _⟩,aI _ j⟩,λi v s' N O hP m=>?_,λh' tk B=>?_⟩
 ·obtain⟨b,z,rfl⟩:=k.get i v (by simpa using hP);dsimp[z,cS]at m;exact cJ m
 ·have z:((List.range d.toArray.size).any λi=>(bs[i]?).getD false)=bs.any id:=by
   rw[aP,k.length];exact LSm.range_any bs
  rw[z];exact⟨.bl _,H,I.kept<|LSm.kept_iter B,rfl,q⟩
end
end L2
namespace Sx
open PySem PyProof.Rows
structure Ord where
 lt:Nat->Nat->Bool
 irr:∀i,lt i i=false
 tr:∀i j k,lt i j=true->lt j k=true->lt i k=true
 neg:∀i j k,lt i k=true->lt i j=true\/lt j k=true
abbrev P (o:Ord)(i j:Nat):Prop:=o.lt i j=true\/(o.lt j i=false/\i<j)
abbrev So (o:Ord)(g:Nat->Nat)(a b:Nat):Prop:=∀i j,a<=i->i<j->j<b->P o (g i) (g j)
abbrev Cl (g:Nat->Nat)(a b:Nat):Prop:=∀i,a<=i->i<b->a<=g i/\g i<b
abbrev mv (g:Nat->Nat)(src j:Nat):Nat->Nat:=λk=>if k=j then g src else if j<k/\k<=src then g (k-1)else g k
section
variable {o:Ord}{N:Nat}{f:Nat->Keyed}{kd:SortKind}{g:Nat->Nat}{p:Array (Nat×Nat×Nat)}{st:SortSt}
structure Rn (o:Ord)(g0 g:Nat->Nat)(a b:Nat):Prop where
 out:∀i,i<a\/b<=i->g i=g0 i
 cl:Cl g a b
 so:So o g a b
end
section
variable {o:Ord}{g g0:Nat->Nat}
structure Dc (o:Ord)(g0 g:Nat->Nat)(a b q:Nat):Prop where
 out:∀i,i<a\/b<=i->g i=g0 i
 cl:Cl g a b
 few:a+(q+1)<=b
 dn:∀i j,a<=i->i<j->j<b->i<b-(q+1)->P o (g j) (g i)
 id:∀i,b-(q+1)<=i->i<b->g i=i
 al:∀i j,b-(q+1)<=i->i<b->b-(q+1)<=j->j<b->o.lt i j=false
abbrev Fin (o:Ord)(g0 g:Nat->Nat)(a b:Nat):Prop:=(∀i,i<a\/b<=i->g i=g0 i)/\Cl g a b/\(∀i j,a<=i->i<j->j<b->P o (g j) (g i))
end
abbrev DL:Bool->Keyed->Array Keyed->Nat->Nat->Nat->StateT SortSt Sem (bj):=sortPriv% PySem.Builtin.gallop
abbrev Rf:Nat->StateT SortSt Sem Unit:=sortPriv% PySem.Builtin.setMinGallop
section
variable {o:Ord}{N:Nat}{f:Nat->Keyed}{A B hs:am}{ia ib:Nat}
abbrev fa (f:Nat->Keyed)(l:am):Array Keyed:=(l.map f).toArray
abbrev Res (o:Ord)(f:Nat->Keyed)(A B:am)(out:Array Keyed):Prop:=∃hs:am,out=fa f hs/\hs.length=A.length+B.length/\hs.Pairwise (P o)/\∀x∈hs,x∈A\/x∈B
end
structure Sm (st st':SortSt):Prop where
 a:arrOf st'=arrOf st
 k:kindOf st'=kindOf st
 p:pendingOf st'=pendingOf st
 f:failedOf st'=failedOf st
meta abbrev G:=Option (Array Keyed)×Array Keyed×Nat×Nat×Nat×Nat×Nat
abbrev T3 (a b out:Array Keyed)(ia ib mg j J:Nat):StateT SortSt Sem (ForInStep G):=do
 let x <- elem' a ia
 if (ia+1+1 == a.size)=true then pure (ForInStep.done (some<|out.push x++b.extract ib b.size++a.extract (ia+1) a.size,out.push x,ia+1,ib,mg,j,J))
 else if (decide (j<7) && decide (J<7))=true then pure (ForInStep.done (none,out.push x,ia+1,ib,mg,j,J))
 else pure (ForInStep.yield (none,out.push x,ia+1,ib,mg,j,J))
abbrev T2 (a b out:Array Keyed)(ia ib mg j J:Nat):StateT SortSt Sem (ForInStep G):=do
 let x <- elem' b ib
 if (ib+1 == b.size)=true then pure (ForInStep.done (some<|out.push x++a.extract ia a.size++b.extract (ib+1) b.size,out.push x,ia,ib+1,mg,j,J))
 else
  let y <- elem' a ia
  let r <- DL true y b (ib+1) (b.size-(ib+1)) 0
  match r with
  | some k=>
   if k>0 then
    if (ib+1+k == b.size)=true then pure (ForInStep.done (some<|out.push x++b.extract (ib+1) (ib+1+k)++a.extract ia a.size++b.extract (ib+1+k) b.size,out.push x++b.extract (ib+1) (ib+1+k),ia,ib+1+k,mg,j,k))
    else T3 a b (out.push x++b.extract (ib+1) (ib+1+k)) ia (ib+1+k) mg j k
   else T3 a b (out.push x) ia (ib+1) mg j k
  | _=>pure<|ForInStep.done (some<|out.push x++a.extract ia a.size++b.extract (ib+1) b.size,out.push x,ia,ib+1,mg,j,J)
abbrev T1 (a b out:Array Keyed)(ia ib mg J j:Nat):StateT SortSt Sem (ForInStep G):=do
 Rf mg
 let x <- elem' b ib
 let r <- DL false x a ia (a.size-ia) 0
 match r with
 | some k=>
  if k>0 then
   if (ia+k+1 == a.size)=true then pure (ForInStep.done (some<|out++a.extract ia (ia+k)++b.extract ib b.size++a.extract (ia+k) a.size,out++a.extract ia (ia+k),ia+k,ib,mg,k,j))
   else if (ia+k == a.size)=true then pure (ForInStep.done (some<|out++a.extract ia (ia+k)++a.extract (ia+k) a.size++b.extract ib b.size,out++a.extract ia (ia+k),ia+k,ib,mg,k,j))
   else T2 a b (out++a.extract ia (ia+k)) (ia+k) ib mg k j
  else T2 a b out ia ib mg k j
 | _=>pure<|ForInStep.done (some<|out++a.extract ia a.size++b.extract ib b.size,out,ia,ib,mg,J,j)
section
variable {o:Ord}{A B ts:am}{na nb:Nat}
structure Mh (o:Ord)(A B ts:am)(na nb:Nat):Prop where
 la:na<=A.length
 lb:nb<=B.length
 len:ts.length+na+nb=A.length+B.length
 so:ts.Pairwise (P o)
 mem:∀x∈ts,x∈A\/x∈B
 ua:∀y∈A.take na,∀x∈ts,P o y x
 ub:∀y∈B.take nb,∀x∈ts,P o y x
end
meta abbrev H:=Option (Array Keyed)×Nat×Nat×Array Keyed×Nat×Nat×Nat
section
variable {o:Ord}{f:Nat->Keyed}{st0:SortSt}{X Y ts:am}{na nb:Nat}
abbrev Oh (o:Ord)(X Y:am)(n:Nat)(ts:am)(na nb:Nat):Prop:=Mh o X Y ts na nb/\1<=na/\2<=nb/\na+nb+n<=X.length+Y.length
abbrev H2 (o:Ord)(f:Nat->Keyed)(X Y:am)(n:Nat)(st0:SortSt):ForInStep H->SortSt->Prop:=λr d=>Sm st0 d/\match r with
 | .done c=>(∃r z,c=(some r,z)/\Res o f X Y r)\/∃ts na nb mg j g,c=(none,na,nb,fa f ts.reverse,mg,j,g)/\Oh o X Y n ts na nb
 | .yield c=>∃ts na nb mg j g,c=(none,na,nb,fa f ts.reverse,mg,j,g)/\Oh o X Y n ts na nb
end
meta abbrev pr (x:Nat×Nat×Nat):Nat×Nat:=(x.1,x.2.1)
abbrev Rv (o:Ord)(g:Nat->Nat):List (Nat×Nat)->Nat->Nat->Prop
 | [],a,b=>a=b
 | x::l,a,b=>x.1=a/\1<=x.2/\Cl g a (a+x.2)/\So o g a (a+x.2)/\Rv o g l (a+x.2) b
abbrev PA (o:Ord)(g:Nat->Nat)(p:Array<|Nat×Nat×Nat)(b:Nat):Prop:=Rv o g (p.toList.map pr) 0 b
end Sx
namespace Am
open PySem
inductive A where
 | unb|non|bl (b:Bool)|int (i:Int)|str (x:Str)|tup (xs:List A)|frz (xs:List A)|rng (lo hi:Int)|ref (n:Nat)|exn (c:Str)|ty (n:String)|ktu (xs:List A)
@[reducible]def ae:=List A
inductive O where
 | lst (xs:ae)|dct (kvs:List<|ag×A)|dki (kvs:List<|Int×A)|ly (kvs:List<|Str×A)|dcp (kvs:List<|L2.Gf×A)|dcf (kvs:List<|ag×A)|dkf (kvs:List<|Int×A)|ins (c:Str) (fs:List<|Str×A)|obj (c:Str) (fs:List<|Str×A)
meta abbrev gS:=List O
inductive R (α:Type) where
 | ok (a:α) (S:gS)|ex (c:Str) (S:gS)|no
abbrev R.bind {α β:Type}(r:R α)(f:α->gS->R β):R β:=match r with
 | .ok a S=>f a S
 | .ex c S=>.ex c S
 | .no=>.no
abbrev R.post {α:Type}(r:R α)(P:α->gS->Prop)(E:Str->gS->Prop):Prop:=match r with
 | .ok a S=>P a S
 | .ex c S=>E c S
 | .no=>False
def gU{α β:Type}{r:R α}{f:α->gS->R β}{P:β->gS->Prop}{E:Str->gS->Prop}(h:(r.bind f).post P E):r.post (λa S=>(f a S).post P E) E:=by
 cases r<;>exact h
def jE{α:Type}{r:R α}{P j:α->gS->Prop}{E J:Str->gS->Prop}(h:r.post P E)(hp:∀a S,P a S->j a S)(L:∀c S,E c S->J c S):r.post j J:=by
 cases r with
 | ok a S=>exact hp _ _ h
 | ex c S=>exact L _ _ h
 | no=>exact h.elim
abbrev gd {α:Type}(c:Prop)[Decidable c](r:R α):R α:=if c then r else .no
abbrev opt {α β:Type}(o:Option β)(f:β->R α):R α:=match o with
 | some b=>f b
 | none=>.no
def iy{α:Type}{c:Prop}[Decidable c]{r:R α}{P:α->gS->Prop}{E:Str->gS->Prop}(h:(gd c r).post P E):c/\r.post P E:=by
 unfold gd at h;by_cases hc:c
 ·rw[aT hc]at h;exact⟨hc,h⟩
 ·rw[aQ hc]at h;exact h.elim
def gZ{α β:Type}{o:Option β}{f:β->R α}{P:α->gS->Prop}{E:Str->gS->Prop}(h:(opt o f).post P E):∃b,o=some b/\(f b).post P E:=by
 cases o with
 | none=>exact h.elim
 | some b=>exact⟨b,rfl,h⟩
def k_{α:Type}{c:Prop}[Decidable c]{r:R α}(h:c):gd c r=r:=aT h
abbrev gQ (S:gS)(n:Nat):Option (ae):=match S[n]? with
 | some (.lst xs)=>some xs
 | _=>none
def ig{n:Nat}(h:gQ S n=some xs):S[n]?=some (.lst xs):=by
 unfold gQ at h;split at h
 ·rename_i e;cases h;exact e
 ·cases h
def sW{S:gS}{n:Nat}(h:S[n]?=some (.lst xs)):gQ S n=some xs:=by
 unfold gQ;rw[h]
inductive RS where
 | nx (τ:ae) (S:gS)|rt (a:A) (S:gS)|bk (τ:ae) (S:gS)|ct (τ:ae) (S:gS)|ex (c:Str) (S:gS)|no
meta abbrev Ex:=ae->gS->R A
meta abbrev mK:=ae->gS->R (ae)
meta abbrev Te:=ae->gS->R Bool
meta abbrev Sm:=ae->gS->RS
meta abbrev Tg:=A->ae->gS->R (ae)
end Am
namespace Am
open PySem L2
section
variable (K:az) (ρ:bb) (H:Hp)
abbrev wV (K:az)(c:Str)(C:aj):Prop:=PySem.W.nsIn K mainGlobals c=some (some<|.ref C)
abbrev Fz (K:az)(H:Hp)(a:aj)(vs:List V):Prop:=
 (∃o,H a=some (.frz o<|.lst vs))\/∃(o:Obj) (d:Array aa) (n:Nat),K.lookup a=some o/\o.cls=.type "list" /\ o.dict=none/\o.data=.seq d n/\d.size<=sizeLine/\Vals vs d.toList
abbrev V8 (K:az)(a:aj)(vs:List V):Prop:=∃(o:Obj) (d:Array aa) (n:Nat),K.lookup a=some o/\o.cls=.type "tuple" /\ o.dict=none/\o.data=.seq d n/\d.size<=sizeLine/\Vals vs d.toList
mutual
inductive AV:A->V->Prop
 | non:AV .non .non
 | bl (b:Bool):AV (.bl b) (.bl b)
 | int (i:Int):AV (.int i) (.int i)
 | str (x:Str):AV (.str x) (.str x)
 | ty (n:String):AV (.ty n) (.ty n)
 | tup {a:aj} {xs:ae} {vs:List V} (h:H a=some (.tup vs)) (r:AVs xs vs):AV (.tup xs) (.ref a)
 | frz {a:aj} {xs:ae} {vs:List V} (h:Fz K H a vs) (r:AVs xs vs):AV (.frz xs) (.ref a)
 | rng {a:aj} {lo hi:Int} (h:H a=some (.rng lo hi)):AV (.rng lo hi) (.ref a)
 | ref {a:aj} {n:Nat} (h:ρ[n]?=some a):AV (.ref n) (.ref a)
 | exn {a C:aj} {c:Str} {oe:Obj} (n:wV K c C) (h:H a=some (.frz oe xu)) (x:XO C oe):AV (.exn c) (.ref a)
 | ktu {a:aj} {xs:ae} {vs:List V} (h:V8 K a vs) (r:AVs xs vs):AV (.ktu xs)<|.ref a
inductive AVs:ae->List V->Prop
 | nil:AVs [] []
 | cons {x:A} {v:V} {xs:ae} {vs:List V} (h:AV x v) (t:AVs xs vs):AVs (x::xs) (v::vs)
end
abbrev DV:List (ag×A)->List (List Key×V)->Prop
 | [],[]=>True
 | p::r,q::r'=>(q.1=p.1.map Sum.inl/\AV K ρ H p.2 q.2)/\DV r r'
 | _,_=>False
abbrev DI:List (Int×A)->List (Key×V)->Prop
 | [],[]=>True
 | p::r,q::r'=>(q.1=Sum.inl p.1/\AV K ρ H p.2 q.2)/\DI r r'
 | _,_=>False
abbrev DS:List (Str×A)->List (Key×V)->Prop
 | [],[]=>True
 | p::r,q::r'=>(q.1=Sum.inr p.1/\AV K ρ H p.2 q.2)/\DS r r'
 | _,_=>False
abbrev DP:List (L2.Gf×A)->List (L2.Gf×aj×aa)->Prop
 | [],[]=>True
 | p::r,q::r'=>(q.1=p.1/\L2.AY H q.2.1 q.1/\∃v,RelV v q.2.2/\AV K ρ H p.2 v)/\DP r r'
 | _,_=>False
abbrev FV:List (Str×A)->List (Str×V)->Prop
 | [],[]=>True
 | p::r,q::r'=>(q.1=p.1/\AV K ρ H p.2 q.2)/\FV r r'
 | _,_=>False
abbrev OR (a:aj):O->Prop
 | .lst xs=>∃vs,H a=some (.lst vs)/\AVs K ρ H xs vs
 | .dct kvs=>∃ks,H a=some (.dT ks)/\DV K ρ H kvs ks
 | .dki kvs=>∃ks,H a=some (.dK ks)/\DI K ρ H kvs ks
 | .ly kvs=>∃ks,H a=some (.dK ks)/\DS K ρ H kvs ks
 | .dcp kvs=>∃xs,H a=some (.ext<|L2.Ux a xs)/\DP K ρ H kvs xs
 | .dcf kvs=>∃o ks,H a=some (.frz o<|.dT ks)/\DV K ρ H kvs ks
 | .dkf kvs=>∃o ks,H a=some (.frz o<|.dK ks)/\DI K ρ H kvs ks
 | .ins _ _=>∃o u,H a=some (.frz o u)
 | .obj c fs=>∃ws,(∃C dx,wV K c C/\H a=some (.ins C dx ws))/\FV K ρ H fs ws
structure Rel (S:gS):Prop where
 len:ρ.length=S.length
 nd:ρ.Nodup
 «at»:∀(n:Nat) (a:aj) (o:O),ρ[n]?=some a->S[n]?=some o->OR K ρ H a o
end
abbrev RV:HO->Prop
 | .tup _=>True
 | .rng _ _=>True
 | .frz _ _=>True
 | _=>False
structure Ext0 (ρ ρ':bb)(H H':Hp):Prop where
 pre:ρ <+: ρ'
 im:∀a u,RV u->H a=some u->H' a=some u
structure Ext (ρ ρ':bb)(H H':Hp):Prop extends Ext0 ρ ρ' H H' where
 fr:∀a u,H a=some u->a∉ρ->H' a=some u
 nw:∀a,a∈ρ'->a∈ρ\/H a=none
def Ext.refl{H:Hp}:Ext ρ ρ H H:=⟨⟨dO _,λ_ _ _ h=>h⟩,λ_ _ h _=>h,λ_ h=>.inl h⟩
def Ext.trans{H H1 H2:Hp}(a:Ext ρ ρ1 H H1)(b:Ext ρ1 ρ2 H1 H2):Ext ρ ρ2 H H2:=⟨⟨a.pre.trans b.pre,λx u i h=>b.im x u i<|a.im x u i h⟩,λx u h n=>b.fr x u (a.fr x u h n) λz=>(a.nw x z).elim n λz=>by(rw[z]at h;cases h),λx h=>by
 by_cases d:x∈ρ
 ·exact .inl d
 ·right
  cases q:H x with
  | none=>rfl
  | some u=>
   rcases b.nw x h with z|z
   ·exact((a.nw x z).elim d λz=>by(rw[z]at q;cases q)).elim
   ·rw[a.fr x u q d]at z;cases z⟩
def Ext0.get{H H':Hp}(e:Ext0 ρ ρ' H H'){n:Nat}{a:aj}(h:ρ[n]?=some a):ρ'[n]?=some a:=by
 obtain⟨t,rfl⟩:=e.pre;rw[aW (aM.mp h).1];exact h
section
variable {K:az}{ρ ρ':bb}{H H':Hp}
def Ext0.TU(e:Ext0 ρ ρ' H H'){a:aj}(h:kZ K H a vs):kZ K H' a vs:=by
 rcases h with(h|⟨o,h⟩)|h
 ·exact .inl (.inl<|e.im _ _ trivial h)
 ·exact .inl (.inr ⟨o,e.im _ _ trivial h⟩)
 ·exact .inr h
def Ext0.fz(e:Ext0 ρ ρ' H H'){a:aj}(h:Fz K H a vs):Fz K H' a vs:=by
 rcases h with⟨o,h⟩|h
 ·exact .inl ⟨o,e.im _ _ trivial h⟩
 ·exact .inr h
def Fz.LB{a:aj}(h:Fz K H a vs):mE K H a vs:=by
 rcases h with⟨o,h⟩|h
 ·exact .inl (.inr ⟨o,h⟩)
 ·exact .inr h
mutual
theorem AV.je(e:Ext0 ρ ρ' H H'):∀{x:A}{v:V},AV K ρ H x v->AV K ρ' H' x v
 | _,_,.non=>.non
 | _,_,.bl b=>.bl b
 | _,_,.int i=>.int i
 | _,_,.str x=>.str x
 | _,_,.ty x=>.ty x
 | _,_,.tup h r=>.tup (e.im _ _ trivial h) (AVs.je e r)
 | _,_,.frz h r=>.frz (e.fz h) (AVs.je e r)
 | _,_,.rng h=>.rng (e.im _ _ trivial h)
 | _,_,.ref h=>.ref (e.get h)
 | _,_,.exn n h x=>.exn n (e.im _ _ trivial h) x
 | _,_,.ktu h r=>.ktu h<|AVs.je e r
theorem AVs.je(e:Ext0 ρ ρ' H H'):∀{xs:ae}{vs:List V},AVs K ρ H xs vs->AVs K ρ' H' xs vs
 | _,_,.nil=>.nil
 | _,_,.cons h t=>.cons (AV.je e h)<|AVs.je e t
end
theorem DV.je(e:Ext0 ρ ρ' H H'):∀{xs:List<|ag×A}{vs:List<|List Key×V},DV K ρ H xs vs->DV K ρ' H' xs vs
 | [],[],_=>trivial
 | _::_,_::_,⟨⟨a,b⟩,r⟩=>⟨⟨a,AV.je e b⟩,DV.je e r⟩
def DV.ext{x:List<|ag×A}{v:List<|List Key×V}(h:DV K ρ H x v)(e:Ext ρ ρ' H H'):DV K ρ' H' x v:=DV.je e.toExt0 h
theorem DI.je(e:Ext0 ρ ρ' H H'):∀{xs:List<|Int×A}{vs:List<|Key×V},DI K ρ H xs vs->DI K ρ' H' xs vs
 | [],[],_=>trivial
 | _::_,_::_,⟨⟨a,b⟩,r⟩=>⟨⟨a,AV.je e b⟩,DI.je e r⟩
def DI.ext{x:List<|Int×A}{v:List<|Key×V}(h:DI K ρ H x v)(e:Ext ρ ρ' H H'):DI K ρ' H' x v:=DI.je e.toExt0 h
theorem DS.je(e:Ext0 ρ ρ' H H'):∀{xs:List<|Str×A}{vs:List<|Key×V},DS K ρ H xs vs->DS K ρ' H' xs vs
 | [],[],_=>trivial
 | _::_,_::_,⟨⟨a,b⟩,r⟩=>⟨⟨a,AV.je e b⟩,DS.je e r⟩
def DS.ext{x:List<|Str×A}{v:List<|Key×V}(h:DS K ρ H x v)(e:Ext ρ ρ' H H'):DS K ρ' H' x v:=DS.je e.toExt0 h
theorem FV.je(e:Ext0 ρ ρ' H H'):∀{xs:List<|Str×A}{vs:List<|Str×V},FV K ρ H xs vs->FV K ρ' H' xs vs
 | [],[],_=>trivial
 | _::_,_::_,⟨⟨a,b⟩,r⟩=>⟨⟨a,AV.je e b⟩,FV.je e r⟩
def FV.ext{x:List<|Str×A}{v:List<|Str×V}(h:FV K ρ H x v)(e:Ext ρ ρ' H H'):FV K ρ' H' x v:=FV.je e.toExt0 h
def AY.je{k:L2.Gf}(e:Ext0 ρ ρ' H H'):L2.AY H b k->L2.AY H' b k:=λ⟨r1,r2,h1,d,f⟩=>⟨r1,r2,e.im _ _ trivial h1,e.im _ _ trivial d,e.im _ _ trivial f⟩
theorem DP.je(e:Ext0 ρ ρ' H H'):∀{xs:List<|L2.Gf×A}{vs:List<|L2.Gf×aj×aa},DP K ρ H xs vs->DP K ρ' H' xs vs
 | [],[],_=>trivial
 | _::_,_::_,⟨⟨a,k,v,c,b⟩,r⟩=>⟨⟨a,AY.je e k,v,c,AV.je e b⟩,DP.je e r⟩
def DP.ext{x:List<|L2.Gf×A}{v:List<|L2.Gf×aj×aa}(h:DP K ρ H x v)(e:Ext ρ ρ' H H'):DP K ρ' H' x v:=DP.je e.toExt0 h
def AV.ext{x:A}{v:V}(h:AV K ρ H x v)(e:Ext ρ ρ' H H'):AV K ρ' H' x v:=AV.je e.toExt0 h
def AVs.ext{x:ae}{v:List V}(h:AVs K ρ H x v)(e:Ext ρ ρ' H H'):AVs K ρ' H' x v:=AVs.je e.toExt0 h
theorem AVs.length:∀{xs:ae}{vs:List V},AVs K ρ H xs vs->xs.length=vs.length
 | _,_,.nil=>rfl
 | _,_,.cons _ t=>cW (·+1)<|AVs.length t
theorem AVs.append:∀{xs ys:ae}{vs ws:List V},AVs K ρ H xs vs->AVs K ρ H ys ws->AVs K ρ H (xs++ys) (vs++ws)
 | _,_,_,_,.nil,s=>s
 | _,_,_,_,.cons h t,s=>.cons h<|AVs.append t s
theorem AVs.take:∀{xs:ae}{vs:List V}(n:Nat),AVs K ρ H xs vs->AVs K ρ H (xs.take n) (vs.take n)
 | _,_,0,_=>.nil
 | _,_,_+1,.nil=>.nil
 | _,_,n+1,.cons h t=>.cons h<|AVs.take n t
theorem AVs.drop:∀{xs:ae}{vs:List V}(n:Nat),AVs K ρ H xs vs->AVs K ρ H (xs.drop n) (vs.drop n)
 | _,_,0,r=>r
 | _,_,_+1,.nil=>.nil
 | _,_,n+1,.cons _ t=>AVs.drop n t
theorem AVs.reverse:∀{xs:ae}{vs:List V},AVs K ρ H xs vs->AVs K ρ H xs.reverse vs.reverse
 | _,_,.nil=>.nil
 | _,_,.cons h t=>by rw[fu,fu];exact(AVs.reverse t).append (.cons h .nil)
theorem AVs.get:∀{xs:ae}{vs:List V}{i:Nat}{x:A},AVs K ρ H xs vs->xs[i]?=some x->∃v,vs[i]?=some v/\AV K ρ H x v
 | _,_,_,_,.nil,e=>by simp at e
 | _,_,0,_,.cons h _,e=>by simp at e;subst e;exact⟨_,rfl,h⟩
 | _,_,i+1,x,.cons _ t,e=>by
  obtain⟨u,h1,d⟩:=AVs.get (i:=i) (x:=x) t (by simpa using e);exact⟨u,by simpa using h1,d⟩
theorem AVs.set{x:A}{v:V}(h:AV K ρ H x v):∀{xs:ae}{vs:List V}(i:Nat),AVs K ρ H xs vs->AVs K ρ H (xs.set i x) (vs.set i v)
 | _,_,_,.nil=>.nil
 | _,_,0,.cons _ t=>.cons h t
 | _,_,i+1,.cons q t=>.cons q<|AVs.set h i t
def AVs.one{x:A}{v:V}(h:AV K ρ H x v):AVs K ρ H [x] [v]:=.cons h .nil
theorem qO:∀(ns:ag),AVs K ρ H (ns.map .int) (ns.map .int)
 | []=>.nil
 | n::ns=>.cons (.int n)<|qO ns
def Rel.lay{S:gS}{p:aj}(R:Rel K ρ H S)(hp:H p=none)(r:AVs K ρ H xs vs):Ext ρ (ρ++[p]) H (upd H p<|.lst vs)/\Rel K (ρ++[p]) (upd H p<|.lst vs) (S++[.lst xs])/\(ρ++[p])[S.length]?=some p:=by
 have ex:Ext ρ (ρ++[p]) H (upd H p<|.lst vs):=⟨⟨dS _ _,λa u _ h=>by rw[gV<|g9 h hp];exact h⟩,λa u h _=>by rw[gV<|g9 h hp];exact h,λa h=>by
  rcases bQ.mp h with z|z
  ·exact .inl z
  ·have e:a=p:=by simpa using z
   rw[e];exact .inr hp⟩
 have np:∀(n:Nat) (a:aj),ρ[n]?=some a->a≠p:=by
  intro n a e z;subst z;have hn:n<S.length:=by rw[<- R.len];exact(aM.mp e).1
  have:=R.at n a S[n] e (aN hn)
  cases g:S[n]with
  | lst xs=>rw[g]at this;obtain⟨vs,h,_⟩:=this;rw[hp]at h;cases h
  | dct _|dki _|ly _|dcp _=>rw[g]at this;obtain⟨vs,h,_⟩:=this;rw[hp]at h;cases h
  | dcf _|dkf _=>rw[g]at this;obtain⟨_,vs,h,_⟩:=this;rw[hp]at h;cases h
  | ins _ _=>rw[g]at this;obtain⟨_,_,h⟩:=this;rw[hp]at h;cases h
  | obj _ _=>rw[g]at this;obtain⟨_,⟨_,_,_,h⟩,_⟩:=this;rw[hp]at h;cases h
 have d:(ρ++[p])[S.length]?=some p:=by rw[<- R.len];simp
 refine⟨ex,⟨by simp[R.len],?_,?_⟩,d⟩
 ·rw[cK];refine⟨R.nd,by simp,λa F b k e=>?_⟩;have:b=p:=by simpa using k
  obtain⟨n,hn,B⟩:=dG.mp F;exact np n a (by rw[aN hn,B])<|e.trans this
 ·intro n a o h1 f;by_cases hn:n<S.length
  ·rw[aW<|by rw[R.len];exact hn]at h1;rw[aW hn]at f;have:=R.at n a o h1 f
   cases o with
   | lst ys=>obtain⟨ws,e,q⟩:=this;exact⟨ws,by rw[gV<|np n a h1];exact e,q.ext ex⟩
   | dct _|dki _|ly _|dcp _=>obtain⟨ws,e,q⟩:=this;exact⟨ws,by rw[gV<|np n a h1];exact e,q.ext ex⟩
   | dcf _|dkf _=>obtain⟨j,ws,e,q⟩:=this;exact⟨j,ws,by rw[gV<|np n a h1];exact e,q.ext ex⟩
   | ins _ _=>obtain⟨j,m,e⟩:=this;exact⟨j,m,by rw[gV<|np n a h1];exact e⟩
   | obj _ _=>obtain⟨ws,⟨C,dx,c,e⟩,q⟩:=this;exact⟨ws,⟨C,dx,c,by rw[gV<|np n a h1];exact e⟩,q.ext ex⟩
  ·have e:n=S.length:=by
    have:=(aM.mp f).1;simp at this
    lia
   subst e;rw[d]at h1
   cases h1
   simp at f;subst f;exact⟨vs,iF,r.ext ex⟩
def Rel.im{p:aj}(R:Rel K ρ H S)(hp:H p=none):Ext ρ ρ H (upd H p u)/\Rel K ρ (upd H p u) S:=by
 have ex:Ext ρ ρ H (upd H p u):=⟨⟨dO _,λa u _ h=>by rw[gV<|g9 h hp];exact h⟩,λa u h _=>by rw[gV<|g9 h hp];exact h,λ_ h=>.inl h⟩;refine⟨ex,R.len,R.nd,λn a o h1 f=>?_⟩;have:=R.at n a o h1 f
 cases o with
 | lst ys=>obtain⟨ws,e,q⟩:=this;exact⟨ws,by rw[gV<|g9 e hp];exact e,q.ext ex⟩
 | dct _|dki _|ly _|dcp _=>obtain⟨ws,e,q⟩:=this;exact⟨ws,by rw[gV<|g9 e hp];exact e,q.ext ex⟩
 | dcf _|dkf _=>obtain⟨d,ws,e,q⟩:=this;exact⟨d,ws,by rw[gV<|g9 e hp];exact e,q.ext ex⟩
 | ins _ _=>obtain⟨d,g,e⟩:=this;exact⟨d,g,by rw[gV<|g9 e hp];exact e⟩
 | obj _ _=>obtain⟨ws,⟨C,dx,c,e⟩,q⟩:=this;exact⟨ws,⟨C,dx,c,by rw[gV<|g9 e hp];exact e⟩,q.ext ex⟩
def Rel.put{S:gS}{n:Nat}{a:aj}(R:Rel K ρ H S)(J:ρ[n]?=some a)(L:S[n]?=some (.lst xs))(r:AVs K ρ H ys ws):Ext ρ ρ H (upd H a<|.lst ws)/\Rel K ρ (upd H a<|.lst ws) (S.set n<|.lst ys):=by
 obtain⟨vs,e,_⟩:=R.at n a _ J L;have ex:Ext ρ ρ H (upd H a<|.lst ws):=⟨⟨dO _,λb u i h=>by
  have:b≠a:=by
   intro z;subst z;rw[e]at h;cases h;exact i
  rw[gV this];exact h⟩,λb u h n=>by
  rw[gV λz=>n<|by rw[z];exact bI J];exact h,λ_ h=>.inl h⟩
 refine⟨ex,by rw[bL];exact R.len,R.nd,λm b o h1 g=>?_⟩;by_cases k:m=n
 ·subst k;rw[J]at h1;cases h1;rw[bz (aM.mp L).1]at g
  cases g
  exact⟨ws,iF,r.ext ex⟩
 ·rw[a_<|bP k]at g;have nb:b≠a:=λz=>by
   subst z;obtain⟨B,e1⟩:=aM.mp J;obtain⟨F,e2⟩:=aM.mp h1;exact k<|(eo R.nd).mp<|e2.trans e1.symm
  have:=R.at m b o h1 g
  cases o with
  | lst ys=>obtain⟨d,f,q⟩:=this;exact⟨d,by rw[gV nb];exact f,q.ext ex⟩
  | dct _|dki _|ly _|dcp _=>obtain⟨d,f,q⟩:=this;exact⟨d,by rw[gV nb];exact f,q.ext ex⟩
  | dcf _|dkf _=>obtain⟨j,d,f,q⟩:=this;exact⟨j,d,by rw[gV nb];exact f,q.ext ex⟩
  | ins _ _=>obtain⟨j,p,f⟩:=this;exact⟨j,p,by rw[gV nb];exact f⟩
  | obj _ _=>obtain⟨ws,⟨C,dx,c,f⟩,q⟩:=this;exact⟨ws,⟨C,dx,c,by rw[gV nb];exact f⟩,q.ext ex⟩
def Rel.lst{n:Nat}{a:aj}(R:Rel K ρ H S)(j:ρ[n]?=some a)(J:S[n]?=some (.lst xs)):∃vs,H a=some (.lst vs)/\AVs K ρ H xs vs:=R.at n a _ j J
structure SR (K:az)(ρ:bb)(H:Hp)(τ:ae)(σ:St):Prop where
 len:τ.length=σ.length
 «at»:∀(i:Nat) (a:A),τ[i]?=some a->a=.unb\/∃v,σ[i]?=some (some v)/\AV K ρ H a v
def SR.je(s:SR K ρ H τ σ)(e:Ext0 ρ ρ' H H'):SR K ρ' H' τ σ:=⟨s.len,λi a h=>by
 rcases s.at i a h with z|⟨v,h1,d⟩
 ·exact .inl z
 ·exact .inr ⟨v,h1,AV.je e d⟩⟩
def SR.ext(s:SR K ρ H τ σ)(e:Ext ρ ρ' H H'):SR K ρ' H' τ σ:=s.je e.toExt0
def Rel.out(R:Rel K ρ H S)(J:H D=some (.lst vs))(hn:D∉ρ):Ext0 ρ ρ H (upd H D<|.lst ws)/\Rel K ρ (upd H D<|.lst ws) S:=by
 have ex:Ext0 ρ ρ H (upd H D<|.lst ws):=⟨dO _,λb u i h=>by
  have:b≠D:=by
   intro z;subst z;rw[J]at h;cases h;exact i
  rw[gV this];exact h⟩
 refine⟨ex,R.len,R.nd,λn a o h1 g=>?_⟩;have na:a≠D:=λz=>hn (by rw[<- z];exact bI h1);have:=R.at n a o h1 g
 cases o with
 | lst ys=>obtain⟨d,e,q⟩:=this;exact⟨d,by rw[gV na];exact e,AVs.je ex q⟩
 | dct _|dki _|ly _|dcp _=>obtain⟨d,e,q⟩:=this;exact⟨d,by rw[gV na];exact e,q.je ex⟩
 | dcf _|dkf _=>obtain⟨f,d,e,q⟩:=this;exact⟨f,d,by rw[gV na];exact e,q.je ex⟩
 | ins _ _=>obtain⟨f,j,e⟩:=this;exact⟨f,j,by rw[gV na];exact e⟩
 | obj _ _=>obtain⟨ws,⟨C,dx,c,e⟩,q⟩:=this;exact⟨ws,⟨C,dx,c,by rw[gV na];exact e⟩,q.je ex⟩
def Rel.take{S:gS}{D:aj}(R:Rel K ρ H S)(J:H D=some (.lst vs))(hn:D∉ρ)(r:AVs K ρ H xs vs):Rel K (ρ++[D]) H (S++[.lst xs])/\(ρ++[D])[S.length]?=some D:=by
 have ex:Ext0 ρ (ρ++[D]) H H:=⟨dS _ _,λ_ _ _ h=>h⟩;have d:(ρ++[D])[S.length]?=some D:=by rw[<- R.len];simp
 refine⟨⟨by simp[R.len],?_,λn a o h1 f=>?_⟩,d⟩
 ·rw[cK];refine⟨R.nd,by simp,λa m b j e=>?_⟩;have:b=D:=by simpa using j
  exact hn<|by rw[<- this,<- e];exact m
 ·by_cases hs:n<S.length
  ·rw[aW<|by rw[R.len];exact hs]at h1;rw[aW hs]at f;have:=R.at n a o h1 f
   cases o with
   | lst ys=>obtain⟨ws,e,q⟩:=this;exact⟨ws,e,AVs.je ex q⟩
   | dct _|dki _|ly _|dcp _=>obtain⟨ws,e,q⟩:=this;exact⟨ws,e,q.je ex⟩
   | dcf _|dkf _=>obtain⟨g,ws,e,q⟩:=this;exact⟨g,ws,e,q.je ex⟩
   | ins _ _=>obtain⟨g,k,e⟩:=this;exact⟨g,k,e⟩
   | obj _ _=>obtain⟨ws,⟨C,dx,c,e⟩,q⟩:=this;exact⟨ws,⟨C,dx,c,e⟩,q.je ex⟩
  ·have e:n=S.length:=by
    have:=(aM.mp f).1;simp at this
    lia
   subst e;rw[d]at h1
   cases h1
   simp at f;subst f;exact⟨vs,J,AVs.je ex r⟩
def SR.set{τ:ae}{σ:St}{a:A}{v:V}(s:SR K ρ H τ σ)(h:AV K ρ H a v):SR K ρ H (τ.set i a) (σ.set i<|some v):=by
 refine⟨by simp[s.len],λj b e=>?_⟩;by_cases d:j=i
 ·subst d;have f:j<τ.length:=by
   have:=(aM.mp e).1;simpa using this
  rw[bz f]at e
  cases e
  exact .inr ⟨v,bz<|by rw[<- s.len];exact f,h⟩
 ·rw[a_<|bP d]at e;rw[a_<|bP d];exact s.at j b e
end
end Am
namespace Am
open PySem PySem.Spec PyProof.Rows L2
abbrev XE (X:Cx)(ρ:bb)(H:Hp):Str->gS->Prop:=λc d=>∀(C:aj) (ρ':bb) (H':Hp),wV X.K c C->Ext ρ ρ' H H'->Rel X.K ρ' H' d->EX X (.ref C) none H'
def XE.ext{H H':Hp}{c:Str}(h:XE X ρ H c S)(e:Ext ρ ρ' H H'):XE X ρ' H' c S:=λC d H2 n e2=>h C d H2 n<|e.trans e2
abbrev sF (X:Cx)(ρ:bb)(H:Hp)(Q:VK):A->gS->Prop:=λa d=>∀ρ' H' v,Ext ρ ρ' H H'->Rel X.K ρ' H' d->AV X.K ρ' H' a v->Q v H'
abbrev TV (X:Cx)(ρ:bb)(H:Hp)(Q:Bool->Hp->Prop):Bool->gS->Prop:=λb d=>∀ρ' H',Ext ρ ρ' H H'->Rel X.K ρ' H' d->Q b H'
abbrev Wj (X:Cx)(ρ:bb)(H:Hp)(Q:List V->Hp->Prop):ae->gS->Prop:=λf d=>∀ρ' H' vs,Ext ρ ρ' H H'->Rel X.K ρ' H' d->AVs X.K ρ' H' f vs->Q vs H'
def sF.ext{H H':Hp}{Q:VK}{a:A}(h:sF X ρ H Q a S)(e:Ext ρ ρ' H H'):sF X ρ' H' Q a S:=λd H2 v e2=>h d H2 v<|e.trans e2
def TV.ext{H H':Hp}{Q:Bool->Hp->Prop}{a:Bool}(h:TV X ρ H Q a S)(e:Ext ρ ρ' H H'):TV X ρ' H' Q a S:=λd H2 e2=>h d H2<|e.trans e2
def gP{α:Type}{H H':Hp}{r:R α}{P j:α->gS->Prop}(h:r.post P<|XE X ρ H)(e:Ext ρ ρ' H H')(hp:∀a S,P a S->j a S):r.post j (XE X ρ' H'):=jE h hp λ_ _ z=>z.ext e
abbrev tE (X:Cx)(c:Ex):TE:=λσ H Q=>∃ρ S τ,Rel X.K ρ H S/\SR X.K ρ H τ σ/\(c τ S).post (sF X ρ H Q) (XE X ρ H)
abbrev tT (X:Cx)(c:Te):TT:=λσ H Q=>∃ρ S τ,Rel X.K ρ H S/\SR X.K ρ H τ σ/\(c τ S).post (TV X ρ H Q) (XE X ρ H)
abbrev tL (X:Cx)(c:mK):TA:=λσ H Q=>∃ρ S τ,Rel X.K ρ H S/\SR X.K ρ H τ σ/\(c τ S).post (Wj X ρ H Q) (XE X ρ H)
abbrev AE (X:Cx)(e:aF)(c:Ex):Prop:=PE X e<|tE X c
abbrev AT (X:Cx)(e:aF)(c:Te):Prop:=PT X e<|tT X c
abbrev AW (X:Cx)(e:aF)(c:Te):Prop:=PW X e<|tT X c
abbrev AL (X:Cx)(es:List aF)(c:mK):Prop:=PA X es<|tL X c
def PE.imp{t t':TE}(h:PE X e t)(i:∀σ H Q,t' σ H Q->t σ H Q):PE X e t':=λpins s σ H Q I q=>h pins s σ H Q I<|i σ H Q q
def PT.imp{t t':TT}(h:PT X e t)(i:∀σ H Q,t' σ H Q->t σ H Q):PT X e t':=λpins s σ H Q I q=>h pins s σ H Q I<|i σ H Q q
def PW.imp{t t':TT}(h:PW X e t)(i:∀σ H Q,t' σ H Q->t σ H Q):PW X e t':=λw pins s σ H Q I q=>h w pins s σ H Q I<|i σ H Q q
def PA.imp{t t':TA}(h:PA X e t)(i:∀σ H Q,t' σ H Q->t σ H Q):PA X e t':=λp pins s σ H Q I q=>h p pins s σ H Q I<|i σ H Q q
def AW.at{c:Te}(h:AW X e c):AT X e c:=h _
abbrev A.jJ:A->Bool
 | .unb=>true
 | _=>false
abbrev gJ (i:Nat):Ex:=λτ S=>if (τ.getD i .unb).jJ then .no else .ok (τ.getD i .unb) S
abbrev eC (a:A):Ex:=λ_ S=>.ok a S
section
variable {X:Cx}{pos:Pos}{a b:aF}
def gI(i:Nat){x:Str}(J:X.N[i]?=some x<|>ε)(hv:TN X.env.scope x:=by first|exact Or.inl rfl|exact Or.inr (Or.inl rfl)|exact Or.inr<|Or.inr rfl)(hd:(x == ("__debug__" : Str))=false:=by decide)
  (j:(x == ("__classdict__" : Str))=false:=by decide):AE X (.Name x pos) (gJ i):=PE.imp (Ph J hv hd j) λσ H Q h9=>by
 room;unfold gJ at h
 cases hi:τ[i]? with
 | none=>
  rw[aX,hi]at h;exact h.elim
 | some x=>
  rw[aX,hi]at h
  rcases r.at i x hi with z|⟨v,e,q⟩
  ·subst z;exact h.elim
  ·refine⟨v,e,?_⟩
   cases x<;>first|(exact h ρ H v .refl R q)|exact h.elim
def gX{i:Int}{j pos}:AE X (.Constant (.int i) j pos) (eC<|.int i):=PE.imp C4 λσ H Q ⟨ρ,S,τ,R,r,h⟩=>h ρ H _ .refl R<|.int i
def ow{j pos}:AE X (.Constant (.bool i) j pos) (eC<|.bl i):=PE.imp Sn λσ H Q ⟨ρ,S,τ,R,r,h⟩=>h ρ H _ .refl R<|.bl i
def O2{j pos}:AE X (.Constant .none j pos) (eC .non):=PE.imp O7 λσ H Q ⟨ρ,S,τ,R,r,h⟩=>h ρ H _ .refl R .non
def iC{x:Str}{j pos}:AE X (.Constant (.str x) j pos) (eC<|.str x):=PE.imp Ht λσ H Q ⟨ρ,S,τ,R,r,h⟩=>h ρ H _ .refl R<|.str x
def mZ{x:Str}{i:Int}(j:X.mg x=some (.int i t))(hg:Gl X x<|>ε)(hd:(x == ("__debug__" : Str))=false<|>δ):AE X (.Name x pos) (eC<|.int i):=
 PE.imp (qW (v:=.int i) hg j ⟨t,rfl⟩ hd) λσ H Q ⟨ρ,S,τ,R,r,h⟩=>h ρ H _ .refl R<|.int i
abbrev gT (f:A->A->gS->R A)(ca j:Ex):Ex:=λτ S=>(ca τ S).bind λa S1=>(j τ S1).bind λb d=>f a b d
abbrev r2 (X:Cx)(f:A->A->gS->R A):R2:=λx y H Q=>∃ρ S a b,Rel X.K ρ H S/\AV X.K ρ H a x/\AV X.K ρ H b y/\(f a b S).post (sF X ρ H Q) (XE X ρ H)
abbrev r1 (X:Cx)(f:A->gS->R A):V->Hp->VK->Prop:=λx H Q=>∃ρ S a,Rel X.K ρ H S/\AV X.K ρ H a x/\(f a S).post (sF X ρ H Q) (XE X ρ H)
abbrev rN (X:Cx)(f:ae->gS->R A):List V->Hp->VK->Prop:=λxs H Q=>∃ρ S d,Rel X.K ρ H S/\AVs X.K ρ H d xs/\(f d S).post (sF X ρ H Q) (XE X ρ H)
def kC.imp{f:aa->aa->Sem aa}{r j:R2}(h:kC X f r)(i:∀x y H Q,j x y H Q->r x y H Q):kC X f j:=λpins s σ H x y v u Q I rx ry q=>h pins s σ H x y v u Q I rx ry<|i _ _ _ _ q
def iQ.imp{f:aa}{r j:List V->Hp->VK->Prop}(h:iQ X f r)(i:∀x H Q,j x H Q->r x H Q):iQ X f j:=λpins s σ H x v Q I rx q=>h pins s σ H x v Q I rx<|i _ _ _ q
def sU{f:A->A->gS->R A}{ca J:Ex}{H:Hp}{Q:VK}(h:tE X (gT f ca J) σ H Q):Q2 (r2 X f) (tE X ca) (tE X J) σ H Q:=by
 gp_on;refine⟨ρ,S,τ,R,r,gP (gU h) .refl λa S1 h1 ρ1 H1 x e1 R1 v1=>⟨ρ1,S1,τ,R1,r.ext e1,gP (gU h1) e1 λb g k d H2 y e2 R2 j=>?_⟩⟩;exact⟨d,g,a,b,R2,v1.ext e2,j,gP k (e1.trans e2) λc p m=>m.ext<|e1.trans e2⟩
def g_{f:A->A->gS->R A}{ca j:Ex}(J:kC X (binaryOp op)<|r2 X f)(L:AE X a ca)(hb:AE X b j):AE X (.BinOp a op b pos) (gT f ca j):=
 PE.imp (SQ J L hb) λσ H Q h=>sU h
def qp{j:CmpOp}{f:A->A->gS->R A}{ca J:Ex}(L:kC X (compareOp j)<|r2 X f)(U:AE X a ca)(hb:AE X b J)(Z:behindInMarks j b=false:=by first|exact JM _|with_unfolding_all rfl):AE X (.Compare a [j] [b] pos) (gT f ca J):=
 PE.imp (L7 L U hb Z) λσ H Q h=>sU h
abbrev A.Oc:A->gS->bi
 | .non,_=>some false
 | .bl b,_=>some b
 | .int i,_=>some (i != 0)
 | .str x,_=>if x.length<=sizeLine then some ((x.length:Int) != 0)else none
 | .tup xs,_=>some (!xs.isEmpty)
 | .frz xs,_=>some (!xs.isEmpty)
 | .ref n,S=>(gQ S n).map λxs=>!xs.isEmpty
 | _,_=>none
abbrev o8 (c:Ex):Te:=λτ S=>(c τ S).bind λa S1=>opt (a.Oc S1) λb=>.ok b S1
abbrev mF (c:Ex):Te:=λτ S=>(c τ S).bind λa S1=>match a with
 | .bl b=>.ok b S1
 | _=>.no
def wZ{K:az}{H:Hp}{b:Bool}{v:V}(h:AV K ρ H (.bl b) v):v=.bl b:=by cases h;rfl
def iT{j:CmpOp}{f:A->A->gS->R A}{ca J:Ex}(L:kC X (compareOp j)<|r2 X f)(U:AE X a ca)(hb:AE X b J)(Z:behindInMarks j b=false:=by first|exact JM _|with_unfolding_all rfl):AT X (.Compare a [j] [b] pos) (mF<|gT f ca J):=
 PT.imp (Dz L U hb Z) λσ H Q h9=>by
  room;refine sU ⟨ρ,S,τ,R,r,gP (gU h) .refl λc S1 h1 ρ1 H1 x e1 R1 v1=>?_⟩
  cases c with
  | bl k=>cases wZ v1;exact⟨k,rfl,h1 ρ1 H1 e1 R1⟩
  | _=>exact h1.elim
def OA{K:az}{H:Hp}{x:A}{v:V}{b:Bool}(R:Rel K ρ H S)(h:AV K ρ H x v)(e:x.Oc S=some b):Qg K v H b:=by
 have d:∀{xs:ae} {vs:List V},AVs K ρ H xs vs->(!xs.isEmpty)=!vs.isEmpty:=λr=>by cases r<;>rfl
 cases h with
 | non=>exact(aR e).symm
 | bl b=>exact(aR e).symm
 | int i=>exact(aR e).symm
 | str x=>
  by_cases f:x.length<=sizeLine
  ·exact⟨f,by have:=(aT f).symm.trans e;exact(aR this).symm⟩
  ·have:=(aQ f).symm.trans e;cases this
 | tup h r=>exact .inr (.inl ⟨_,kZ.of h,by rw[<- d r];exact(aR e).symm⟩)
 | frz h r=>exact .inl ⟨_,h.LB,by rw[<- d r];exact(aR e).symm⟩
 | rng h=>cases e
 | ty n=>cases e
 | exn n h x=>cases e
 | ktu h r=>cases e
 | @ref a n h=>
  have e:(gQ S n).map (λxs=>!xs.isEmpty)=some b:=e;obtain⟨xs,hn,e⟩:=aV.mp e;obtain⟨vs,h1,g⟩:=R.lst h<|ig hn;exact .inl ⟨vs,mE.of h1,by rw[<- d g];exact e.symm⟩
def j3{ca:Ex}(j:AE X a ca)(J:(∀whole,isTrue a X.env whole=(do let v <- whole;standAt a.pos;holding [v] (truthy v)))<|>ζ):AT X a (o8 ca):=
 PT.imp (Lx j J) λσ H Q ⟨ρ,S,τ,R,r,h⟩=>⟨ρ,S,τ,R,r,gP (gU h) .refl λc S1 h1 ρ1 H1 x e1 R1 v1=>by
  obtain⟨b,d,h1⟩:=gZ h1;exact⟨b,OA R1 v1 d,h1 ρ1 H1 e1 R1⟩⟩
abbrev pS (c:Te):Te:=λτ S=>(c τ S).bind λb S1=>.ok (!b) S1
abbrev xT (c d:Te):Te:=λτ S=>(c τ S).bind λb S1=>match b with|true=>d τ S1|false=>.ok false S1
abbrev GC (c d:Te):Te:=λτ S=>(c τ S).bind λb S1=>match b with|true=>.ok true S1|false=>d τ S1
def kc{c:Te}(h:AT X a c):AT X (.UnaryOp .Not a pos) (pS c):=PT.imp (QO h) λσ H Q ⟨ρ,S,τ,R,r,h⟩=>⟨ρ,S,τ,R,r,gP (gU h) .refl λb S1 h1=>h1⟩
def and_imp{c d:Te}{H:Hp}{Q:Bool->Hp->Prop}(h:tT X (xT c d) σ H Q):Su (tT X c) (tT X d) σ H Q:=by
 gp_on;refine⟨ρ,S,τ,R,r,gP (gU h) .refl λb S1 h1 ρ1 H1 e1 R1=>?_⟩
 cases b with
 | true=>
  rw[aT rfl];kpc_g
 | false=>
  rw[aQ bh];exact h1 ρ1 H1 e1 R1
def or_imp{c d:Te}{H:Hp}{Q:Bool->Hp->Prop}(h:tT X (GC c d) σ H Q):VM (tT X c) (tT X d) σ H Q:=by
 gp_on;refine⟨ρ,S,τ,R,r,gP (gU h) .refl λb S1 h1 ρ1 H1 e1 R1=>?_⟩
 cases b with
 | false=>
  rw[aQ bh];kpc_g
 | true=>
  rw[aT rfl];exact h1 ρ1 H1 e1 R1
variable {rest:List aF}
def zB{c:Te}(h:AT X a c):AW X (.BoolOp .And [a] pos) c:=LY h
def qt{c:Te}(h:AT X a c):AW X (.BoolOp .Or [a] pos) c:=Qa h
def Cd{c d:Te}(h:AT X a c)(j:AW X (.BoolOp .And (b::rest) pos) d):AW X (.BoolOp .And (a::b::rest) pos) (xT c d):=PW.imp (OW h j) λ_ _ _ q=>and_imp q
def tF{c d:Te}(h:AT X a c)(j:AW X (.BoolOp .Or (b::rest) pos) d):AW X (.BoolOp .Or (a::b::rest) pos) (GC c d):=PW.imp (Ss h j) λ_ _ _ q=>or_imp q
abbrev qj (c d:Ex):Ex:=λτ S=>(c τ S).bind λa S1=>match a with | .bl true=>d τ S1 | .bl false=>.ok (.bl false) S1|_=>.no
abbrev VD (c d:Ex):Ex:=λτ S=>(c τ S).bind λa S1=>match a with | .bl true=>.ok (.bl true) S1 | .bl false=>d τ S1|_=>.no
abbrev CU (c:Ex):Ex:=λτ S=>(c τ S).bind λa S1=>match a with | .bl b=>.ok (.bl !b) S1|_=>.no
def rR{op}{c:Ex}(h:AE X a c):AE X (.BoolOp op [a] pos) c:=Qe h
def qQ{c d:Ex}(h:AE X a c)(j:AE X (.BoolOp .And (b::rest) pos) d):AE X (.BoolOp .And (a::b::rest) pos) (qj c d):=PE.imp (Pa h j) λσ H Q h9=>by
 room;refine⟨ρ,S,τ,R,r,gP (gU h) .refl λb S1 h1 ρ1 H1 x e1 R1 v1=>?_⟩
 cases b with
 | bl k=>
  cases wZ v1
  refine⟨k,rfl,?_⟩
  cases k with
  | true=>
   rw[aT rfl];kpc_g
  | false=>
   rw[aQ bh];exact h1 ρ1 H1 _ e1 R1<|.bl false
 | _=>exact h1.elim
def Jc{c:Ex}(h:AE X a c):AE X (.UnaryOp .Not a pos) (CU c):=PE.imp (Qn h) λσ H Q h9=>by
 room;refine⟨ρ,S,τ,R,r,gP (gU h) .refl λb S1 h1 ρ1 H1 x e1 R1 v1=>?_⟩
 cases b with
 | bl k=>
  cases wZ v1
  exact⟨k,rfl,h1 ρ1 H1 _ e1 R1<|.bl _⟩
 | _=>exact h1.elim
abbrev Q5 (t:Te)(c d:Ex):Ex:=λτ S=>(t τ S).bind λb S1=>match b with|true=>c τ S1|false=>d τ S1
def Io{t:Te}{c d:Ex}(j:AT X e t)(J:AE X a c)(hb:AE X b d):AE X (.IfExp e a b pos) (Q5 t c d):=PE.imp (Lk j J hb) λσ H Q h9=>by
 room;refine⟨ρ,S,τ,R,r,gP (gU h) .refl λb S1 h1 ρ1 H1 e1 R1=>?_⟩
 cases b with
 | true=>
  rw[aT rfl];kpc_g
 | false=>
  rw[aQ bh];kpc_g
abbrev gR:mK:=λ_ S=>.ok [] S
abbrev gK (c:Ex)(d:mK):mK:=λτ S=>(c τ S).bind λa S1=>(d τ S1).bind λg f=>.ok (a::g) f
def gY:AL X [] gR:=PA.imp qw λσ H Q ⟨ρ,S,τ,R,r,h⟩=>h ρ H _ .refl R .nil
def gO{c:Ex}{d:mK}(J:AE X e c)(L:AL X es d)(hs:starEach (e::es) X.env=(false,eval e X.env)::starEach es X.env<|>ε):AL X (e::es) (gK c d):=
 PA.imp (lI J L hs) λσ H Q h9=>by
  room;refine⟨ρ,S,τ,R,r,gP (gU h) .refl λa S1 h1 ρ1 H1 x e1 R1 v1=>⟨ρ1,S1,τ,R1,r.ext e1,gP (gU h1) e1 λm k j f H2 xs e2 R2 g=>?_⟩⟩;exact j f H2 _ (e1.trans e2) R2<|.cons (v1.ext e2) g
abbrev Jq (d:mK):Ex:=λτ S=>(d τ S).bind λf S1=>gd (f.length<=sizeLine)<|.ok (.tup f) S1
abbrev newL (j:ae)(S:gS):R A:=gd (j.length<=sizeLine)<|.ok (.ref S.length)<|S++[.lst j]
abbrev oQ (d:mK):Ex:=λτ S=>(d τ S).bind λf S1=>newL f S1
def pK{H H0:Hp}{Q:VK}(R:Rel X.K ρ H S)(r:AVs X.K ρ H as vs)(e:Ext ρ0 ρ H0 H)(h:sF X ρ0 H0 Q (.tup as) S):∀p,H p=none->Q (.ref p) (upd H p<|.tup vs):=λp hp=>by
 obtain⟨ex,d⟩:=R.im (u:=.tup vs) hp;exact h ρ _ _ (e.trans ex) d<|.tup iF<|r.ext ex
def kj{H H0:Hp}{S:gS}{Q:VK}(R:Rel X.K ρ H S)(r:AVs X.K ρ H as vs)(e:Ext ρ0 ρ H0 H)(h:sF X ρ0 H0 Q (.ref S.length)<|S++[.lst as]):∀p,H p=none->Q (.ref p) (upd H p<|.lst vs):=λp hp=>by
 obtain⟨ex,d,g⟩:=R.lay hp r;exact h _ _ _ (e.trans ex) d<|.ref g
def M8{H H0:Hp}{vs:List V}{Q:VK}(R:Rel X.K ρ H S)(r:AVs X.K ρ H as vs)(e:Ext ρ0 ρ H0 H)(h:(newL as S).post (sF X ρ0 H0 Q)<|XE X ρ0 H0):vs.length<=sizeLine/\∀p,H p=none->Q (.ref p) (upd H p<|.lst vs):=by
 obtain⟨d,h⟩:=iy h;exact⟨by rw[<- r.length];exact d,kj R r e h⟩
def CZ{d:mK}{x1}(h:AL X es d):AE X (.Tuple es x1 pos) (Jq d):=PE.imp (PF h) λσ H Q h9=>by
 room;refine⟨ρ,S,τ,R,r,gP (gU h) .refl λg S1 h1 ρ1 H1 xs e1 R1 v1=>?_⟩;obtain⟨f,h1⟩:=iy h1;exact⟨by rw[<- v1.length];exact f,pK R1 v1 e1 h1⟩
def pI{d:mK}(h:AL X es d):AE X (.List es pos) (oQ d):=PE.imp (QH h) λσ H Q ⟨ρ,S,τ,R,r,h⟩=>
 ⟨ρ,S,τ,R,r,gP (gU h) .refl λf S1 h1 ρ1 H1 xs e1 R1 v1=>M8 R1 v1 e1 h1⟩
end
section
variable {X:Cx}{pos:Pos}{a b:aF}
abbrev aSub (a b:A)(S:gS):R A:=match a,b with
 | .int i,.int j=>.ok (.int<|i-j) S
 | _,_=>.no
def Ai:kC X (binaryOp .Sub) (r2 X aSub):=kC.imp PJ λx y H Q h9=>by
 w_up
 cases va<;>first|exact h.elim|(cases vb<;>first|exact h.elim|exact⟨_,_,rfl,rfl,h _ _ _ .refl R<|.int _⟩)
abbrev Ae (i j:Int):Bool:=(decide (-(2 ^ 64)<i) && decide (i<2 ^ 64)) || (decide (-(2 ^ 64)<j) && decide (j<2 ^ 64))
def mulOk_of{i j:Int}(h:Ae i j=true):Mu i j:=by
 unfold Ae at h;dsimp[Bool.or_eq_true,cA,gu]at h;exact h
abbrev pO (a b:A)(S:gS):R A:=match a,b with
 | .int i,.int j=>gd (Ae i j) (.ok (.int<|i * j) S)
 | .ref n,.int k=>opt (gQ S n) λxs=>gd (-(2 ^ 63)<=k/\k<2 ^ 63/\xs.length * k.toNat<=sizeLine) (.ok (.ref S.length)<|S++[.lst (List.replicate k.toNat xs).flatten])
 | _,_=>.no
theorem AVs.rep{K:az}{H:Hp}(r:AVs K ρ H xs vs):∀k:Nat,AVs K ρ H (List.replicate k xs).flatten (List.replicate k vs).flatten
 | 0=>.nil
 | k+1=>by rw[cI,cI,cX,cX];exact r.append<|AVs.rep r k
def xy:kC X (binaryOp .Mult) (r2 X pO):=λpins s σ H x y v u Q I rx ry h9=>by
 w_up
 cases va with
 | int i=>
  cases vb with
  | int j=>
   obtain⟨f,h⟩:=iy h;exact QC pins s σ H _ _ v u Q I rx ry ⟨i,j,rfl,rfl,mulOk_of f,h _ _ _ .refl R<|.int _⟩
  | _=>exact h.elim
 | @ref p n hp=>
  cases vb with
  | int k=>
   gn_on;obtain⟨hc,h⟩:=iy h;obtain⟨vs,h1,d⟩:=R.lst hp<|ig hn;exact OT pins s σ H _ _ v u Q I rx ry ⟨p,k,vs,rfl,rfl,h1,hc.1,hc.2.1,by rw[<- d.length];exact hc.2.2,kj R (d.rep _) .refl h⟩
  | _=>exact h.elim
 | _=>exact h.elim
abbrev w_ (a b:A)(S:gS):R A:=match a,b with
 | .int i,.int j=>gd (0<j/\j<18446744073709551616) (.ok (.int<|i / j) S)
 | _,_=>.no
def yX:kC X (binaryOp .FloorDiv) (r2 X w_):=kC.imp HM λx y H Q h9=>by
 w_up
 cases va<;>first|exact h.elim|(cases vb<;>first|exact h.elim|exact⟨_,_,rfl,rfl,(iy h).1,(iy h).2 _ _ _ .refl R<|.int _⟩)
abbrev rg (a b:A)(S:gS):R A:=match a,b with
 | .int i,.int j=>gd (0<j) (.ok (.int<|i % j) S)
 | _,_=>.no
def vf:kC X (binaryOp .Mod) (r2 X rg):=kC.imp Qx λx y H Q h9=>by
 w_up
 cases va<;>first|exact h.elim|(cases vb<;>first|exact h.elim|exact⟨_,_,rfl,rfl,(iy h).1,(iy h).2 _ _ _ .refl R<|.int _⟩)
abbrev Mq (a b:A)(S:gS):R A:=match a,b with
 | .int i,.int j=>gd (0<=j/\j<=1000000/\i.natAbs<2 ^ 64) (.ok (.int<|i ^ j.toNat) S)
 | _,_=>.no
def Sg:kC X (binaryOp .Pow) (r2 X Mq):=kC.imp OY λx y H Q h9=>by
 w_up
 cases va<;>first|exact h.elim|(cases vb<;>first|exact h.elim|exact⟨_,_,rfl,rfl,(iy h).1,(iy h).2 _ _ _ .refl R<|.int _⟩)
abbrev iK (a b:A)(S:gS):R A:=match a,b with
 | .int i,.int j=>.ok (.int<|i+j) S
 | .tup xs,.tup ys=>gd (xs.length+ys.length<=sizeLine) (.ok (.tup<|xs++ys) S)
 | .str x,.str y=>gd (x.length+y.length<=sizeLine) (.ok (.str<|x++y) S)
 | .ref n,.ref m=>opt (gQ S n) λxs=>opt (gQ S m) λys=>gd (xs.length+ys.length<=sizeLine) (.ok (.ref S.length)<|S++[.lst<|xs++ys])
 | _,_=>.no
def AVs.nil_inv{K:az}{H:Hp}(r:AVs K ρ H xs vs):xs=[] ↔ vs=[]:=by cases r<;>simp
def i8:kC X (binaryOp .Add) (r2 X iK):=λpins s σ H x y v u Q I rx ry h9=>by
 w_up
 cases va with
 | int i=>
  cases vb with
  | int j=>exact P6 pins s σ H _ _ v u Q I rx ry ⟨i,j,rfl,rfl,h _ _ _ .refl R<|.int _⟩
  | _=>exact h.elim
 | str x=>
  cases vb with
  | str y=>
   obtain⟨hc,h⟩:=iy h;exact B9 pins s σ H _ _ v u Q I rx ry ⟨x,y,rfl,rfl,hc,h _ _ _ .refl R<|.str _⟩
  | _=>exact h.elim
 | @tup p xs vs h1 r1=>
  cases vb with
  | @tup q ys ws d r2=>
   obtain⟨hc,h⟩:=iy h;by_cases hv:vs=[]
   ·have C:=r1.nil_inv.mpr hv;subst hv C;exact IM pins s σ H _ _ v u Q I rx ry ⟨p,q,ws,rfl,rfl,kZ.of h1,kZ.of d,h _ _ _ .refl R<|.tup d r2⟩
   ·refine MS pins s σ H _ _ v u Q I rx ry ⟨p,q,vs,ws,rfl,rfl,kZ.of h1,kZ.of d,hv,by rw[<- r1.length,<- r2.length];exact hc,λe=>?_,λ_=>pK R (r1.append r2) .refl h⟩;have hy:=r2.nil_inv.mpr e;subst hy;rw[bT]at h;exact h _ _ _ .refl R<|.tup h1 r1
  | _=>exact h.elim
 | @ref p n hp=>
  cases vb with
  | @ref q m g=>
   gn_on;obtain⟨ys,B,h⟩:=gZ h;obtain⟨hc,h⟩:=iy h;obtain⟨vs,h1,d⟩:=R.lst hp<|ig hn;obtain⟨ws,k,f⟩:=R.lst g<|ig B;exact OO pins s σ H _ _ v u Q I rx ry ⟨p,q,vs,ws,rfl,rfl,h1,k,by rw[<- d.length,<- f.length];exact hc,kj R (d.append f) .refl h⟩
  | _=>exact h.elim
 | _=>exact h.elim
abbrev A.ints:ae->Option (ag)
 | []=>some []
 | .int i::xs=>(A.ints xs).map (i::·)
 | _=>none
def O_{x:A}{bs:ag}(e:A.ints (x::xs)=some bs):∃b cs,x=.int b/\A.ints xs=some cs/\bs=b::cs:=by
 unfold A.ints at e;split at e
 ·rename_i z;cases z
 ·rename_i i ys z
  cases z
  obtain⟨cs,h1,d⟩:=aV.mp e;exact⟨i,cs,rfl,h1,d.symm⟩
 ·cases e
def Nm{K:az}{H:Hp}:∀{xs:ae}{vs:List V}{bs:ag},AVs K ρ H xs vs->A.ints xs=some bs->vs=bs.map V.int:=by
 intro xs
 induction xs with
 | nil=>
  intro vs bs h e
  cases h
  cases e
  rfl
 | cons x xs d=>
  intro vs bs h e;obtain⟨b,cs,rfl,e1,rfl⟩:=O_ e
  cases h with
  | cons h t=>
   cases h
   rw[d t e1];rfl
abbrev Q4 (a b:A)(S:gS):R A:=match a,b with
 | .int i,.int j=>.ok (.bl<|decide<|i<j) S
 | _,_=>.no
def Qu(J:X.A.units+64<cLine):kC X (compareOp .Lt) (r2 X Q4):=λpins s σ H x y v u Q I rx ry h9=>by
 w_up
 cases va with
 | int i=>
  cases vb with
  | int j=>exact Ry pins s σ H _ _ v u Q I rx ry ⟨i,j,rfl,rfl,h _ _ _ .refl R<|.bl _⟩
  | _=>exact h.elim
 | _=>exact h.elim
abbrev GH (a b:A)(S:gS):R A:=match a,b with
 | .int i,.int j=>.ok (.bl<|decide<|i<=j) S
 | _,_=>.no
def IS:kC X (compareOp .LtE) (r2 X GH):=kC.imp Td λx y H Q h9=>by
 w_up
 cases va<;>first|exact h.elim|(cases vb<;>first|exact h.elim|exact⟨_,_,rfl,rfl,h _ _ _ .refl R<|.bl _⟩)
abbrev GI (a b:A)(S:gS):R A:=match a,b with
 | .int i,.int j=>.ok (.bl<|decide<|j<i) S
 | _,_=>.no
def Ci(J:X.A.units+64<cLine):kC X (compareOp .Gt) (r2 X GI):=λpins s σ H x y v u Q I rx ry h9=>by
 w_up
 cases va with
 | int i=>
  cases vb with
  | int j=>exact Ri pins s σ H _ _ v u Q I rx ry ⟨i,j,rfl,rfl,h _ _ _ .refl R<|.bl _⟩
  | _=>exact h.elim
 | _=>exact h.elim
abbrev Mt (a b:A)(S:gS):R A:=match a,b with
 | .int i,.int j=>.ok (.bl<|decide<|j<=i) S
 | _,_=>.no
def Sd:kC X (compareOp .GtE) (r2 X Mt):=kC.imp To λx y H Q h9=>by
 w_up
 cases va<;>first|exact h.elim|(cases vb<;>first|exact h.elim|exact⟨_,_,rfl,rfl,h _ _ _ .refl R<|.bl _⟩)
abbrev Ck (J:Bool)(a b:A)(S:gS):R A:=match a,b with
 | .bl i,.bl j=>.ok (.bl<|if J then i != j else i == j) S
 | .non,.non=>.ok (.bl<|!J) S
 | .unb,.non=>.no
 | .exn _,.non=>.no
 | _,.non=>.ok (.bl J) S
 | _,_=>.no
def QI{n:Bool}{a b:A}(h1:b≠.non)(J:∀j,b≠.bl j):Ck n a b S=.no:=by
 unfold Ck;split<;>first|rfl|exact absurd rfl h1|exact absurd rfl<|J _
def PD{n:Bool}{a b:A}{F:A->gS->Prop}{G:Str->gS->Prop}(h:(Ck n a b S).post F G)(h1:b≠.non)(J:∀j,b≠.bl j):False:=by
 rw[QI h1 J]at h;exact h
def U5:kC X (compareOp .Is) (r2 X<|Ck false):=λpins s σ H x y v u Q I rx ry h9=>by
 w_up
 cases vb with
 | non=>
  refine O5 pins s σ H _ _ v u Q I rx ry ⟨rfl,?_⟩
  cases va<;>first|exact h _ _ _ .refl R (.bl _)|exact h.elim
 | bl j=>
  cases va with
  | bl i=>exact Qd pins s σ H _ _ v u Q I rx ry ⟨i,j,rfl,rfl,h _ _ _ .refl R<|.bl _⟩
  | _=>exact h.elim
 | _=>
  exact(PD h (λz=>nomatch z) nofun).elim
abbrev GJ (f:A->gS->R A)(c:Ex):Ex:=λτ S=>(c τ S).bind λa S1=>f a S1
abbrev GA (a:A)(S:gS):R A:=match a with
 | .int i=>.ok (.int<|-i) S
 | _=>.no
def RZ:TZ X (unaryOp .USub) (r1 X GA):=λpins s σ H x v Q I rx h9=>by
 obtain⟨ρ,S,a,R,va,h⟩:=h9
 cases va with
 | int i=>exact Cm pins s σ H _ v Q I rx ⟨i,rfl,h _ _ _ .refl R<|.int _⟩
 | _=>exact h.elim
def Qc{f:A->gS->R A}{c:Ex}{H:Hp}{Q:VK}(h:tE X (GJ f c) σ H Q):Vi (r1 X f) (tE X c) σ H Q:=by
 gp_on;exact⟨ρ,S,τ,R,r,gP (gU h) .refl λa S1 h1 ρ1 H1 x e1 R1 v1=>⟨ρ1,S1,a,R1,v1,gP h1 e1 λc g d=>d.ext e1⟩⟩
def P9{c:Ex}(h:AE X a c):AE X (.UnaryOp .USub a pos) (GJ GA c):=PE.imp (HN RZ h) λ_ _ _ q=>Qc q
abbrev jv (a b:A)(S:gS):R A:=match a,b with
 | .tup xs,.int i=>opt (oA xs i) λx=>.ok x S
 | .frz xs,.int i=>opt (oA xs i) λx=>.ok x S
 | .ref n,.int i=>opt (gQ S n) λxs=>opt (oA xs i) λx=>.ok x S
 | .str z,.int i=>gd (z.length<=sizeLine) (opt (oA z.cps.toList i) λc=>.ok (.str ⟨#[c]⟩) S)
 | _,_=>.no
def AVs.oA{K:az}{H:Hp}{i:Int}{x:A}(r:AVs K ρ H xs vs)(h:L2.oA xs i=some x):∃v,L2.oA vs i=some v/\AV K ρ H x v:=by
 unfold L2.oA at h ⊢;rw[<- r.length]
 cases d:zj xs.length i with
 | none=>rw[d]at h;cases h
 | some j=>
  rw[d]at h;exact r.get h
def Sv:Ol X (r2 X jv):=λvalue d pins s σ H x y v u Q I rx ry ⟨ρ,S,a,b,R,va,vb,h⟩ hs=>by
 cases va with
 | @tup p xs vs h1 r1=>
  cases vb with
  | int i=>
   obtain⟨x,f,h⟩:=gZ h;obtain⟨z,e,q⟩:=r1.oA f;exact P0 value d pins s σ H _ _ v u Q I rx ry ⟨p,vs,i,z,rfl,rfl,kZ.of h1,e,h _ _ _ .refl R q⟩ hs
  | _=>exact h.elim
 | @frz p xs vs h1 r1=>
  cases vb with
  | int i=>
   obtain⟨x,f,h⟩:=gZ h;obtain⟨z,e,q⟩:=r1.oA f;exact ET value d pins s σ H _ _ v u Q I rx ry ⟨p,vs,i,z,rfl,rfl,h1.LB,e,h _ _ _ .refl R q⟩ hs
  | _=>exact h.elim
 | @ref p n hp=>
  cases vb with
  | int i=>
   gn_on;obtain⟨x,f,h⟩:=gZ h;obtain⟨vs,h1,r1⟩:=R.lst hp<|ig hn;obtain⟨z,e,q⟩:=r1.oA f;exact ET value d pins s σ H _ _ v u Q I rx ry ⟨p,vs,i,z,rfl,rfl,mE.of h1,e,h _ _ _ .refl R q⟩ hs
  | _=>exact h.elim
 | str z=>
  cases vb with
  | int i=>
   obtain⟨g,h⟩:=iy h;obtain⟨c,hc,h⟩:=gZ h;exact PZ value d pins s σ H _ _ v u Q I rx ry ⟨z,i,c,rfl,rfl,g,hc,h _ _ _ .refl R<|.str _⟩ hs
  | _=>exact h.elim
 | _=>exact h.elim
def i6{ca j:Ex}(J:AE X a ca)(hb:AE X b j)(hs:vN b<|>θ):AE X (.Subscript a b pos) (gT jv ca j):=PE.imp (Lh Sv J hb hs) λσ H Q h=>sU h
end
abbrev wc (f:A->A->bi):ae->ae->bi
 | [],[]=>some true
 | x::xs,y::ys=>(f x y).bind λp=>(wc f xs ys).map λq=>p && q
 | _,_=>some false
inductive Sh
 | non
 | bl (b:Bool)
 | int (i:Int)
 | str (x:Str)
 | tup (xs:ae)
 | lst
abbrev OM (S:gS):A->Option Sh
 | .non=>some .non
 | .bl b=>some (.bl b)
 | .int i=>some (.int i)
 | .str x=>some (.str x)
 | .tup xs=>some (.tup xs)
 | .ref i=>(gQ S i).map λ_=>.lst
 | _=>none
abbrev Nd (f:A->A->bi):Sh->Sh->bi
 | .non,.non=>some true
 | .bl x,.bl y=>some (x == y)
 | .bl x,.int y=>some ((if x then 1 else 0) == y)
 | .int x,.bl y=>some (x == (if y then 1 else 0))
 | .int x,.int y=>some (x == y)
 | .str x,.str y=>some (x == y)
 | .tup xs,.tup ys=>wc f xs ys
 | .lst,.lst=>none
 | _,_=>some false
abbrev yy (S:gS):Nat->A->A->bi
 | 0,_,_=>none
 | n+1,a,b=>match a,b with
  | .ref i,.ref j=>(gQ S i).bind λxs=>(gQ S j).bind λys=>wc (yy S n) xs ys
  | _,_=>(OM S a).bind λx=>(OM S b).bind λy=>Nd (yy S n) x y
section
variable {X:Cx}{pins:bo}{σ:L2.St}{H:Hp}{s:aE}{ρ:bb}{S:gS}
inductive KdV (s:aE):Sh->aa->Prop
 | non:KdV s .non .none
 | bl (b:Bool):KdV s (.bl b) (.bool b)
 | int (i:Int) (t:Tok):KdV s (.int i) (.int i t)
 | str (x:Str) (t:Tok):KdV s (.str x) (.str x t)
 | tup {p:aj} {us:ba} (xs:ae) (h:s.heap.IsTuple p us.toArray):KdV s (.tup xs) (.ref p)
 | lst {p:aj} {us:ba} (h:s.heap.IsList p us.toArray):KdV s .lst<|.ref p
def D7{p:aj}(h:s.heap.IsTuple p us)(h':s.heap.IsList p ws):False:=by
 obtain⟨o,e,c,_⟩:=h;obtain⟨o',d,f,_⟩:=h';rw[e]at d
 cases d
 exact absurd (c.symm.trans f) ⋯
def EE(I:Inv X pins σ H s)(R:Rel X.K ρ H S){a:A}{x:V}(j:AV X.K ρ H a x)(r:RelV x u)(e:OM S a=some h):KdV s h u:=by
 cases j with
 | non=>cases e;cases(show u=Value.none from r);exact .non
 | bl b=>cases e;cases(show u=Value.bool b from r);exact .bl b
 | int i=>cases e;obtain⟨t,rfl⟩:∃t,u=Value.int i t:=r;exact .int i t
 | str i=>cases e;obtain⟨t,rfl⟩:∃t,u=Value.str i t:=r;exact .str i t
 | tup h1 r1=>cases e;cases(show u=Value.ref _ from r);obtain⟨us,_,p,_⟩:=I.tuple<|kZ.of h1;exact .tup _ p
 | ref h1=>
  obtain⟨xs,e1,rfl⟩:=aV.mp e
  cases(show u=Value.ref _ from r)
  obtain⟨vs,d,r1⟩:=R.lst h1<|ig e1;obtain⟨us,_,p,_⟩:=I.list<|mE.of d;exact .lst p.isList
 | _=>cases e
abbrev Al (B:aA)(s:aE)(u v:aa)(k:Bool):Prop:=SeqAt.RcAt B s u v k/\SeqAt.EqAt B s u v k/\SeqAt.RcNeAt B s u v (!k)
def SY{B:aA}(J:B.units<cLine){f:A->A->bi}{v:aa}{k:Bool}(d:KdV s h u)(d':KdV s h' v)(L:∀xs ys,h=.tup xs->h'≠.tup ys)(e:Nd f h h'=some k):Al B s u v k:=by
 cases d with
 | non=>cases d' with
  | non=>cases e;exact⟨.none_none,.same _,.none_none⟩
  | bl b=>cases e;exact⟨.none_bool _,.none_bool _,.none_bool _⟩
  | int i t=>cases e;exact⟨.none_int _ _,.none_int _ _,.none_int _ _⟩
  | str x t=>cases e;exact⟨.none_str _ _,.none_str _ _,.none_str _ _⟩
  | tup xs p=>cases e;exact⟨.none_tuple p J,.none_tuple p J,.none_tuple p J⟩
  | lst p=>cases e;exact⟨.none_list p J,.none_list p J,.none_list p J⟩
 | bl c=>cases d' with
  | non=>cases e;exact⟨.bool_none _,.bool_none _,.bool_none _⟩
  | bl b=>cases e;exact⟨.bool_bool _ _,.bool_bool _ _,.bool_bool _ _⟩
  | int i t=>cases e;exact⟨.bool_int _ _ _,.bool_int _ _ _,.bool_int _ _ _⟩
  | str x t=>cases e;exact⟨.bool_str _ _ _,.bool_str _ _ _,.bool_str _ _ _⟩
  | tup xs p=>cases e;exact⟨.bool_tuple _ p J,.bool_tuple _ p J,.bool_tuple _ p J⟩
  | lst p=>cases e;exact⟨.bool_list _ p J,.bool_list _ p J,.bool_list _ p J⟩
 | int c j=>cases d' with
  | non=>cases e;exact⟨.int_none _ _,.int_none _ _,.int_none _ _⟩
  | bl b=>cases e;exact⟨.int_bool _ _ _,.int_bool _ _ _,.int_bool _ _ _⟩
  | int i t=>cases e;exact⟨.int_int _ _ _ _,.int_int _ _ _ _,.int_int _ _ _ _⟩
  | str x t=>cases e;exact⟨.int_str _ _ _ _,.int_str _ _ _ _,.int_str _ _ _ _⟩
  | tup xs p=>cases e;exact⟨.int_tuple _ _ p J,.int_tuple _ _ p J,.int_tuple _ _ p J⟩
  | lst p=>cases e;exact⟨.int_list _ _ p J,.int_list _ _ p J,.int_list _ _ p J⟩
 | str c j=>cases d' with
  | non=>cases e;exact⟨.str_none _ _,.str_none _ _,.str_none _ _⟩
  | bl b=>cases e;exact⟨.str_bool _ _ _,.str_bool _ _ _,.str_bool _ _ _⟩
  | int i t=>cases e;exact⟨.str_int _ _ _ _,.str_int _ _ _ _,.str_int _ _ _ _⟩
  | str x t=>cases e;exact⟨.str_str _ _ _ _,.str_str _ _ _ _,.str_str _ _ _ _⟩
  | tup xs p=>cases e;exact⟨.str_tuple _ _ p J,.str_tuple _ _ p J,.str_tuple _ _ p J⟩
  | lst p=>cases e;exact⟨.str_list _ _ p J,.str_list _ _ p J,.str_list _ _ p J⟩
 | tup zs g=>cases d' with
  | non=>cases e;exact⟨.tuple_none g J,.tuple_none g J,.tuple_none g J⟩
  | bl b=>cases e;exact⟨.tuple_bool _ g J,.tuple_bool _ g J,.tuple_bool _ g J⟩
  | int i t=>cases e;exact⟨.tuple_int _ _ g J,.tuple_int _ _ g J,.tuple_int _ _ g J⟩
  | str x t=>cases e;exact⟨.tuple_str _ _ g J,.tuple_str _ _ g J,.tuple_str _ _ g J⟩
  | tup xs p=>exact absurd rfl (L _ _ rfl)
  | lst p=>cases e;exact⟨.tuple_list g p J,.of_refs (λz=>by subst z;exact D7 g p)<|.tuple_list g p J,.tuple_list g p J⟩
 | lst g=>cases d' with
  | non=>cases e;exact⟨.list_none g J,.list_none g J,.list_none g J⟩
  | bl b=>cases e;exact⟨.list_bool _ g J,.list_bool _ g J,.list_bool _ g J⟩
  | int i t=>cases e;exact⟨.list_int _ _ g J,.list_int _ _ g J,.list_int _ _ g J⟩
  | str x t=>cases e;exact⟨.list_str _ _ g J,.list_str _ _ g J,.list_str _ _ g J⟩
  | tup xs p=>cases e;exact⟨.list_tuple g p J,.of_refs (λz=>by subst z;exact D7 p g)<|.list_tuple g p J,.list_tuple g p J⟩
  | lst p=>cases e
def yO{a:A}{x:V}(h:AV X.K ρ H a x)(e:OM S a=some (.tup xs)):a=.tup xs/\∃p vs,x=.ref p/\H p=some (.tup vs)/\AVs X.K ρ H xs vs:=by
 cases h with
 | tup h r=>cases e;exact⟨rfl,_,_,rfl,h,r⟩
 | ref h=>obtain⟨_,_,z⟩:=aV.mp e;cases z
 | _=>cases e
def yP{i:Nat}{x:V}(h:AV X.K ρ H (.ref i) x):∃p,x=.ref p/\ρ[i]?=some p:=by
 cases h with
 | ref h=>exact⟨_,rfl,h⟩
def IA{a:A}(e:OM S a=some .lst):∃i,a=.ref i:=by
 cases a with
 | ref i=>exact⟨i,rfl⟩
 | _=>cases e
def Jg{n:Nat}{a:A}{k:Bool}(e:yy S (n+1) a b=some k):(∃i j xs ys,a=.ref i/\b=.ref j/\gQ S i=some xs/\gQ S j=some ys/\wc (yy S n) xs ys=some k)\/(∃h h',OM S a=some h/\OM S b=some h'/\Nd (yy S n) h h'=some k/\(h=.lst->h'≠.lst)):=by
 unfold yy at e;split at e
 ·obtain⟨xs,e1,e⟩:=bS.mp e;obtain⟨ys,e2,e⟩:=bS.mp e;exact .inl ⟨_,_,xs,ys,rfl,rfl,e1,e2,e⟩
 ·rename_i d;obtain⟨h,e1,e⟩:=bS.mp e;obtain⟨h',e2,e⟩:=bS.mp e;refine .inr ⟨h,h',e1,e2,e,λg f=>?_⟩;subst g f;obtain⟨i,rfl⟩:=IA e1;obtain⟨j,rfl⟩:=IA e2;exact d i j rfl rfl
def Mc{f:A->A->bi}{k:Bool}(d:KdV s h u)(d':KdV s h' u)(j:∀xs ys,h=.tup xs->h'≠.tup ys)(e:Nd f h h'=some k):k=true:=by
 cases d with
 | non=>cases d';exact(aR e).symm
 | bl b=>cases d';exact(aR e).symm.trans (cB b)
 | int b=>cases d';exact(aR e).symm.trans (cB b)
 | str b=>cases d';exact(aR e).symm.trans (cB b)
 | tup xs p=>cases d' with
  | tup=>exact absurd rfl (j _ _ rfl)
  | lst q=>exact(D7 p q).elim
 | lst p=>cases d' with
  | tup _ q=>exact(D7 q p).elim
  | lst q=>cases e
def Bb{f:A->A->bi}(hf:∀a b x u k,AV X.K ρ H a x->AV X.K ρ H b x->RelV x u->f a b=some k->k=true):∀{xs ys:ae}{vs:List V}{us:ba}{k:Bool},AVs X.K ρ H xs vs->AVs X.K ρ H ys vs->Vals vs us->wc f xs ys=some k->k=true:=by
 intro xs ys vs us k h1 d q e
 induction q generalizing xs ys k with
 | nil=>cases h1;cases d;exact(aR e).symm
 | cons j _ g=>
  cases h1 with
  | cons h t=>cases d with
   | cons h' m=>
    obtain⟨p,e1,e⟩:=bS.mp e;obtain⟨q,e2,e3⟩:=aV.mp e;rw[<- e3,hf _ _ _ _ p h h' j e1,g t m e2];rfl
def E2(h h':Sh):(∃xs ys,h=.tup xs/\h'=.tup ys)\/(∀xs ys,h=.tup xs->h'≠.tup ys):=by
 cases h with
 | tup xs=>cases h' with
  | tup ys=>exact .inl ⟨xs,ys,rfl,rfl⟩
  | _=>exact .inr λ_ _ _ z=>nomatch z
 | _=>exact .inr λ_ _ z=>nomatch z
theorem zp(I:Inv X pins σ H s)(R:Rel X.K ρ H S):∀(n:Nat) (a b:A) (x:V) (u:aa) (k:Bool),AV X.K ρ H a x->AV X.K ρ H b x->RelV x u->yy S n a b=some k->k=true
 | 0,_,_,_,_,_,_,_,_,e=>nomatch e
 | n+1,a,b,x,u,k,ha,hb,ru,e=>by
  rcases Jg e with⟨i,j,xs,ys,rfl,rfl,e1,e2,e⟩|⟨h,h',e1,e2,e,_⟩
  ·obtain⟨p,rfl,h1⟩:=yP ha;obtain⟨q,z,g⟩:=yP hb
   cases z
   obtain⟨vs,d,r1⟩:=R.lst h1<|ig e1;obtain⟨ws,f,r2⟩:=R.lst g<|ig e2;rw[d]at f
   cases f
   obtain⟨us,q,_⟩:=I.list<|mE.of d;exact Bb (λa b x u k=>zp I R n a b x u k) r1 r2 q e
  ·rcases E2 h h' with⟨xs,ys,rfl,rfl⟩|m
   ·obtain⟨rfl,p,vs,rfl,d,r1⟩:=yO ha e1;obtain⟨rfl,q,ws,z,f,r2⟩:=yO hb e2
    cases z
    have:=I.uF (kZ.of d)<|kZ.of f;subst this;obtain⟨us,q,_⟩:=I.tuple<|kZ.of d;exact Bb (λa b x u k=>zp I R n a b x u k) r1 r2 q e
   ·exact Mc (EE I R ha ru e1) (EE I R hb ru e2) m e
abbrev xX (f:A->A->bi)(xs ys:ae)(j:Nat):Bool:=match xs[j]?,ys[j]? with
 | some x,some y=>(f x y).getD true
 | _,_=>true
theorem vO{f:A->A->bi}:∀{xs ys:ae}{k:Bool},wc f xs ys=some k->k=((List.range<|min xs.length ys.length).all (xX f xs ys) && xs.length == ys.length)/\∀j x y,xs[j]?=some x->ys[j]?=some y->f x y=some (xX f xs ys j)
 | [],[],k,e=>⟨(aR e).symm,λj x y h=>by simp at h⟩
 | [],_::_,k,e=>⟨(aR e).symm,λj x y h=>by simp at h⟩
 | _::_,[],k,e=>⟨(aR e).symm,λj x y _ h=>by simp at h⟩
 | x::xs,y::ys,k,e=>by
  unfold wc at e
  cases e1:f x y with
  | none=>rw[e1]at e;cases e
  | some p=>
   rw[e1]at e;obtain⟨q,e2,e3⟩:=aV.mp e;obtain⟨h1,B⟩:=vO e2;have m:xX f (x::xs) (y::ys) 0=p:=by simp[xX,e1]
   have ps:∀j,xX f (x::xs) (y::ys) (j+1)=xX f xs ys j:=λj=>by simp[xX]
   refine⟨?_,λj a b g d=>?_⟩
   ·rw[<- e3,h1,bq,bq,Nat.succ_min_succ,List.range_succ_eq_map,all_cons,List.all_map,m];have:(xX f (x::xs) (y::ys) ∘ Nat.succ)=xX f xs ys:=funext ps;rw[this,Bool.and_assoc];simp
   ·cases j with
    | zero=>
     simp at g d;subst g d;rw[m];exact e1
    | succ j=>rw[ps];exact B j a b (by simpa using g)<|by simpa using d
def vP{f:A->A->bi}(hf:∀a b x y u v k,AV X.K ρ H a x->AV X.K ρ H b y->RelV x u->RelV y v->f a b=some k->SeqAt.EqAt B s u v k){us ts:ba}{k:Bool}
  (r1:AVs X.K ρ H xs vs) (r2:AVs X.K ρ H ys ws) (U:Vals vs us) (Z:Vals ws ts) (e:wc f xs ys=some k):∀j (h1:j<us.toArray.size) (h2:j<ts.toArray.size),SeqAt.EqAt B s us.toArray[j] ts.toArray[j] (xX f xs ys j):=by
 intro j h1 h2;have N:=r1.length;have T:=r2.length;have O:=U.length;have P:=Z.length;have J:j<xs.length:=by simp at h1;lia
 have hy:j<ys.length:=by simp at h2;lia
 have e1:xs[j]?=some xs[j]:=aN J;have e2:ys[j]?=some ys[j]:=aN hy;obtain⟨x,ex,G⟩:=r1.get e1;obtain⟨y,m,C⟩:=r2.get e2;obtain⟨u,d,p⟩:=U.get ex;obtain⟨t,L,rt⟩:=Z.get m;have F:us.toArray[j]=u:=by
  have:us[j]?=some us.toArray[j]:=by simp at h1;simp[h1]
  rw[d]at this;exact(aR this).symm
 have g:ts.toArray[j]=t:=by
  have:ts[j]?=some ts.toArray[j]:=by simp at h2;simp[h2]
  rw[L]at this;exact(aR this).symm
 rw[F,g];exact hf _ _ x y u t _ G C p rt<|(vO e).2 j _ _ e1 e2
def in1_units(B:aA):B.in1.units=B.units+1:=rfl
theorem Eh(I:Inv X pins σ H s)(R:Rel X.K ρ H S):∀(n:Nat) (B:aA) (a b:A) (x y:V) (u v:aa) (k:Bool),B.units+n<cLine->AV X.K ρ H a x->AV X.K ρ H b y->RelV x u->RelV y v->yy S n a b=some k->Al B s u v k
 | 0,_,_,_,_,_,_,_,_,_,_,_,_,_,e=>nomatch e
 | n+1,B,a,b,x,y,u,v,k,hu,ha,hb,rx,ry,e=>by
  have f:B.units<cLine:=()
  have d:∀a b x y u v k,AV X.K ρ H a x->AV X.K ρ H b y->RelV x u->RelV y v->yy S n a b=some k->SeqAt.EqAt B.in1 s u v k:=λa b x y u v k h1 T N L h5=>(Eh I R n B.in1 a b x y u v k (by rw[in1_units];lia) h1 T N L h5).2.1;have same:=λ(z:y=x)=>zp I R (n+1) a b x u k ha (z ▸ hb) rx e;have m:∀{p q:aj},x=.ref p->y=.ref q->u=.ref p->v=.ref q->SeqAt.RcAt B s u v k->SeqAt.EqAt B s u v k:=λ{p q} g C z3 z4 h=>by
   subst z3 z4;by_cases hp:p=q
   ·subst hp;rw[same<|C.trans g.symm];exact .same _
   ·exact .of_refs hp h
  rcases Jg e with⟨i,j,xs,ys,rfl,rfl,e1,e2,e⟩|⟨h,h',e1,e2,e,_⟩
  ·obtain⟨p,rfl,h1⟩:=yP ha;obtain⟨q,rfl,T⟩:=yP hb;obtain⟨vs,N,r1⟩:=R.lst h1<|ig e1;obtain⟨ws,L,r2⟩:=R.lst T<|ig e2;obtain⟨us,G,p1,_⟩:=I.list<|mE.of N;obtain⟨ts,F,p2,_⟩:=I.list<|mE.of L;have P:=m rfl rfl rx ry
   cases(show u=Value.ref p from rx)
   cases(show v=Value.ref q from ry)
   have Y:=r1.length;have l2:=r2.length;have Z:=G.length;have l4:=F.length;have J:=(vO e).1;by_cases U:xs.length=ys.length
   ·rw[<- U,Nat.min_self,cB,Bool.and_true]at J;have O:us.toArray.size=ts.toArray.size:=by simp;lia
    have g:=SeqAt.RcAt.lists p1.isList p2.isList O f<|vP d r1 r2 G F e;have C:=SeqAt.RcNeAt.lists p1.isList p2.isList O f<|vP d r1 r2 G F e;rw[aP,<- Z,<- Y,<- J]at g C;exact⟨g,P g,C⟩
   ·have:(xs.length == ys.length)=false:=by simpa using U
    rw[this,gH]at J;subst J;have O:(us.toArray.size != ts.toArray.size)=true:=by simp;lia
    have g:=SeqAt.RcAt.lists_lengths p1.isList p2.isList O f;exact⟨g,P g,SeqAt.RcNeAt.lists_lengths p1.isList p2.isList O f⟩
  ·rcases E2 h h' with⟨xs,ys,rfl,rfl⟩|nt
   ·obtain⟨rfl,p,vs,rfl,N,r1⟩:=yO ha e1;obtain⟨rfl,q,ws,rfl,L,r2⟩:=yO hb e2;have P:=m rfl rfl rx ry
    cases(show u=Value.ref p from rx)
    cases(show v=Value.ref q from ry)
    obtain⟨us,G,p1,_⟩:=I.tuple<|kZ.of N;obtain⟨ts,F,p2,_⟩:=I.tuple<|kZ.of L;have J:=(vO e).1;have g:=SeqAt.RcAt.tuples p1 p2 f<|vP d r1 r2 G F e;have C:=SeqAt.RcNeAt.tuples p1 p2 f<|vP d r1 r2 G F e;rw[aP,aP,<- G.length,<- F.length,<- r1.length,<- r2.length,<- J]at g C;exact⟨g,P g,C⟩
   ·exact SY f (EE I R ha rx e1) (EE I R hb ry e2) nt e
end
section
variable {X:Cx}
abbrev l7 (j:Bool)(a b:A)(S:gS):R A:=opt (yy S 12 a b) λk=>.ok (.bl<|if j then !k else k) S
def sJ(j:X.A.units+64<cLine):kC X (compareOp .Eq) (r2 X<|l7 false):=λpins s σ H x y v u Q I rx ry h9=>by
 w_up;obtain⟨k,e,h⟩:=gZ h;exact(Eh I R 12 X.A a b x y v u k (by omega) va vb rx ry e).1 _ _ _ _ ⟨.bl _,H,I,rfl,h _ _ _ .refl R<|.bl _⟩
def B4(j:X.A.units+64<cLine):kC X (compareOp .NotEq) (r2 X<|l7 true):=λpins s σ H x y v u Q I rx ry h9=>by
 w_up;obtain⟨k,e,h⟩:=gZ h;exact(Eh I R 12 X.A a b x y v u k (by omega) va vb rx ry e).2.2 _ _ _ _ ⟨.bl _,H,I,rfl,h _ _ _ .refl R<|.bl _⟩
end
section
variable {X:Cx}{pos:Pos}{a b:aF}
meta abbrev Pt:=ae->gS->R (be)
abbrev kW:Pt:=λ_ S=>.ok none S
abbrev kL (c:Ex):Pt:=λτ S=>(c τ S).bind λa S1=>match a with
 | .int i=>.ok (some i) S1
 | _=>.no
abbrev tO (X:Cx)(c:Pt):TO:=λσ H Q=>∃ρ S τ,Rel X.K ρ H S/\SR X.K ρ H τ σ/\(c τ S).post (λo d=>∀ρ' H',Ext ρ ρ' H H'->Rel X.K ρ' H' d->Q o H') (XE X ρ H)
abbrev AO (X:Cx)(e:Option aF)(c:Pt):Prop:=PO X e<|tO X c
def nK:AO X none kW:=λpins s σ H Q I ⟨ρ,S,τ,R,r,h⟩=>MR pins s σ H Q I<|h ρ H .refl R
def nL{c:Ex}(j:AE X a c):AO X (some a) (kL c):=λpins s σ H Q I ⟨ρ,S,τ,R,r,h⟩=>My j pins s σ H Q I ⟨ρ,S,τ,R,r,gP (gU h) .refl λx S1 h1 ρ1 H1 v e1 R1 v1=>by
 cases v1<;>first|exact h1.elim|exact⟨_,rfl,h1 ρ1 H1 e1 R1⟩⟩
abbrev nH (xs:ae)(lo hi:be):ae:=(xs.drop<|HT.kK xs.length 0 lo).take<|HT.kK xs.length xs.length hi-HT.kK xs.length 0 lo
def AVs.cut{K:az}{H:Hp}(r:AVs K ρ H xs vs)(lo hi:be):AVs K ρ H (nH xs lo hi) (By vs lo hi):=by
 unfold nH By;rw[r.length];exact(r.drop _).take _
abbrev RI (a:A)(lo hi:be)(S:gS):R A:=match a with
 | .ref n=>opt (gQ S n) λxs=>.ok (.ref S.length) (S++[.lst<|nH xs lo hi])
 | .frz xs=>.ok (.ref S.length) (S++[.lst<|nH xs lo hi])
 | .tup xs=>gd (¬(HT.kK xs.length 0 lo=0/\HT.kK xs.length xs.length hi=xs.length)) (.ok (.tup<|nH xs lo hi) S)
 | _=>.no
abbrev zl (c:Ex)(lo hi:Pt):Ex:=λτ S=>(c τ S).bind λa S1=>(lo τ S1).bind λl d=>(hi τ d).bind λu f=>RI a l u f
abbrev rS (X:Cx):V->be->be->Hp->VK->Prop:=λx lo hi H Q=>∃ρ S a,Rel X.K ρ H S/\AV X.K ρ H a x/\(RI a lo hi S).post (sF X ρ H Q) (XE X ρ H)
def QS:TQ X (rS X):=λpins s σ H x v d f lo hi g Q I rx hs pl j h9=>by
 obtain⟨ρ,S,a,R,va,h⟩:=h9
 cases va with
 | @tup p xs vs h1 r1=>
  obtain⟨hc,h⟩:=iy h;exact Qp pins s σ H _ v d f lo hi g Q I rx hs pl j ⟨p,vs,rfl,(kZ.of h1),by rw[<- r1.length];exact hc,pK R (r1.cut lo hi) .refl h⟩
 | @frz p xs vs h1 r1=>exact Em pins s σ H _ v d f lo hi g Q I rx hs pl j ⟨p,vs,rfl,h1.LB,kj R (r1.cut lo hi) .refl h⟩
 | @ref p n hp=>
  gn_on;obtain⟨vs,h1,r1⟩:=R.lst hp<|ig hn;exact Em pins s σ H _ v d f lo hi g Q I rx hs pl j ⟨p,vs,rfl,mE.of h1,kj R (r1.cut lo hi) .refl h⟩
 | _=>exact h.elim
def u9{lo:Option aF}{c:Ex}{cl ch:Pt}(J:AE X e c)(L:AO X lo cl)(hh:AO X hi ch):AE X (.Subscript e (.Slice lo hi none p2) pos) (zl c cl ch):=PE.imp (Jj QS J L hh) λσ H Q h9=>by
 room;refine⟨ρ,S,τ,R,r,gP (gU h) .refl λa S1 h1 ρ1 H1 x e1 R1 v1=>⟨ρ1,S1,τ,R1,r.ext e1,gP (gU h1) e1 λl j k d H2 e2 R2=>⟨d,j,τ,R2,r.ext<|e1.trans e2,gP (gU k) (e1.trans e2) λu m p f H3 e3 g=>?_⟩⟩⟩;exact⟨f,m,a,g,v1.ext<|e2.trans e3,gP p (e1.trans<|e2.trans e3) λ_ _ z=>z.ext<|e1.trans<|e2.trans e3⟩
abbrev JF (a:A)(S:gS):R A:=match a with
 | .ref n=>opt (gQ S n) λxs=>.ok (.ref S.length) (S++[.lst xs.reverse])
 | .tup xs=>.ok (.tup xs.reverse) S
 | _=>.no
def QX{J cp:Pos}{c:Ex}(j:AE X e c):AE X (.Subscript e (.Slice none none (some<|.UnaryOp .USub (.Constant (.int 1) kk cp) J) p2) pos) (GJ JF c):=λpins s σ H Q I h9=>by
 room;have d:=gU h
 cases hc:c τ S with
 | no=>rw[hc]at d;exact d.elim
 | ex x S1=>
  rw[hc]at d;exact Ep j pins s σ H Q I ⟨ρ,S,τ,R,r,by rw[hc];exact d⟩
 | ok a S1=>
  rw[hc]at d;have d:(JF a S1).post (sF X ρ H Q) (XE X ρ H):=d
  cases a with
  | tup xs=>
   refine Ep j pins s σ H Q I ⟨ρ,S,τ,R,r,?_⟩;rw[hc];intro ρ1 H1 x e1 R1 v1
   cases v1 with
   | tup h1 r1=>exact⟨_,_,rfl,(kZ.of h1),pK R1 r1.reverse e1 d⟩
  | ref n=>
   refine Mw j pins s σ H Q I ⟨ρ,S,τ,R,r,?_⟩;rw[hc];intro ρ1 H1 x e1 R1 v1;obtain⟨xs,hn,h⟩:=gZ d
   cases v1 with
   | ref hp=>
    obtain⟨vs,h1,r1⟩:=R1.lst hp<|ig hn;exact⟨_,_,rfl,mE.of h1,kj R1 r1.reverse e1 h⟩
  | _=>exact d.elim
abbrev iA (f:ae->gS->R A)(d:mK):Ex:=λτ S=>(d τ S).bind λg S1=>f g S1
def Br{f:ae->gS->R A}{d:mK}{H:Hp}{Q:VK}(h:tE X (iA f d) σ H Q):Ut (rN X f) (tL X d) σ H Q:=by
 gp_on;exact⟨ρ,S,τ,R,r,gP (gU h) .refl λg S1 h1 ρ1 H1 vs e1 R1 v1=>⟨ρ1,S1,g,R1,v1,gP h1 e1 λ_ _ z=>z.ext e1⟩⟩
variable {x:Str}{p:Pos}{e:aF}{es:List aF}{id T:String}{f:ae->gS->R A}{d:mK}
def iE(hc:iQ X (.builtin id)<|rN X f)(L:X.mg x=none)(hv:bootBuiltins x=some (.builtin id))(U:AL X (e::es) d)(hg:Gl X x<|>ε)(hn:x ≠ "__name__"<|>δ)(j:(x == ("__debug__" : Str))=false<|>δ)
  (Z:starEach (e::es) X.env=(false,eval e X.env)::starEach es X.env<|>ε) (J:((backTo pos<|starEach es X.env).any (·.1)=false)<|>ε):AE X (.Call (.Name x p) (e::es) [] pos) (iA f d):=
 PE.imp (AR hc hg L hv U hn j Z J) λ_ _ _ h=>Br h
def i_(hc:iQ X (.type T)<|rN X f)(L:X.mg x=none)(hv:bootBuiltins x=some (.type T))(U:AL X (e::es) d)(hg:Gl X x<|>ε)(hn:x ≠ "__name__"<|>δ)(j:(x == ("__debug__" : Str))=false<|>δ)
  (Z:starEach (e::es) X.env=(false,eval e X.env)::starEach es X.env<|>ε) (J:((backTo pos<|starEach es X.env).any (·.1)=false)<|>ε):AE X (.Call (.Name x p) (e::es) [] pos) (iA f d):=
 PE.imp (Gn hc hg L hv U hn j Z J) λ_ _ _ h=>Br h
def EY(J:X.mg x=none)(hv:bootBuiltins x=some (.type T))(hg:Gl X x<|>ε)(hn:x ≠ "__name__"<|>δ)(j:(x == ("__debug__" : Str))=false<|>δ):AE X (.Name x pos) (eC<|.ty T):=
 PE.imp (E8 (v:=.ty T) hg J hv rfl hn j) λσ H Q ⟨ρ,S,τ,R,r,h⟩=>h ρ H _ .refl R<|.ty T
abbrev A.seq (S:gS):A->Option (ae)
 | .tup xs=>some xs
 | .frz xs=>some xs
 | .ktu xs=>some xs
 | .ref n=>gQ S n
 | _=>none
def Ks{K:az}{H:Hp}{x:A}{v:V}(R:Rel K ρ H S)(h:AV K ρ H x v)(e:x.seq S=some xs):∃p vs,v=.ref p/\(mE K H p vs\/kZ K H p vs)/\AVs K ρ H xs vs:=by
 cases h with
 | tup h r=>cases aR e;exact⟨_,_,rfl,.inr<|kZ.of h,r⟩
 | frz h r=>cases aR e;exact⟨_,_,rfl,.inl h.LB,r⟩
 | ktu h r=>cases aR e;exact⟨_,_,rfl,.inr<|.inr h,r⟩
 | ref h=>
  obtain⟨vs,h1,r1⟩:=R.lst h<|ig e;exact⟨_,vs,rfl,.inl<|mE.of h1,r1⟩
 | _=>cases e
def AX{K:az}{H:Hp}{x:A}(h:AVs K ρ H [x] vs):∃v,vs=[v]/\AV K ρ H x v:=by
 cases h with
 | cons h t=>cases t;exact⟨_,rfl,h⟩
def T7{K:az}{H:Hp}{x:A}(h:AVs K ρ H [x,y] vs):∃v w,vs=[v,w]/\AV K ρ H x v/\AV K ρ H y w:=by
 cases h with
 | cons h t=>obtain⟨w,rfl,h'⟩:=AX t;exact⟨_,_,rfl,h,h'⟩
abbrev f1 (g:A->gS->R A):ae->gS->R A:=λd S=>match d with
 | [x]=>g x S
 | _=>.no
abbrev f2 (g:A->A->gS->R A):ae->gS->R A:=λd S=>match d with
 | [x,y]=>g x y S
 | _=>.no
def MO{g:A->gS->R A}{P:A->gS->Prop}{E:Str->gS->Prop}(h:(f1 g as S).post P E):∃x,as=[x]/\(g x S).post P E:=by
 match as,h with
 | [],h=>exact h.elim
 | [x],h=>exact⟨x,rfl,h⟩
 | _::_::_,h=>exact h.elim
def MV{g:A->A->gS->R A}{P:A->gS->Prop}{E:Str->gS->Prop}(h:(f2 g as S).post P E):∃x y,as=[x,y]/\(g x y S).post P E:=by
 match as,h with
 | [],h=>exact h.elim
 | [_],h=>exact h.elim
 | [x,y],h=>exact⟨x,y,rfl,h⟩
 | _::_::_::_,h=>exact h.elim
def Hw{g:A->gS->R A}{H:Hp}{Q:VK}(h:rN X (f1 g) vs H Q):∃v,vs=[v]/\∃ρ S x,Rel X.K ρ H S/\AV X.K ρ H x v/\(g x S).post (sF X ρ H Q) (XE X ρ H):=by
 obtain⟨ρ,S,d,R,v,h⟩:=h;obtain⟨x,rfl,h⟩:=MO h;obtain⟨w,rfl,hv⟩:=AX v;exact⟨w,rfl,ρ,S,x,R,hv,h⟩
def Vz{g:A->A->gS->R A}{H:Hp}{Q:VK}(h:rN X (f2 g) vs H Q):∃v w,vs=[v,w]/\∃ρ S x y,Rel X.K ρ H S/\AV X.K ρ H x v/\AV X.K ρ H y w/\(g x y S).post (sF X ρ H Q) (XE X ρ H):=by
 obtain⟨ρ,S,j,R,v,h⟩:=h;obtain⟨x,y,rfl,h⟩:=MV h;obtain⟨w,f,rfl,hv,d⟩:=T7 v;exact⟨w,f,rfl,ρ,S,x,y,R,hv,d,h⟩
abbrev lu (x:A)(S:gS):R A:=match x with
 | .str x=>gd (x.length<=sizeLine) (.ok (.int x.length) S)
 | .tup xs=>.ok (.int xs.length) S
 | .frz xs=>.ok (.int xs.length) S
 | .ref n=>opt (gQ S n) λxs=>.ok (.int xs.length) S
 | _=>.no
def mS:iQ X (.builtin "len") (rN X<|f1 lu):=iQ.imp J9 λvs H Q h0=>by
 k_ne;clear h0
 cases hv with
 | str z=>
  obtain⟨d,h⟩:=iy h;exact⟨_,_,rfl,⟨d,rfl⟩,h _ _ _ .refl R<|.int _⟩
 | @tup p xs us h1 r=>exact⟨_,us.length,rfl,.inr ⟨us,(kZ.of h1),rfl⟩,by rw[<- r.length];exact h _ _ _ .refl R<|.int _⟩
 | @frz p xs us h1 r=>exact⟨_,us.length,rfl,.inl ⟨us,h1.LB,rfl⟩,by rw[<- r.length];exact h _ _ _ .refl R<|.int _⟩
 | ref hp=>
  gn_on;obtain⟨us,h1,r⟩:=R.lst hp<|ig hn;exact⟨_,us.length,rfl,.inl ⟨us,mE.of h1,rfl⟩,by rw[<- r.length];exact h _ _ _ .refl R<|.int _⟩
 | _=>exact h.elim
abbrev P_ (x:A)(S:gS):R A:=match x with
 | .int i=>.ok (.int<|if i<0 then -i else i) S
 | _=>.no
def Sw:iQ X (.builtin "abs") (rN X<|f1 P_):=iQ.imp Lm λvs H Q h0=>by
 k_ne;clear h0
 cases hv<;>first|exact h.elim|exact⟨_,rfl,h _ _ _ .refl R<|.int _⟩
abbrev RH (x y:A)(S:gS):R A:=match x,y with
 | .int i,.int j=>.ok (.int<|if j>i then j else i) S
 | _,_=>.no
abbrev Th (x y:A)(S:gS):R A:=match x,y with
 | .int i,.int j=>.ok (.int<|if j<i then j else i) S
 | _,_=>.no
abbrev wQ (x:A)(S:gS):R A:=match x with
 | .int i=>.ok (.int i) S
 | .bl k=>.ok (.int<|if k then 1 else 0) S
 | .str y=>opt (PySem.intText? y) λn=>gd (y.length<=640) (.ok (.int n) S)
 | _=>.no
def G4:iQ X (.type "int") (rN X<|f1 wQ):=λpins s σ H xs us Q I d h0=>by
 k_ne;clear h0
 cases hv with
 | int i=>exact x_ pins s σ H _ us Q I d (.inl ⟨i,rfl,h _ _ _ .refl R<|.int _⟩)
 | bl k=>exact x_ pins s σ H _ us Q I d (.inr ⟨k,rfl,h _ _ _ .refl R<|.int _⟩)
 | str y=>
  obtain⟨n,hn,h⟩:=gZ h;obtain⟨f,h⟩:=iy h;exact FT pins s σ H _ us Q I d ⟨y,n,rfl,f,hn,h _ _ _ .refl R<|.int _⟩
 | _=>exact h.elim
abbrev sQ (x y:A)(S:gS):R A:=match x,y with
 | .int i,.int j=>.ok (.rng i j) S
 | _,_=>.no
def wH:iQ X (.type "range") (rN X<|f2 sQ):=iQ.imp zv λvs H Q h0=>by
 obtain⟨w,g,rfl,ρ,S,x,y,R,hv,d,h⟩:=Vz h0;clear h0
 cases hv with
 | int i=>
  cases d with
  | int j=>
   refine⟨i,j,rfl,λp hp=>?_⟩;obtain⟨ex,f⟩:=R.im (u:=.rng i j) hp;exact h ρ _ _ ex f<|.rng iF
  | _=>exact h.elim
 | _=>exact h.elim
abbrev yq (i j:Int):Prop:=(-(2 ^ 62)<=i/\i<2 ^ 62/\-(2 ^ 62)<=j/\j<2 ^ 62)/\(j-i).toNat<=1000
instance (i j:Int):Decidable (yq i j):=by unfold yq;infer_instance
abbrev tD (x:A)(S:gS):R A:=match x with
 | .rng i j=>gd (yq i j) (.ok (.ref S.length)<|S++[.lst<|(jj i j).map .int])
 | .tup xs=>.ok (.ref S.length) (S++[.lst xs])
 | .frz xs=>.ok (.ref S.length) (S++[.lst xs])
 | .ref n=>opt (gQ S n) λxs=>.ok (.ref S.length) (S++[.lst xs])
 | _=>.no
def yZ(hc:X.calm=true):iQ X (.type "list") (rN X<|f1 tD):=λpins s σ H vs us Q I rx h0=>by
 k_ne;clear h0
 cases hv with
 | @rng p i j hp=>
  obtain⟨d,h⟩:=iy h;exact xN hc pins s σ H _ us Q I rx ⟨p,i,j,rfl,hp,d.1,d.2,kj R (qO _) .refl h⟩
 | @tup p xs vs h1 r=>exact pJ pins s σ H _ us Q I rx ⟨p,vs,rfl,.inr<|kZ.of h1,kj R r .refl h⟩
 | @frz p xs vs h1 r=>exact pJ pins s σ H _ us Q I rx ⟨p,vs,rfl,.inl h1.LB,kj R r .refl h⟩
 | @ref p n hp=>
  gn_on;obtain⟨vs,h1,r⟩:=R.lst hp<|ig hn;exact pJ pins s σ H _ us Q I rx ⟨p,vs,rfl,.inl<|mE.of h1,kj R r .refl h⟩
 | _=>exact h.elim
abbrev n9 (x:A)(S:gS):R A:=match x with
 | .rng i j=>gd (yq i j) (.ok (.tup<|(jj i j).map .int) S)
 | .tup xs=>.ok (.tup xs) S
 | .frz xs=>.ok (.tup xs) S
 | .ref n=>opt (gQ S n) λxs=>.ok (.tup xs) S
 | _=>.no
def tB(hc:X.calm=true):iQ X (.type "tuple") (rN X<|f1 n9):=λpins s σ H vs us Q I rx h0=>by
 k_ne;clear h0
 cases hv with
 | @rng p i j hp=>
  obtain⟨d,h⟩:=iy h;exact wI hc pins s σ H _ us Q I rx ⟨p,i,j,rfl,hp,d.1,d.2,pK R (qO _) .refl h⟩
 | @tup p xs vs h1 r=>exact oi pins s σ H _ us Q I rx ⟨p,vs,rfl,.inr ⟨(kZ.of h1),h _ _ _ .refl R<|.tup h1 r⟩⟩
 | @frz p xs vs h1 r=>exact oi pins s σ H _ us Q I rx ⟨p,vs,rfl,.inl ⟨h1.LB,pK R r .refl h⟩⟩
 | @ref p n hp=>
  gn_on;obtain⟨vs,h1,r⟩:=R.lst hp<|ig hn;exact oi pins s σ H _ us Q I rx ⟨p,vs,rfl,.inl ⟨mE.of h1,pK R r .refl h⟩⟩
 | _=>exact h.elim
abbrev A.BN:ae->Option (List Bool)
 | []=>some []
 | .bl b::xs=>(A.BN xs).map (b::·)
 | _=>none
theorem B8{K:az}{H:Hp}:∀{xs:ae}{vs:List V}{bs:List Bool},AVs K ρ H xs vs->A.BN xs=some bs->vs=bs.map V.bl
 | _,_,_,.nil,e=>by cases e;rfl
 | x::xs,_,bs,.cons h t,e=>by
  cases x with
  | bl b=>
   obtain⟨cs,e1,rfl⟩:=aV.mp (show(A.BN xs).map (b::·)=some bs from e)
   cases h
   rw[B8 t e1];rfl
  | _=>cases e
abbrev tZ (x:A)(S:gS):R A:=match x with
 | .ref n=>opt (gQ S n) λxs=>opt (A.BN xs) λbs=>.ok (.bl<|bs.all λb=>b) S
 | _=>.no
def ym(hc:X.calm=true):iQ X (.builtin "all") (rN X<|f1 tZ):=iQ.imp (Gu hc) λvs H Q h0=>by
 k_ne;clear h0
 cases hv with
 | @ref p n hp=>
  gn_on;obtain⟨bs,d,h⟩:=gZ h;obtain⟨vs,h1,r⟩:=R.lst hp<|ig hn;rw[B8 r d]at h1;exact⟨p,bs,rfl,mE.of h1,h _ _ _ .refl R<|.bl _⟩
 | _=>exact h.elim
abbrev BQ (x:A)(S:gS):R A:=match x with
 | .ref n=>opt (gQ S n) λxs=>opt (A.BN xs) λbs=>.ok (.bl<|bs.any λb=>b) S
 | _=>.no
abbrev insI (x:Int):ag->ag
 | []=>[x]
 | y::ys=>if x<=y then x::y::ys else y::insI x ys
abbrev sortI:ag->ag
 | []=>[]
 | x::xs=>insI x<|sortI xs
theorem insI_perm(x:Int):∀ys:ag,(insI x ys).Perm (x::ys)
 | []=>fD _
 | y::ys=>by
  unfold insI;by_cases h:x<=y
  ·rw[aT h]
  ·rw[aQ h];exact((insI_perm x ys).cons y).trans (List.Perm.swap x y ys)
theorem sortI_perm:∀xs:ag,(sortI xs).Perm xs
 | []=>fD _
 | x::xs=>(insI_perm x<|sortI xs).trans<|(sortI_perm xs).cons x
theorem Fc(x:Int):∀ys:ag,ys.Pairwise (·<=·)->(insI x ys).Pairwise (·<=·)
 | [],_=>List.pairwise_singleton _ _
 | y::ys,h=>by
  unfold insI;obtain⟨h1,g⟩:=gh.mp h;by_cases f:x<=y
  ·rw[aT f];exact gh.mpr ⟨λz d=>(bG.mp d).elim (λe=>e ▸ f) λd=>Int.le_trans f<|h1 z d,h⟩
  ·rw[aQ f];refine gh.mpr ⟨λz d=>?_,Fc x ys g⟩
   rcases bG.mp ((insI_perm x ys).mem_iff.mp d)with e|d
   ·subst e;lia
   ·exact h1 z d
theorem wj:∀xs:ag,(sortI xs).Pairwise (·<=·)
 | []=>List.Pairwise.nil
 | x::xs=>Fc x _<|wj xs
abbrev Cu (x:A)(S:gS):R A:=opt (x.seq S) λxs=>opt (A.ints xs) λns=>gd (ns.length<64)<|.ok (.ref S.length)<|S++[.lst<|(sortI ns).map .int]
def LS:iQ X (.builtin "sorted") (rN X<|f1 Cu):=iQ.imp y_ λvs H Q h0=>by
 k_ne;clear h0;gn_on;obtain⟨ns,j,h⟩:=gZ h;obtain⟨g,h⟩:=iy h;obtain⟨p,us,rfl,hs,r⟩:=Ks R hv hn;rw[Nm r j]at hs;refine⟨p,ns,rfl,hs,g,λl f d hp hw=>?_⟩;have:f=sortI ns:=Mr (hp.trans (sortI_perm ns).symm) hw<|wj ns;rw[this];exact kj R (qO _) .refl h l d
abbrev A.kd:A->gS->Option Kd
 | .non,_=>some .non
 | .bl _,_=>some .bl
 | .int _,_=>some .int
 | .str _,_=>some .str
 | .tup _,_=>some .tup
 | .ref n,S=>(gQ S n).map λ_=>.lst
 | _,_=>none
def M5{K:az}(k:Kd):PySem.W.kitOne K k.ty (.type "str")=some (decide<|k=.str):=by cases k<;>rfl
abbrev A_ (k:Kd)(c:String):bi:=if c = "int" then some (decide<|k=.int\/k=.bl)else if c = "bool" then some (decide<|k=.bl)else if c = "tuple" then some (decide<|k=.tup)else if c = "list" then some (decide<|k=.lst)else if c = "str" then some (decide<|k=.str)else none
def D0{K:az}{k:Kd}{c:String}{b:Bool}(h:A_ k c=some b):PySem.W.kitOne K k.ty (.type c)=some b:=by
 unfold A_ at h;split at h
 ·rename_i e;subst e;rw[<- h];exact LQ k
 ·split at h
  ·rename_i e;subst e;rw[<- h];exact GY k
  ·split at h
   ·rename_i e;subst e;rw[<- h];exact kit_tuple k
   ·split at h
    ·rename_i e;subst e;rw[<- h];exact J0 k
    ·split at h
     ·rename_i e;subst e;rw[<- h];exact M5 k
     ·cases h
abbrev FU (x y:A)(S:gS):R A:=match y with
 | .ty c=>opt (x.kd S) λk=>opt (A_ k c) λb=>.ok (.bl b) S
 | _=>.no
def Tc{K:az}{H:Hp}{x:A}{v:V}{k:Kd}(R:Rel K ρ H S)(h:AV K ρ H x v)(e:x.kd S=some k):(∃p vs,v=.ref p/\kZ K H p vs/\k=.tup)\/Py H v k:=by
 cases h with
 | non=>cases e;exact .inr rfl
 | bl b=>cases e;exact .inr ⟨b,rfl⟩
 | int i=>cases e;exact .inr ⟨i,rfl⟩
 | str i=>cases e;exact .inr ⟨i,rfl⟩
 | tup h r=>cases e;exact .inl ⟨_,_,rfl,(kZ.of h),rfl⟩
 | ref h=>
  obtain⟨xs,e1,e2⟩:=aV.mp e;obtain⟨vs,h1,_⟩:=R.lst h (ig e1)
  cases e2
  exact .inr ⟨_,vs,rfl,h1⟩
 | _=>cases e
def EC:iQ X (.builtin "isinstance") (rN X<|f2 FU):=λpins s σ H vs us Q I rx h0=>by
 obtain⟨w,J,rfl,ρ,S,x,y,R,hv,f,h⟩:=Vz h0;clear h0
 cases f with
 | ty c=>
  obtain⟨k,m,h⟩:=gZ h;obtain⟨b,g,d⟩:=gZ h;have d:sF X ρ H Q (.bl b) S:=d;clear h
  rcases Tc R hv m with⟨p,vs,rfl,B,rfl⟩|hd
  ·obtain⟨G,F,rfl,r1,r2⟩:=vals2 rx;obtain⟨C,q,⟨o,h1,j,_⟩,_⟩:=I.tuple B
   cases(show _=Value.ref p from r1)
   cases(show _=Value.type c from r2)
   exact b9 PySem.W.kitx_tuple I.rQ ⟨o,h1,j⟩ (D0 g) (λz=>nomatch z) λtk=>⟨.bl b,H,I.tok _,rfl,d _ _ _ .refl R<|.bl _⟩
  ·exact Aa (c:=c) pins s σ H _ us Q I rx ⟨w,_,b,rfl,hd.U9,D0 g,d _ _ _ .refl R<|.bl _⟩
 | _=>exact h.elim
end
abbrev RC (x:ag):List (ag)->List (ag)
 | []=>[x]
 | y::ys=>if HT.lexLt y x=true then y::RC x ys else x::y::ys
abbrev Lv:List (ag)->List (ag)
 | []=>[]
 | x::xs=>RC x<|Lv xs
abbrev RS.post (r:RS)(N:ae->gS->Prop)(T:A->gS->Prop)(B C:ae->gS->Prop)(E:Str->gS->Prop):Prop:=match r with
 | .nx τ S=>N τ S
 | .rt a S=>T a S
 | .bk τ S=>B τ S
 | .ct τ S=>C τ S
 | .ex c S=>E c S
 | .no=>False
abbrev RS.of {α:Type}(r:R α)(f:α->gS->RS):RS:=match r with
 | .ok a S=>f a S
 | .ex c S=>.ex c S
 | .no=>.no
def of_post{α:Type}{r:R α}{f:α->gS->RS}{N B C:ae->gS->Prop}{T:A->gS->Prop}{E:Str->gS->Prop}(h:(RS.of r f).post N T B C E):r.post (λa S=>(f a S).post N T B C E) E:=by
 cases r<;>exact h
def RS.mono{r:RS}{N B C N' j J:ae->gS->Prop}{T L:A->gS->Prop}{E U:Str->gS->Prop}(h:r.post N T B C E)(hn:∀τ S,N τ S->N' τ S)(Z:∀a S,T a S->L a S)(hb:∀τ S,B τ S->j τ S)(hc:∀τ S,C τ S->J τ S)(he:∀c S,E c S->U c S):r.post N' L j J U:=by
 cases r with
 | nx τ S=>exact hn _ _ h
 | rt a S=>exact Z _ _ h
 | bk τ S=>exact hb _ _ h
 | ct τ S=>exact hc _ _ h
 | ex c S=>exact he _ _ h
 | no=>exact h.elim
abbrev KR (X:Cx)(ρ:bb)(H:Hp)(N:L2.St->Hp->Prop):ae->gS->Prop:=λf g=>∀ρ' H' d,Ext ρ ρ' H H'->Rel X.K ρ' H' g->SR X.K ρ' H' f d->N d H'
def KR.ext{H H':Hp}{N:L2.St->Hp->Prop}(h:KR X ρ H N τ S)(e:Ext ρ ρ' H H'):KR X ρ' H' N τ S:=λd H2 σ2 e2=>h d H2 σ2<|e.trans e2
abbrev mj (X:Cx)(ρ:bb)(H:Hp)(D:Ends)(r:RS):Prop:=r.post (KR X ρ H D.nx) (sF X ρ H D.rt) (KR X ρ H D.bk) (KR X ρ H D.ct)<|XE X ρ H
def mj.ext{H H':Hp}{r:RS}(h:mj X ρ H D r)(e:Ext ρ ρ' H H'):mj X ρ' H' D r:=RS.mono h (λ_ _ z=>z.ext e) (λ_ _ z=>z.ext e) (λ_ _ z=>z.ext e) (λ_ _ z=>z.ext e) λ_ _ z=>z.ext e
abbrev tS (X:Cx)(c:Sm):TS:=λD σ H=>∃ρ S τ,Rel X.K ρ H S/\SR X.K ρ H τ σ/\mj X ρ H D (c τ S)
abbrev AS (X:Cx)(st:aG)(c:Sm):Prop:=PS X st<|tS X c
abbrev GF (X:Cx)(j:List aG)(c:Sm):Prop:=yD X j<|tS X c
abbrev tG (X:Cx)(g:Tg):TG:=λv σ H Q=>∃ρ S τ a,Rel X.K ρ H S/\SR X.K ρ H τ σ/\AV X.K ρ H a v/\(g a τ S).post (KR X ρ H Q) (XE X ρ H)
abbrev AG (X:Cx)(e:aF)(g:Tg):Prop:=PG X e<|tG X g
meta abbrev LJ:=ae->ae->gS->R (ae)
abbrev VV (X:Cx)(g:LJ):Nv:=λvs σ H Q=>∃ρ S τ d,Rel X.K ρ H S/\SR X.K ρ H τ σ/\AVs X.K ρ H d vs/\(g d τ S).post (KR X ρ H Q) (XE X ρ H)
abbrev TR (X:Cx)(es:List aF)(g:LJ):Prop:=Tw X es<|VV X g
section
variable {X:Cx}{pos:Pos}{a b e:aF}{st:aG}{rest:List aG}{c d:Sm}
def PS.imp{t t':TS}(h:PS X st t)(i:∀D σ H,t' D σ H->t D σ H):PS X st t':=λpins s σ H D I q=>h pins s σ H D I<|i D σ H q
def yD.imp{t t':TS}(h:yD X rest t)(i:∀D σ H,t' D σ H->t D σ H):yD X rest t':=λpins s σ H D I q=>h pins s σ H D I<|i D σ H q
def PG.imp{t t':TG}(h:PG X e t)(i:∀v σ H Q,t' v σ H Q->t v σ H Q):PG X e t':=λpins s σ H v u Q I r q=>h pins s σ H v u Q I r<|i _ _ _ _ q
abbrev jc (i:Nat):Tg:=λa τ S=>.ok (τ.set i a) S
def i9{i:Nat}{x:Str}(j:X.N.Nodup)(hi:X.N[i]?=some x<|>ε)(J:Loc X.env.scope x:=by first|exact Or.inl rfl|exact Or.inr rfl)(hf:X.fn x=true\/X.env.scope.names.lookup x=some .local<|>γ):AG X (.Name x pos) (jc i):=
 PG.imp (DA j hi J hf) λv σ H Q ⟨ρ,S,τ,a,R,r,va,h⟩=>h ρ H _ .refl R<|r.set va
abbrev LF:LJ:=λd τ S=>match d with
 | []=>.ok τ S
 | _=>.no
abbrev zV (g:Tg)(gs:LJ):LJ:=λf τ S=>match f with
 | a::f=>(g a τ S).bind λd S1=>gs f d S1
 | []=>.no
def s_:TR X [] LF:=λpins s σ H vs us Q I r ⟨ρ,S,τ,f,R,d,va,h⟩=>Mv pins s σ H vs us Q I r (by
 cases va with
 | nil=>exact⟨rfl,h ρ H σ .refl R d⟩
 | cons _ _=>exact h.elim)
def kh{g:Tg}{gs:LJ}(h1:AG X e g)(J:TR X es gs)(hs:(assignEach (e::es) X.env).map (·.2)=assign e X.env::(assignEach es X.env).map (·.2)<|>ε):TR X (e::es) (zV g gs):=
 λpins s σ H vs us Q I r ⟨ρ,S,τ,B,R,j,va,h⟩=>G9 h1 J hs pins s σ H vs us Q I r (by
  cases va with
  | nil=>exact h.elim
  | cons p k=>exact⟨_,_,rfl,ρ,S,τ,_,R,j,p,gP (gU h) .refl λf S1 h1 ρ1 H1 m e1 R1 d=>⟨ρ1,S1,f,_,R1,d,k.ext e1,gP h1 e1 λ_ _ z=>z.ext e1⟩⟩)
abbrev LH (n:Nat)(gs:LJ):Tg:=λa τ S=>match a with
 | .tup xs | .ktu xs=>gd (xs.length=n) (gs xs τ S)
 | _=>.no
def wz{k n:Nat}{gs:LJ}(hc:X.calm=true)(h:TR X es gs)(hn:(assignEach es X.env).length=n<|>ε)(j:(assignEach es X.env).findIdx? (·.1)=none<|>ε):AG X (.Tuple es k pos) (LH n gs):=
 PG.imp (OG hc h hn j) λv σ H Q h9=>by
  obtain⟨ρ,S,τ,a,R,r,va,h⟩:=h9
  cases va with
  | tup h1 r1=>
   obtain⟨d,h⟩:=iy h;exact⟨_,_,rfl,kZ.of h1,by rw[<- r1.length];exact d,ρ,S,τ,_,R,r,r1,h⟩
  | ktu h1 r1=>
   obtain⟨d,h⟩:=iy h;exact⟨_,_,rfl,.inr h1,by rw[<- r1.length];exact d,ρ,S,τ,_,R,r,r1,h⟩
  | _=>exact h.elim
abbrev Bk (o i v:A)(S:gS):R Unit:=match o,i with
 | .ref n,.int k=>opt (gQ S n) λxs=>opt (zj xs.length k) λj=>.ok Unit.unit (S.set n<|.lst<|xs.set j v)
 | _,_=>.no
abbrev VY (X:Cx):G6:=λo i v H Q=>∃ρ S f d g,Rel X.K ρ H S/\AV X.K ρ H f o/\AV X.K ρ H d i/\AV X.K ρ H g v/\(Bk f d g S).post (λ_ j=>∀ρ' H',Ext ρ ρ' H H'->Rel X.K ρ' H' j->Q H') (XE X ρ H)
def MP:Iu X (VY X):=λpins s σ H o i v B iv u Q I d g m h9=>by
 obtain⟨ρ,S,L,J,K,R,h1,f,G,h⟩:=h9
 cases h1 with
 | @ref p n hp=>
  cases f with
  | int k=>
   gn_on;obtain⟨j,F,h⟩:=gZ h;obtain⟨vs,e,r⟩:=R.lst hp<|ig hn;obtain⟨ex,C⟩:=R.put hp (ig hn)<|r.set G j;exact set_list pins s σ H _ _ v B iv u Q I d g m ⟨p,vs,k,j,rfl,rfl,e,by rw[<- r.length];exact F,h _ _ ex C⟩
  | _=>exact h.elim
 | _=>exact h.elim
abbrev Ni (co j:Ex):Tg:=λa τ S=>(co τ S).bind λo S1=>(j τ S1).bind λi d=>(Bk o i a d).bind λ_ f=>.ok τ f
def rK{co J:Ex}(L:AE X o co)(hi:AE X i J)
  (U:(∀v,assign (.Subscript o i pos) X.env v=(do
   let ov <- holding [v] (eval o X.env)
   let iv <- holding [v,ov] (eval i X.env)
   standAt pos
   holding [v,ov,iv] (setItem ov iv v)
   release [v,ov,iv] []))<|>ζ):AG X (.Subscript o i pos) (Ni co J):=PG.imp (HF L hi MP U) λv σ H Q h9=>by
 obtain⟨ρ,S,τ,a,R,r,va,h⟩:=h9;refine⟨ρ,S,τ,R,r,gP (gU h) .refl λo S1 h1 ρ1 H1 x e1 R1 v1=>⟨ρ1,S1,τ,R1,r.ext e1,gP (gU h1) e1 λi j m d H2 y e2 R2 k=>?_⟩⟩;refine⟨d,j,o,i,a,R2,v1.ext e2,k,va.ext<|e1.trans e2,gP (gU m) (e1.trans e2) λ_ B p f H3 e3 g=>?_⟩;exact p f H3 σ ((e1.trans e2).trans e3) g<|r.ext<|(e1.trans e2).trans e3
abbrev jF:Sm:=λτ S=>.nx τ S
abbrev ir (c d:Sm):Sm:=λτ S=>match c τ S with
 | .nx f g=>d f g
 | r=>r
def iI:GF X [] jF:=yD.imp MJ λD σ H ⟨ρ,S,τ,R,r,h⟩=>h ρ H σ .refl R r
def M6{H:Hp}(h:tS X (ir c d) D σ H):SG (tS X c) (tS X d) D σ H:=by
 gp_on;refine⟨ρ,S,τ,R,r,?_⟩;unfold ir at h
 cases hc:c τ S with
 | nx f S1=>
  rw[hc]at h;exact λρ1 H1 g e1 R1 r1=>⟨ρ1,S1,f,R1,r1,mj.ext h e1⟩
 | rt a S1=>rw[hc]at h;exact h
 | bk f S1=>rw[hc]at h;exact h
 | ct f S1=>rw[hc]at h;exact h
 | ex x S1=>rw[hc]at h;exact h
 | no=>rw[hc]at h;exact h
def gM(h1:AS X st c)(j:GF X rest d):GF X (st::rest) (ir c d):=yD.imp (G0 h1 j) λD σ H h=>M6 h
def gW(h1:AS X st c):GF X [st] c:=Ml h1
abbrev QG:Sm:=λτ S=>.bk τ S
abbrev S0:Sm:=λτ S=>.ct τ S
abbrev pR (e:Ex):Sm:=λτ S=>.of (e τ S) λ_ S1=>.nx τ S1
def mH{f:Ex}(j:AE X e f)(hs:swapsWith e none pos.line X.env=pure false<|>ε):AS X (.Expr e pos) (pR f):=PS.imp (Mb j hs) λD σ H ⟨ρ,S,τ,R,r,h⟩=>
 ⟨ρ,S,τ,R,r,gP (of_post h) .refl λa S1 h1 ρ1 H1 x e1 R1 v1=>h1 ρ1 H1 σ e1 R1<|r.ext e1⟩
abbrev iN (e:Ex):Sm:=λτ S=>.of (e τ S) λa S1=>.rt a S1
def iw{f:Ex}(j:AE X e f):AS X (.Return (some e) pos) (iN f):=PS.imp (Qv j) λD σ H ⟨ρ,S,τ,R,r,h⟩=>⟨ρ,S,τ,R,r,gP (of_post h) .refl λa S1 h1=>h1⟩
abbrev Rj:Sm:=λτ S=>.rt .non S
abbrev om (t:Te)(c d:Sm):Sm:=λτ S=>.of (t τ S) λb S1=>match b with|true=>c τ S1|false=>d τ S1
def jk{t:Te}(j:AT X e t)(J:GF X ca c)(hb:GF X cb d):AS X (.If e ca cb pos) (om t c d):=PS.imp (Sl j J hb) λD σ H h9=>by
 room;refine⟨ρ,S,τ,R,r,gP (of_post h) .refl λb S1 h1 ρ1 H1 e1 R1=>?_⟩
 cases b with
 | true=>rw[aT rfl];exact⟨ρ1,S1,τ,R1,r.ext e1,mj.ext h1 e1⟩
 | false=>rw[aQ bh];exact⟨ρ1,S1,τ,R1,r.ext e1,mj.ext h1 e1⟩
abbrev iO (e:Ex)(g:Tg):Sm:=λτ S=>.of (e τ S) λa S1=>.of (g a τ S1) λd f=>.nx d f
def MF{f:Ex}{g:Tg}{H:Hp}(h:tS X (iO f g) D σ H):MD (tE X f) (tG X g) D σ H:=by
 gp_on;exact⟨ρ,S,τ,R,r,gP (of_post h) .refl λa S1 h1 ρ1 H1 x e1 R1 v1=>⟨ρ1,S1,τ,a,R1,r.ext e1,v1,gP (of_post h1) e1 λd k j=>KR.ext j e1⟩⟩
def nW{tg:aF}{f:Ex}{g:Tg}(j:AE X e f)(hg:AG X tg g)(hs:swapsWithSole [tg] e pos.line X.env=pure false<|>ε)(hw:swappedStores [tg] e X.env=pure none<|>ε)
  (h1:(assignEach [tg] X.env).map (·.2)=[assign tg X.env]<|>ε):AS X (.Assign [tg] e pos) (iO f g):=PS.imp (Qh j hg hs hw h1) λD σ H h=>MF h
def iH{i:Nat}{x:Str}{f:Ex}(j:X.N.Nodup)(J:AE X e f)(hi:X.N[i]?=some x<|>ε)(L:Loc X.env.scope x:=by first|exact Or.inl rfl|exact Or.inr rfl)(hs:(swapsWith e (some<|.Name x pos') pos.line X.env=pure false)<|>ε)(hf:X.fn x=true\/X.env.scope.names.lookup x=some .local<|>γ) :
  AS X (.Assign [.Name x pos'] e pos) (iO f<|jc i):=PS.imp (PX j hi L J hs hf) λD σ H ⟨ρ,S,τ,R,r,h⟩=>
 ⟨ρ,S,τ,R,r,gP (of_post h) .refl λa S1 h1 ρ1 H1 x e1 R1 v1=>h1 ρ1 H1 _ e1 R1<|(r.ext e1).set v1⟩
abbrev Us (i j:Nat)(c:mK):Sm:=λτ S=>.of (c τ S) λd S1=>match d with
 | [a,b]=>.nx ((τ.set i a).set j b) S1
 | _=>.no
abbrev ip (X:Cx)(f:A->A->gS->R A):VZ:=λx y H Q=>∃ρ S a b,Rel X.K ρ H S/\AV X.K ρ H a x/\AV X.K ρ H b y/\(f a b S).post (sF X ρ H Q) (XE X ρ H)
abbrev UU (a b:A)(S:gS):R A:=match a,b with
 | .int i,.int j=>.ok (.int<|i+j) S
 | _,_=>.no
abbrev S_ (i:Nat)(f:A->A->gS->R A)(e:Ex):Sm:=λτ S=>if (τ.getD i .unb).jJ then .no else .of (e τ S) λb S1=>.of (f (τ.getD i .unb) b S1) λc d=>.nx (τ.set i c) d
abbrev Mf (a b:A)(S:gS):R A:=match a,b with
 | .ref n,.int i=>opt (gQ S n) λxs=>gd (0<=i) (opt (xs[i.toNat]?) λx=>.ok x S)
 | _,_=>.no
abbrev SH (co J L:Ex)(f:A->A->gS->R A):Sm:=λτ S=>.of (co τ S) λo S1=>.of (J τ S1) λi g=>.of (Mf o i g) λx k=>.of (L τ k) λy m=>.of (f x y m) λz j=>.of (Bk o i z j) λ_ d=>.nx τ d
abbrev kN (t:Te)(c:Sm):Nat->Sm
 | 0=>λ_ _=>.no
 | n+1=>λτ S=>.of (t τ S) λb S1=>match b with
  | false=>.nx τ S1
  | true=>match c τ S1 with
   | .nx d f=>kN t c n d f
   | .ct d f=>kN t c n d f
   | .bk d f=>.nx d f
   | r=>r
def Ir(n:Nat){t:Te}(hp:PassesOwn (model X.prog X.w) X.A X.env X.xe)(U:AT X e t)(hb:GF X body c):AS X (.While e body [] pos) (kN t c n):=PS.imp (J6 hp U hb) λD σ H h9=>by
 room;refine⟨λm p H'=>∃ρ' g d,Ext ρ ρ' H H'/\Rel X.K ρ' H' g/\SR X.K ρ' H' d p/\mj X ρ' H' D (kN t c m d g),⟨n,ρ,S,τ,.refl,R,r,h⟩,?_⟩;rintro m L H1 ⟨ρ1,S1,k,e1,R1,r1,h1⟩
 cases m with
 | zero=>exact h1.elim
 | succ m=>
  refine⟨ρ1,S1,k,R1,r1,gP (of_post h1) .refl λb J f F H2 e2 R2=>?_⟩
  cases b with
  | false=>rw[aQ bh];exact f F H2 L e2 R2 (r1.ext e2)
  | true=>
   rw[aT rfl];refine⟨λp H'=>∃ρ' g d,Ext ρ ρ' H H'/\Rel X.K ρ' H' g/\SR X.K ρ' H' d p/\mj X ρ' H' D (kN t c m d g),λp H' z=>⟨m,ck _,z⟩,F,J,k,R2,r1.ext e2,?_⟩;have f:mj X ρ1 H1 D (match c k J with
    | .nx d g=>kN t c m d g
    | .ct d g=>kN t c m d g
    | .bk d g=>.nx d g
    | r=>r):=f
   cases hc:c k J with
   | nx j C=>rw[hc]at f;exact λB H3 O e3 G N=>⟨B,C,j,(e1.trans e2).trans e3,G,N,mj.ext f<|e2.trans e3⟩
   | ct j C=>rw[hc]at f;exact λB H3 O e3 G N=>⟨B,C,j,(e1.trans e2).trans e3,G,N,mj.ext f<|e2.trans e3⟩
   | bk j C=>rw[hc]at f;exact KR.ext f e2
   | rt a C=>rw[hc]at f;exact sF.ext f e2
   | ex x C=>rw[hc]at f;exact XE.ext f e2
   | no=>rw[hc]at f;exact f
end
structure Src where
 k:Nat
 get:Nat->gS->Option A
 fin:gS->Bool
structure JR (K:az)(s:Src)(J:It)(ρ0:bb)(H0:Hp):Prop where
 go:∀(i:Nat) (S:gS) (H:Hp) (ρ:bb) (x:A),Ext0 ρ0 ρ H0 H->Rel K ρ H S->s.get i S=some x->J.go i H/\∀v H',J.yld i H v H'->Ext ρ ρ H H'/\Rel K ρ H' S/\AV K ρ H' x v
 stop:∀(S:gS) (H:Hp) (ρ:bb),Ext0 ρ0 ρ H0 H->Rel K ρ H S->s.fin S=true->J.stop s.k H
meta abbrev Ic:=ae->gS->R Src
abbrev tI (X:Cx)(c:Ic):TI:=λσ H Q=>∃ρ S τ,Rel X.K ρ H S/\SR X.K ρ H τ σ/\(c τ S).post (λs d=>∀ρ' H' J,Ext ρ ρ' H H'->Rel X.K ρ' H' d->JR X.K s J ρ' H'->Q J H') (XE X ρ H)
abbrev AI (X:Cx)(tg iter:aF)(c:Ic):Prop:=PI X tg iter<|tI X c
abbrev j_ (xs:ae):Src:=⟨xs.length,λi _=>xs[i]?,λ_=>true⟩
abbrev kM (n k:Nat):Src:=⟨k,λi S=>(gQ S n).bind (·[i]?),λS=>match gQ S n with
 | some ys=>decide (ys.length<=k)
 | none=>false⟩
abbrev qv (lo hi:Int):Src:=⟨(hi-lo).toNat,λi _=>if i<(hi-lo).toNat then some (.int<|lo+i)else none,λ_=>true⟩
abbrev lq (c:Ex):Ic:=λτ S=>(c τ S).bind λa S1=>match a with
 | .tup xs=>.ok (j_ xs) S1
 | .frz xs=>.ok (j_ xs) S1
 | .ref n=>opt (gQ S1 n) λxs=>.ok (kM n xs.length) S1
 | .str x=>gd (x.cps.all (· < 128)=true) (.ok (j_<|x.cps.toList.map λc=>.str ⟨#[c]⟩) S1)
 | _=>.no
section
variable {X:Cx}{pos:Pos}{tg e a b:aF}
def QM{K:az}{H0:Hp}{p:aj}(h:kZ K H0 p vs)(r:AVs K ρ0 H0 xs vs):JR K (j_ xs) (Ur K p) ρ0 H0 where
 go:=λi S H ρ x e R g=>by
  obtain⟨v,d,f⟩:=(AVs.je e r).get g;have hs:=e.TU h;refine⟨⟨vs,v,hs,d⟩,λw H' ⟨e1,y⟩=>?_⟩;subst e1;have:=y vs hs;rw[d]at this
  cases this
  exact⟨.refl,R,f⟩
 stop:=λS H ρ e R _=>⟨vs,e.TU h,by rw[<- r.length];exact aO _⟩
def OZ{K:az}{H0:Hp}{p:aj}(h:Fz K H0 p vs)(r:AVs K ρ0 H0 xs vs):JR K (j_ xs) (TX K p) ρ0 H0 where
 go:=λi S H ρ x e R g=>by
  obtain⟨v,d,f⟩:=(AVs.je e r).get g;have hs:=(e.fz h).LB;refine⟨⟨vs,v,hs,d⟩,λw H' ⟨e1,y⟩=>?_⟩;subst e1;have:=y vs hs;rw[d]at this
  cases this
  exact⟨.refl,R,f⟩
 stop:=λS H ρ e R _=>⟨vs,(e.fz h).LB,by rw[<- r.length];exact aO _⟩
def Qo{K:az}{ρ0:bb}{H0:Hp}{p:aj}{n k:Nat}(h:ρ0[n]?=some p):JR K (kM n k) (TX K p) ρ0 H0 where
 go:=λi S H ρ x e R g=>by
  obtain⟨ys,hn,j⟩:=bS.mp<|show(gQ S n).bind (·[i]?)=some x from g;obtain⟨vs,h1,r⟩:=R.lst (e.get h)<|ig hn;obtain⟨v,d,f⟩:=r.get j;refine⟨⟨vs,v,mE.of h1,d⟩,λw H' ⟨e1,y⟩=>?_⟩;subst e1;have:=y vs<|mE.of h1;rw[d]at this
  cases this
  exact⟨.refl,R,f⟩
 stop:=λS H ρ e R g=>by
  have g:(match gQ S n with
   | some ys=>decide (ys.length<=k)
   | none=>false)=true:=g
  cases hn:gQ S n with
  | none=>rw[hn]at g;cases g
  | some ys=>
   rw[hn]at g;obtain⟨vs,h1,r⟩:=R.lst (e.get h)<|ig hn;exact⟨vs,mE.of h1,by rw[<- r.length];exact d7 g⟩
def II{K:az}{H0:Hp}{lo hi:Int}:JR K (qv lo hi) (Rz lo (hi-lo).toNat) ρ0 H0 where
 go:=λi S H ρ x e R g=>by
  have g:(if i<(hi-lo).toNat then some (A.int<|lo+i)else none)=some x:=g;by_cases d:i<(hi-lo).toNat
  ·rw[aT d]at g
   cases g
   refine⟨d,λw H' ⟨e1,y⟩=>?_⟩;subst e1 y;exact⟨.refl,R,.int _⟩
  ·rw[aQ d]at g;cases g
 stop:=λS H ρ e R _=>aO _
def OC{K:az}{H0:Hp}{x:Str}:JR K (j_<|x.cps.toList.map λc=>A.str ⟨#[c]⟩) (UX x) ρ0 H0 where
 go:=λi S H ρ y e R g=>by
  have g:(x.cps.toList.map λc=>A.str ⟨#[c]⟩)[i]?=some y:=g;rw[bE]at g;obtain⟨c,hc,rfl⟩:=aV.mp g;rw[fG]at hc;refine⟨(gi.mp hc).1,λw H' ⟨e1,j,d,f⟩=>?_⟩;rw[hc]at d
  cases d
  subst e1 f;exact⟨.refl,R,.str _⟩
 stop:=λS H ρ e R _=>by
  show(x.cps.toList.map λc=>A.str ⟨#[c]⟩).length=x.cps.size;rw[aK,cE]
def mW{c:Ex}(j:AE X e c):AI X tg e (lq c):=λpins s σ H Q I h9=>by
 room;have d:=gU h
 cases hc:c τ S with
 | no=>rw[hc]at d;exact d.elim
 | ex x S1=>
  rw[hc]at d;exact HW j pins s σ H Q I ⟨ρ,S,τ,R,r,by rw[hc];exact d⟩
 | ok a S1=>
  rw[hc]at d
  cases a with
  | tup xs=>
   refine HW j pins s σ H Q I ⟨ρ,S,τ,R,r,?_⟩;rw[hc];intro ρ1 H1 x e1 R1 v1
   cases v1 with
   | tup h1 r1=>exact⟨_,rfl,⟨_,(kZ.of h1)⟩,d ρ1 H1 _ e1 R1<|QM (kZ.of h1) r1⟩
  | frz xs=>
   refine E4 j pins s σ H Q I ⟨ρ,S,τ,R,r,?_⟩;rw[hc];intro ρ1 H1 x e1 R1 v1
   cases v1 with
   | frz h1 r1=>exact⟨_,rfl,⟨_,h1.LB⟩,d ρ1 H1 _ e1 R1<|OZ h1 r1⟩
  | ref n=>
   obtain⟨xs,hn,d⟩:=gZ d;refine E4 j pins s σ H Q I ⟨ρ,S,τ,R,r,?_⟩;rw[hc];intro ρ1 H1 x e1 R1 v1
   cases v1 with
   | ref hp=>
    obtain⟨vs,h1,r1⟩:=R1.lst hp<|ig hn;exact⟨_,rfl,⟨_,mE.of h1⟩,d ρ1 H1 _ e1 R1<|Qo hp⟩
  | str x=>
   obtain⟨f,d⟩:=iy d;refine O8 j pins s σ H Q I ⟨ρ,S,τ,R,r,?_⟩;rw[hc];intro ρ1 H1 v e1 R1 v1
   cases v1 with
   | str=>exact⟨x,rfl,f,d ρ1 H1 _ e1 R1 OC⟩
  | _=>exact d.elim
abbrev bnd (i:Int):Prop:=-(2 ^ 62)<=i/\i<2 ^ 62
instance (i:Int):Decidable (bnd i):=by unfold bnd;infer_instance
abbrev tV (c:Ex):Ic:=λτ S=>(c τ S).bind λa S1=>match a with
 | .int j=>gd (bnd j) (.ok (qv 0 j) S1)
 | _=>.no
abbrev yw (c d:Ex):Ic:=λτ S=>(c τ S).bind λa S1=>(d τ S1).bind λb f=>match a,b with
 | .int i,.int j=>gd (bnd i/\bnd j) (.ok (qv i j) f)
 | _,_=>.no
def qY{p:Pos}{c:Ex}(J:X.mg "range" = none)(L:AE X a c)(hg:Gl X "range"<|>ε)(hs:starEach [a] X.env=[(false,eval a X.env)]<|>ε):AI X tg (.Call (.Name "range" p) [a] [] pos) (tV c):=λpins s σ H Q I h9=>by
 room;refine F7 hg J (lI L qw hs) hs pins s σ H Q I ⟨ρ,S,τ,R,r,gP (gU h) .refl λx S1 h1 ρ1 H1 v e1 R1 v1=>?_⟩
 cases v1 with
 | int j=>
  obtain⟨d,h1⟩:=iy h1;exact⟨_,rfl,d.1,d.2,by have:=h1 ρ1 H1 _ e1 R1 II;rwa [Int.sub_zero]at this⟩
 | _=>exact h1.elim
def Gb{p:Pos}{c d:Ex}(L:X.mg "range" = none)(U:AE X a c)(hb:AE X b d)(hg:Gl X "range"<|>ε)(hs:starEach [a,b] X.env=[(false,eval a X.env),(false,eval b X.env)]<|>ε)(J:starEach [b] X.env=[(false,eval b X.env)]<|>ε):AI X tg (.Call (.Name "range" p) [a,b] [] pos) (yw c d):=λpins s σ H Q I h9=>by
 room;refine FN hg L (lI U (lI hb qw J)<|by rw[hs,J]) hs J pins s σ H Q I ⟨ρ,S,τ,R,r,gP (gU h) .refl λx S1 h1 ρ1 H1 v e1 R1 v1=>⟨ρ1,S1,τ,R1,r.ext e1,gP (gU h1) e1 λy m f g H2 w e2 R2 k=>?_⟩⟩
 cases v1 with
 | int i=>
  cases k with
  | int j=>
   obtain⟨hb,f⟩:=iy f;exact⟨_,_,rfl,⟨hb.1.1,hb.1.2,hb.2.1,hb.2.2⟩,f g H2 _ (e1.trans e2) R2 II⟩
  | _=>exact f.elim
 | _=>exact f.elim
abbrev Ag (xs:ae):Src:=⟨xs.length,λi _=>(xs[i]?).map λx=>.tup [.int i,x],λ_=>true⟩
abbrev LM (c:Ex):Ic:=λτ S=>(c τ S).bind λa S1=>match a with
 | .tup xs=>.ok (Ag xs) S1
 | _=>.no
def O6{K:az}{H0:Hp}{p:aj}(h:kZ K H0 p vs)(r:AVs K ρ0 H0 xs vs):JR K (Ag xs) (UG K p) ρ0 H0 where
 go:=λi S H ρ x e R g=>by
  obtain⟨y,hy,rfl⟩:=aV.mp<|show(xs[i]?).map (λx=>A.tup [.int i,x])=some x from g;obtain⟨v,f,j⟩:=(AVs.je e r).get hy;have hs:=e.TU h;refine⟨⟨vs,v,hs,f⟩,λw H' q=>?_⟩;obtain⟨B,hp,rfl,m⟩:=q;have d:=m vs v hs f;subst d;obtain⟨ex,k⟩:=R.im (u:=.tup [.int i,v]) hp;exact⟨ex,k,.tup iF<|.cons (.int _)<|.cons (j.ext ex) .nil⟩
 stop:=λS H ρ e R _=>⟨vs,e.TU h,by rw[<- r.length];rfl⟩
def Pu{p:Pos}{c:Ex}(j:X.mg "enumerate" = none)(J:AE X a c)(hg:Gl X "enumerate"<|>ε)(hs:starEach [a] X.env=[(false,eval a X.env)]<|>ε):AI X (.Tuple elts x1 tpos) (.Call (.Name "enumerate" p) [a] [] pos) (LM c):=λpins s σ H Q I h9=>by
 room;refine I_ hg j (lI J qw hs) hs pins s σ H Q I ⟨ρ,S,τ,R,r,gP (gU h) .refl λx S1 h1 ρ1 H1 v e1 R1 v1=>?_⟩
 cases v1 with
 | tup d r2=>exact⟨_,_,rfl,(kZ.of d),h1 ρ1 H1 _ e1 R1<|O6 (kZ.of d) r2⟩
 | _=>exact h1.elim
abbrev nR (s:Src)(g:Tg)(c:Sm):Nat->Nat->Sm
 | 0,_=>λτ S=>if s.fin S then .nx τ S else .no
 | k+1,i=>λτ S=>match s.get i S with
  | none=>.no
  | some x=>.of (g x τ S) λj S1=>match c j S1 with
   | .nx d f=>nR s g c k (i+1) d f
   | .ct d f=>nR s g c k (i+1) d f
   | .bk d f=>.nx d f
   | r=>r
abbrev oY (src:Ic)(g:Tg)(c:Sm):Sm:=λτ S=>.of (src τ S) λs S1=>nR s g c s.k 0 τ S1
def qM{iter:aF}{src:Ic}{g:Tg}{c:Sm}(hp:PassesOwn (model X.prog X.w) X.A X.env X.xe)(hc:X.calm=true)(hi:AI X tg iter src)(hg:AG X tg g)(hb:GF X body c)
  (hs:(∀x,foldedSetIterable iter X.env x=pure x)<|>ζ):AS X (.For tg iter body [] pos) (oY src g c):=PS.imp (Ql hp hc hi hg hb hs) λD σ H h9=>by
 room;refine⟨ρ,S,τ,R,r,gP (of_post h) .refl λs S1 h1 ρ1 H1 J e1 R1 jr=>?_⟩;refine⟨λi m G H'=>m+i=s.k/\∃ρ' F d,Ext ρ1 ρ' H1 H'/\Rel X.K ρ' H' F/\SR X.K ρ' H' d G/\mj X ρ' H' D (nR s g c m i d F),⟨s.k,rfl,ρ1,S1,τ,.refl,R1,r.ext e1,mj.ext h1 e1⟩,?_⟩;rintro i m σ2 H2 ⟨hm,j,L,P,e2,R2,r2,B⟩
 cases m with
 | zero=>
  left;have B:mj X j H2 D (if s.fin L then .nx P L else .no):=B
  cases hf:s.fin L with
  | false=>rw[hf]at B;exact B.elim
  | true=>
   rw[hf]at B;refine⟨by rw[show i=s.k by lia];exact jr.stop L H2 j e2.toExt0 R2 hf,B j H2 σ2 .refl R2 r2⟩
 | succ m=>
  right;have B:mj X j H2 D (match s.get i L with
   | none=>.no
   | some x=>.of (g x P L) λτ1 S1=>match c τ1 S1 with
    | .nx d F=>nR s g c m (i+1) d F
    | .ct d F=>nR s g c m (i+1) d F
    | .bk d F=>.nx d F
    | r=>r):=B
  cases hx:s.get i L with
  | none=>rw[hx]at B;exact B.elim
  | some x=>
   rw[hx]at B;obtain⟨Z,hy⟩:=jr.go i L H2 j x e2.toExt0 R2 hx;refine⟨Z,λG H'=>m+(i+1)=s.k/\∃ρ' F d,Ext ρ1 ρ' H1 H'/\Rel X.K ρ' H' F/\SR X.K ρ' H' d G/\mj X ρ' H' D (nR s g c m (i+1) d F),λG H' z=>⟨m,ck _,z⟩,λv H3 y=>?_⟩;obtain⟨e3,R3,v3⟩:=hy v H3 y;refine⟨j,L,P,x,R3,r2.ext e3,v3,gP (of_post B) e3 λU S4 C Y H4 σ4 e4 R4 r4=>⟨Y,S4,U,R4,r4,?_⟩⟩;have f:=e3.trans e4
   cases p:c U S4 with
   | nx N T=>rw[p]at C;exact λO H5 σ5 V R5 r5=>⟨(),O,T,N,(e2.trans f).trans V,R5,r5,mj.ext C<|f.trans V⟩
   | ct N T=>rw[p]at C;exact λO H5 σ5 V R5 r5=>⟨(),O,T,N,(e2.trans f).trans V,R5,r5,mj.ext C<|f.trans V⟩
   | bk N T=>rw[p]at C;exact KR.ext C f
   | rt x5 T=>rw[p]at C;exact sF.ext C f
   | ex x5 T=>rw[p]at C;exact XE.ext C f
   | no=>rw[p]at C;exact C
end
abbrev R.rF {α β:Type}(r:R α)(f:α->gS->R β):R β:=match r with
 | .ok a S=>f a S
 | _=>.no
def sI{α β:Type}{r:R α}{f:α->gS->R β}{b:β}(h:r.rF f=.ok b S2):∃a S,r=.ok a S/\f a S=.ok b S2:=by
 cases r with
 | ok a S=>exact⟨a,S,rfl,h⟩
 | ex _ _=>cases h
 | no=>cases h
def sE{α β:Type}{r:R α}{f:α->gS->R β}{P:β->gS->Prop}{E:Str->gS->Prop}(h:(r.rF f).post P E):∃a S,r=.ok a S/\(f a S).post P E:=by
 cases r with
 | ok a S=>exact⟨a,S,rfl,h⟩
 | ex _ _=>exact h.elim
 | no=>exact h.elim
def OP{α β:Type}{o:Option β}{f:β->R α}{a:α}(h:opt o f=.ok a S):∃b,o=some b/\f b=.ok a S:=by
 cases o with
 | none=>cases h
 | some b=>exact⟨b,rfl,h⟩
abbrev oh (s:Src)(g:Tg)(t:Te)(e:Ex):Nat->Nat->ae->gS->R (ae)
 | 0,_=>λ_ S=>if s.fin S then .ok [] S else .no
 | k+1,i=>λτ S=>opt (s.get i S) λx=>(g x τ S).rF λd S1=>(t d S1).rF λb f=>match b with
  | true=>(e d f).rF λy j=>(oh s g t e k (i+1) d j).rF λys m=>.ok (y::ys) m
  | false=>oh s g t e k (i+1) d f
abbrev jT (cap:List<|bj)(τ:ae):ae:=cap.map λo=>match o with
 | some j=>τ.getD j .unb
 | none=>.unb
abbrev kF (cap:List<|bj)(src:Ic)(g:Tg)(t:Te)(e:Ex):Ex:=λτ S=>(src τ S).bind λs S1=>(oh s g t e s.k 0 (jT cap τ) S1).rF λys d=>newL ys d
abbrev lg:Te:=λ_ S=>.ok true S
def AZ{s:Src}{g:Tg}{t:Te}{e:Ex}{k:Nat}{T:Prop}(h:oh s g t e (k+1) i τ S=.ok zs S')
  (q:∀x τ1 S1 b S2,s.get i S=some x->g x τ S=.ok τ1 S1->t τ1 S1=.ok b S2->(b=true->∃y S3 ws,e τ1 S2=.ok y S3/\oh s g t e k (i+1) τ1 S3=.ok ws S'/\zs=y::ws)->(b=false->oh s g t e k (i+1) τ1 S2=.ok zs S')->T):T:=by
 obtain⟨x,p,h⟩:=OP h;obtain⟨τ1,S1,h1,h⟩:=sI h;obtain⟨b,S2,j,h⟩:=sI h;refine q x τ1 S1 b S2 p h1 j (λd=>?_) λd=>?_
 ·subst d;obtain⟨y,S3,m,h⟩:=sI h;obtain⟨ws,B,f,h⟩:=sI h
  cases h
  exact⟨y,S3,ws,m,f,rfl⟩
 ·subst d;exact h
structure Out (ρ1:bb)(H1:Hp)(D:aj)(accV:List V)(ρ:bb)(H:Hp):Prop where
 e0:Ext0 ρ1 ρ H1 H
 fr:∀a u,a≠D->H1 a=some u->a∉ρ1->H a=some u
 nw:∀a∈ρ,a∈ρ1\/H1 a=none
 nD:D∉ρ
 hD:H D=some (.lst accV)
def Out.stay{H1 H3 U:Hp}(o:Out ρ1 H1 D accV ρ3 H3)(L:H1 D=none)(J:Ext ρ3 ρ7 H3 U):Out ρ1 H1 D accV ρ7 U:=by
 refine⟨⟨o.e0.pre.trans J.pre,λa u i h=>J.im a u i<|o.e0.im a u i h⟩,λa u na d g=>J.fr a u (o.fr a u na d g) λz=>(o.nw a z).elim g λz=>by(rw[z]at d;cases d),λa k=>?_,λz=>(J.nw D z).elim o.nD λz=>by(rw[o.hD]at z;cases z),J.fr D _ o.hD o.nD⟩;by_cases f:a∈ρ1
 ·exact .inl f
 ·right
  cases q:H1 a with
  | none=>rfl
  | some u=>
   have j:a≠D:=g9 q L
   rcases J.nw a k with z|z
   ·exact((o.nw a z).elim f λz=>by(rw[z]at q;cases q)).elim
   ·rw[o.fr a u j q f]at z;cases z
def Out.put{H1 H:Hp}(o:Out ρ1 H1 D accV ρ H)(ex:Ext0 ρ ρ H<|upd H D<|.lst vs):Out ρ1 H1 D vs ρ (upd H D<|.lst vs):=
 ⟨⟨o.e0.pre,λa u i h=>ex.im a u i<|o.e0.im a u i h⟩,λa u na f d=>by rw[gV na];exact o.fr a u na f d,o.nw,o.nD,iF⟩
def Out.end{H1 H:Hp}{D:aj}(o:Out ρ1 H1 D accV ρ H)(j:H1 D=none):Ext ρ1 (ρ++[D]) H1 H:=by
 refine⟨⟨o.e0.pre.trans<|dS _ _,o.e0.im⟩,λa u d na=>o.fr a u (g9 d j) d na,λa f=>?_⟩
 rcases bQ.mp f with z|z
 ·exact o.nw a z
 ·have:a=D:=by simpa using z
  rw[this];exact .inr j
abbrev Cq (K:az)(ρ1:bb)(H1:Hp)(D:aj)(ys:ae)(k:Nat)(E:bb->Hp->Prop)(P:Nat->Nat->ae->gS->ae->Prop)(i m:Nat)(σ:L2.St)(H:Hp):Prop:=
 m+i=k/\∃ρ S τ acc zs accV,Out ρ1 H1 D accV ρ H/\E ρ H/\Rel K ρ H S/\SR K ρ H τ σ/\AVs K ρ H acc accV/\P m i τ S zs/\acc++zs=ys
section
variable {K:az}{ρ1 ρ:bb}{H1 H:Hp}{D:aj}{ys acc zs:ae}{accV:List V}{k i m:Nat}{E:bb->Hp->Prop}{P:Nat->Nat->ae->gS->ae->Prop}{σ:L2.St}{S:gS}{τ:ae}
def Cq.el{T:Prop}(h:Cq K ρ1 H1 D ys k E P i m σ H)(q:∀ρ S τ acc zs accV,m+i=k->Out ρ1 H1 D accV ρ H->E ρ H->Rel K ρ H S->SR K ρ H τ σ->AVs K ρ H acc accV->P m i τ S zs->acc++zs=ys->T):T:=by
 obtain⟨d,ρ,S,τ,acc,zs,accV,h1,g,j,f,p,h6,B⟩:=h;exact q ρ S τ acc zs accV d h1 g j f p h6 B
def Cq.of(j:m+i=k)(o:Out ρ1 H1 D accV ρ H)(e:E ρ H)(R:Rel K ρ H S)(r:SR K ρ H τ σ)(v:AVs K ρ H acc accV)(p:P m i τ S zs)(q:acc++zs=ys):Cq K ρ1 H1 D ys k E P i m σ H:=⟨j,ρ,S,τ,acc,zs,accV,o,e,R,r,v,p,q⟩
end
abbrev UJ (K:az)(c:Ex):TE:=λσ H Q=>∃ρ S τ a d,Rel K ρ H S/\SR K ρ H τ σ/\c τ S=.ok a d/\∀ρ' H' v,Ext ρ ρ' H H'->Rel K ρ' H' d->AV K ρ' H' a v->Q v H'
abbrev Q_ (K:az)(c:Te):TT:=λσ H Q=>∃ρ S τ a d,Rel K ρ H S/\SR K ρ H τ σ/\c τ S=.ok a d/\∀ρ' H',Ext ρ ρ' H H'->Rel K ρ' H' d->Q a H'
abbrev QY (K:az)(g:Tg):TG:=λv σ H Q=>∃ρ S τ a f j,Rel K ρ H S/\SR K ρ H τ σ/\AV K ρ H a v/\g a τ S=.ok f j/\∀ρ' H' d,Ext ρ ρ' H H'->Rel K ρ' H' j->SR K ρ' H' f d->Q d H'
section
variable {X:Cx}{pos:Pos}{tg iter elt e:aF}{ifs:List aF}{scope:Scope}{N:ar}{cap:List (bj)}{src:Ic}{g:Tg}{t:Te}{c:Ex}
def AE.e0{K:az}(hK:X.K=K)(h:AE X e c):PE X e (UJ K c):=PE.imp h λσ H Q ⟨ρ,S,τ,a,g,R,r,hc,q⟩=>⟨ρ,S,τ,by rw[hK];exact R,by rw[hK];exact r,by rw[hc];exact λρ' H' v e d f=>q ρ' H' v e (by rw[<- hK];exact d)<|by rw[<- hK];exact f⟩
def AG.g0{K:az}(hK:X.K=K)(h:AG X e g):PG X e (QY K g):=by
 subst hK;refine PG.imp h λv σ H Q h9=>?_;obtain⟨ρ,S,τ,a,d,f,R,r,va,hc,q⟩:=h9;exact⟨ρ,S,τ,a,R,r,va,by rw[hc];exact q⟩
abbrev TH (X:Cx)(ifs:List aF)(t:Te):Prop:=Np X ifs<|Q_ X.K t
def lJ:TH X [] lg:=λpins s σ H Q I ⟨ρ,S,τ,a,d,R,r,hc,q⟩=>MQ pins s σ H Q I<|by cases hc;exact q ρ H .refl R
def Oe{K:az}{H:Hp}(r:SR K ρ H τ σ)(cap:List<|bj):SR K ρ H (jT cap τ) (cap.map<|P8 σ):=by
 refine⟨by simp[jT],λi a h=>?_⟩;unfold jT at h;rw[bE]at h;obtain⟨o,g,e⟩:=aV.mp h
 cases o with
 | none=>exact .inl e.symm
 | some j=>
  have e:τ.getD j .unb=a:=e
  cases d:τ[j]? with
  | none=>rw[aX,d]at e;exact .inl e.symm
  | some b=>
   rw[aX,d]at e;have e:b=a:=e;subst e
   rcases r.at j b d with z|⟨v,h1,f⟩
   ·exact .inl z
   ·exact .inr ⟨v,by rw[bE,g];show some ((σ[j]?).getD none)=_;rw[h1];rfl,f⟩
def Rel.DJ{K:az}{H:Hp}{p:aj}(R:Rel K ρ H S)(hp:H p=none):p∉ρ:=λf=>by
 obtain⟨n,hn,e⟩:=dG.mp f;have g:n<S.length:=by rw[<- R.len];exact hn
 have:=R.at n p S[n] (by rw[aN hn,e]) (aN g)
 cases d:S[n]with
 | lst xs=>rw[d]at this;obtain⟨vs,h,_⟩:=this;rw[hp]at h;cases h
 | dct _|dki _|ly _|dcp _=>rw[d]at this;obtain⟨vs,h,_⟩:=this;rw[hp]at h;cases h
 | dcf _|dkf _=>rw[d]at this;obtain⟨_,vs,h,_⟩:=this;rw[hp]at h;cases h
 | ins _ _=>rw[d]at this;obtain⟨_,_,h⟩:=this;rw[hp]at h;cases h
 | obj _ _=>rw[d]at this;obtain⟨_,⟨_,_,_,h⟩,_⟩:=this;rw[hp]at h;cases h
def IZ(σ:L2.St)(H:Hp)(Q:VK)(h:tE X (kF cap src g t c) σ H Q):Of cap (tI X src) (QY X.K g) (Q_ X.K t) (UJ X.K c) σ H Q:=by
 gp_on;refine⟨ρ,S,τ,R,r,gP (gU h) .refl λs S1 h1 ρ1 H1 J e1 R1 jr D hD=>?_⟩;obtain⟨ys,V,Z,h1⟩:=sE h1;obtain⟨O,h1⟩:=iy h1;have h1:sF X ρ H Q (.ref V.length) (V++[.lst ys]):=h1;obtain⟨eD,RD⟩:=R1.im (u:=.lst []) hD;refine⟨Cq X.K ρ1 H1 D ys s.k (λ_ _=>True) λm i τ S zs=>oh s g t c m i τ S=.ok zs V,⟨s.k,.of rfl ⟨eD.toExt0,λa u na hu _=>by rw[gV na];exact hu,λa ha=>.inl ha,R1.DJ hD,iF⟩ trivial RD (Oe ((r.ext e1).ext eD) cap) .nil Z rfl⟩,?_⟩;intro i m σ3 H3 hw;refine hw.el λB L τ3 acc zs accV hm F _ R3 r3 j d f=>?_;clear hw
 cases m with
 | zero=>
  left;have d:(if s.fin L then Am.R.ok [] L else .no)=.ok zs V:=d
  cases hf:s.fin L with
  | false=>rw[hf]at d;cases d
  | true=>
   rw[hf]at d
   cases d
   rw[bT]at f;subst f;refine⟨by rw[show i=s.k by lia];exact jr.stop _ H3 B F.e0 R3 hf,?_⟩;obtain⟨RT,gt⟩:=R3.take F.hD F.nD j;exact h1 (B++[D]) H3 _ (e1.trans<|F.end hD) RT<|.ref gt
 | succ m=>
  right;refine AZ d λx C S4 b S5 hx hg4 ht5 hT hF=>?_;have jg:=jr.go i L H3 B x F.e0 R3 hx;refine⟨jg.1,λv H4 y=>?_⟩;obtain⟨e4,R4,v4⟩:=jg.2 v H4 y;refine⟨B,L,τ3,x,C,S4,R4,r3.ext e4,v4,hg4,λρ5 H5 σ5 e5 R5 U=>⟨ρ5,S4,C,b,S5,R5,U,ht5,λY H6 T R6=>?_⟩⟩;have p:=(e4.trans e5).trans T
  cases b with
  | false=>
   dsimp only;rw[aQ bh];exact⟨m,ck _,.of () (F.stay hD p) trivial R6 (U.ext T) (j.ext p) (hF rfl) f⟩
  | true=>
   dsimp only;rw[aT rfl];obtain⟨y,S6,ws,he6,cg6,N⟩:=hT rfl;refine⟨Y,S5,C,y,S6,R6,U.ext T,he6,λρ7 H7 w e7 R7 v7=>?_⟩;have P:=F.stay hD<|p.trans e7;obtain⟨G,R8⟩:=R7.out (ws:=accV++[w]) P.hD P.nD;have l1:=j.length;refine⟨accV,P.hD,?_,m,ck _,.of () (P.put G) trivial R8 ((U.ext<|T.trans e7).je G) (AVs.je G<|(j.ext<|p.trans e7).append<|.one v7) cg6 ?_⟩
   ·have:(acc++zs).length<=sizeLine:=by rw[f];exact O
    rw[N,aZ,bq]at this
    lia
   ·rw[bW,<- f,N];rfl
def oS(hc:X.calm=true)(j:CpScope X scope N cap)(hi:AI X tg iter src)(hg:∀C s₀ H₀ ex,AG (jo X scope N C s₀ H₀ ex) tg g)(J:∀C s₀ H₀ ex,TH (jo X scope N C s₀ H₀ ex) ifs t)(L:∀C s₀ H₀ ex,AE (jo X scope N C s₀ H₀ ex) elt c)
  (hs:(∀x,foldedSetIterable iter X.env x=pure x)<|>ζ):AE X (.ListComp elt [⟨tg,iter,ifs,0⟩] scope pos) (kF cap src g t c):=
 PE.imp (Tu hc j hi (g:=QY X.K g) (tc:=Q_ X.K t) (te:=UJ X.K c) (λC s₀ H₀ ex=>(hg C s₀ H₀ ex).g0 rfl) (λC s₀ H₀ ex=>J C s₀ H₀ ex) (λC s₀ H₀ ex=>(L C s₀ H₀ ex).e0 rfl) hs) IZ
end
abbrev A.lst? (S:gS):A->Option (ae)
 | .ref n=>gQ S n
 | _=>none
abbrev PN (f:A->ae->gS->R A)(co:Ex)(d:mK):Ex:=λτ S=>(co τ S).bind λo S1=>opt (o.lst? S1) λ_=>(d τ S1).bind λj g=>f o j g
abbrev FH (f:A->ae->gS->R A)(co:Ex):Ex:=λτ S=>(co τ S).bind λo S1=>opt (o.lst? S1) λ_=>f o [] S1
abbrev rM (X:Cx)(f:A->ae->gS->R A):V->List V->Hp->VK->Prop:=λx vs H Q=>∃ρ S o d,Rel X.K ρ H S/\AV X.K ρ H o x/\AVs X.K ρ H d vs/\(f o d S).post (sF X ρ H Q) (XE X ρ H)
section
variable {X:Cx}{apos cpos:Pos}{o e:aF}{es:List aF}{name:Str}{id:String}{f:A->ae->gS->R A}{co:Ex}{d:mK}
def lst?_ty{K:az}{H:Hp}{x:A}{v:V}(R:Rel K ρ H S)(h:AV K ρ H x v)(e:x.lst? S=some xs):Q9 K "list" v H:=by
 cases h with
 | ref h=>
  obtain⟨vs,h1,_⟩:=R.lst h<|ig e;exact .inl ⟨rfl,vs,mE.of h1⟩
 | _=>cases e
def Fb(slot:Slot "list" name id)(hty:typeOf (.builtin id)=pure (.type "method_descriptor"))(hm:Cb X id<|rM X f)(ho:AE X o co)(ha:AL X (e::es) d)
  (L:attributeBase o name X.env (eval o X.env)=eval o X.env<|>ε)
  (Z:(((backTo cpos<|starEach (e::es) X.env).all (λx=>!x.1) && (backToKw cpos<|keywordEach [] X.env).all (λx=>x.1.isSome)
   && decide ((e::es).length+([]:List Keyword).length+(if ([]:List Keyword).isEmpty then 0 else 1)<30))=true)<|>ε)
  (U:(apos.endLine == cpos.line)=true<|>ε) (hs:starEach (e::es) X.env=(false,eval e X.env)::starEach es X.env<|>ε) (J:((backTo cpos<|starEach es X.env).any (·.1)=false)<|>ε) :
  AE X (.Call (.Attribute o name apos) (e::es) [] cpos) (PN f co d):=PE.imp (HK PySem.F.plainAttrs_list slot hty hm ho ha L Z U hs J) λσ H Q h9=>by
 room;ksr_p;obtain⟨xs,p,h1⟩:=gZ h1;refine⟨lst?_ty R1 v1 p,ρ1,S1,τ,R1,r.ext e1,gP (gU h1) e1 λB j m g H2 vs e2 R2 k=>?_⟩;exact⟨g,j,x,B,R2,v1.ext e2,k,gP m (e1.trans e2) λ_ _ z=>z.ext<|e1.trans e2⟩
def IJ(slot:Slot "list" name id)(L:typeOf (.builtin id)=pure (.type "method_descriptor"))(U:Cb X id<|rM X f)(Z:AE X o co)
  (j:attributeBase o name X.env (eval o X.env)=eval o X.env<|>ε) (J:(apos.endLine == cpos.line)=true<|>ε):AE X (.Call (.Attribute o name apos) [] [] cpos) (FH f co):=PE.imp (OU PySem.F.plainAttrs_list slot L U Z j J) λσ H Q h9=>by
 room;ksr_p;obtain⟨xs,d,h1⟩:=gZ h1;exact⟨lst?_ty R1 v1 d,ρ1,S1,x,[],R1,v1,.nil,gP h1 e1 λ_ _ z=>z.ext e1⟩
abbrev mP (o:A)(j:ae)(S:gS):R A:=match o,j with
 | .ref n,[x]=>opt (gQ S n) λxs=>gd (xs.length<sizeLine) (.ok .non<|S.set n<|.lst<|xs++[x])
 | _,_=>.no
def tU:Cb X "list.append" (rM X mP):=λpins s σ H x vs v us Q I rx g h9=>by
 obtain⟨ρ,S,o,f,R,d,va,h⟩:=h9
 cases d with
 | @ref p n hp=>
  match f,va,h with
  | [],_,h=>exact h.elim
  | _::_::_,_,h=>exact h.elim
  | [y],va,h=>
   obtain⟨w,rfl,hw⟩:=AX va;gn_on;obtain⟨k,h⟩:=iy h;obtain⟨ws,h1,r⟩:=R.lst hp<|ig hn;obtain⟨ex,j⟩:=R.put hp (ig hn)<|r.append<|.one hw;exact uB pins s σ H _ _ v us Q I rx g ⟨p,ws,w,rfl,rfl,h1,by rw[<- r.length];exact k,h _ _ _ ex j .non⟩
 | _=>exact h.elim
abbrev zS (o:A)(j:ae)(S:gS):R A:=match o,j with
 | .ref n,[]=>opt (gQ S n) λxs=>opt (xs[xs.length-1]?) λx=>.ok x (S.set n<|.lst xs.dropLast)
 | _,_=>.no
def AVs.dropLast{K:az}{H:Hp}{xs:ae}{vs:List V}(r:AVs K ρ H xs vs):AVs K ρ H xs.dropLast vs.dropLast:=by
 rw[List.dropLast_eq_take,List.dropLast_eq_take,r.length];exact r.take _
def Nu:Cb X "list.pop" (rM X zS):=λpins s σ H x vs v us Q I rx j h9=>by
 obtain⟨ρ,S,o,g,R,f,va,h⟩:=h9
 cases f with
 | @ref p n hp=>
  match g,va,h with
  | _::_,_,h=>exact h.elim
  | [],va,h=>
   cases va
   gn_on;obtain⟨y,hy,h⟩:=gZ h;obtain⟨ws,h1,r⟩:=R.lst hp<|ig hn;obtain⟨w,hw,d⟩:=r.get hy;obtain⟨ex,k⟩:=R.put hp (ig hn) r.dropLast;exact QA pins s σ H _ _ v us Q I rx j ⟨p,ws,w,rfl,rfl,h1,by rw[<- r.length];exact hw,h _ _ _ ex k<|d.ext ex⟩
 | _=>exact h.elim
end
abbrev jO (N:ar)(m:Sm)(j:ae)(S:gS):R A:=match m (j++List.replicate (N.length-j.length) .unb) S with
 | .rt a d=>.ok a d
 | .nx _ d=>.ok .non d
 | .ex c d=>.ex c d
 | _=>.no
abbrev tu (K:az)(n:Nat)(F:ae->gS->R A):Sp:=λvs H Q _=>vs.length=n/\∃ρ S f a d,Rel K ρ H S/\AVs K ρ H f vs/\F f S=.ok a d/\∀ρ' H' v,Ext ρ ρ' H H'->Rel K ρ' H' d->AV K ρ' H' a v->Q v H'
def Eu{K:az}{H:Hp}{j:ae}(r:AVs K ρ H j vs)(N:ar):SR K ρ H (j++List.replicate (N.length-j.length) .unb) (L2.start N vs):=by
 have f:=r.length;refine⟨by unfold L2.start;simp[f],λi a h=>?_⟩;by_cases hi:i<j.length
 ·rw[aW hi]at h;obtain⟨v,hv,d⟩:=r.get h;exact .inr ⟨v,by unfold L2.start;rw[aW<|by simp;lia,bE,hv];rfl,d⟩
 ·rw[c_ (),e_]at h;split at h
  ·exact .inl (aR h).symm
  ·cases h
section
variable {P:ah}{w:af}{K:az}{mg:Str->bd}{base:au}
def yH{x:Str}{st:aG}{f:aj}{N ps:ar}{k:Nat}{m:Sm}(F:Fun K x qual st f fd)(U:FnScope N ps<|g7 st)
  (body:∀(cdv:aa) (A:aA) (outer:List Env) (s:aE) (H:Hp) (E:XK),Room k (A.deeper<|envOfC qual (g7 st) s.heap.objs.size f cdv)->GF (vt rz P w K mg base N qual (g7 st) f cdv A outer s H E).Sz (j5 st) m) :
  FnOk P w K mg base rz (k+1) f fd ps (tu K ps.length<|jO N m):=by
 refine F.ok U (λvs H Q E h=>h.1) λcdv B outer s H vs Q E J ⟨O,ρ,S,p,a,L,R,va,d,q⟩=>⟨_,body cdv B outer s H E J,ρ,S,_,R,Eu va N,?_⟩;unfold jO at d
 cases g:m (p++List.replicate (N.length-p.length) .unb) S with
 | rt b j=>rw[g]at d;cases d;exact q
 | nx τ j=>rw[g]at d;cases d;exact λρ' H' C e G _=>q ρ' H' _ e G .non
 | bk τ j=>rw[g]at d;cases d
 | ct τ j=>rw[g]at d;cases d
 | ex c j=>rw[g]at d;cases d
 | no=>rw[g]at d;cases d
end
meta abbrev sR (P:ah)(w:af)(K:az)(mg:Str->bd)(base:au)(k:Nat)(x:Str)(ps:ar)(F:ae->gS->R A):Prop:=Kn P w K mg base k x ps<|tu K ps.length F
abbrev eFn (F:ae->gS->R A)(d:mK):Ex:=λτ S=>(d τ S).bind λg S1=>match F g S1 with
 | .ok a f=>.ok a f
 | _=>.no
section
variable {X:Cx}{pos p:Pos}{e:aF}{es:List aF}{x:Str}{ps:ar}{k:Nat}{F:ae->gS->R A}{d:mK}
def GR(G:sR X.prog X.w X.K X.mg X.base k x ps F)(U:Room k X.A)(Z:AL X (e::es) d)(hl:∀τ S as S',d τ S=.ok as S'->as.length=ps.length)(hg:Gl X x<|>ε)(L:(x == ("__debug__" : Str))=false<|>δ)
  (hs:starEach (e::es) X.env=(false,eval e X.env)::starEach es X.env<|>ε) (J:((backTo pos<|starEach es X.env).any (·.1)=false)<|>ε):AE X (.Call (.Name x p) (e::es) [] pos) (eFn F d):=
 PE.imp (SN G U Z hg L hs J) λσ H Q h9=>by
  room;refine⟨ρ,S,τ,R,r,?_⟩;have f:=gU h
  cases hd:d τ S with
  | no=>rw[hd]at f;exact f
  | ex c S1=>rw[hd]at f;exact f
  | ok as S1=>
   rw[hd]at f;intro ρ1 H1 vs e1 R1 v1;rw[bT];refine⟨by rw[<- v1.length];exact hl τ S as S1 hd,ρ1,S1,as,?_⟩;have f:Am.R.post (match F as S1 with
    | .ok a g=>.ok a g
    | _=>.no) (sF X ρ H Q) (XE X ρ H):=f
   cases m:F as S1 with
   | ok a g=>rw[m]at f;exact⟨a,g,R1,v1,rfl,λj H2 v e2=>f j H2 v<|e1.trans e2⟩
   | ex c g=>rw[m]at f;exact f.elim
   | no=>rw[m]at f;exact f.elim
def iV:∀τ S as S',gR τ S=.ok as S'->as.length=0:=λτ S as S' h=>by cases h;rfl
def iB{c:Ex}{d:mK}{n:Nat}(h:∀τ S as S',d τ S=.ok as S'->as.length=n):∀τ S as S',gK c d τ S=.ok as S'->as.length=n+1:=λτ S as S' e=>by
 unfold gK at e
 cases hc:c τ S with
 | ok a S1=>
  rw[hc]at e
  cases hd:d τ S1 with
  | ok bs f=>
   have e:R.bind (d τ S1) (λas f=>.ok (a::as) f)=.ok as S':=e;rw[hd]at e;cases e;rw[bq,h τ S1 bs _ hd]
  | ex _ _=>
   have e:R.bind (d τ S1) (λas f=>.ok (a::as) f)=.ok as S':=e;rw[hd]at e;cases e
  | no=>
   have e:R.bind (d τ S1) (λas f=>.ok (a::as) f)=.ok as S':=e;rw[hd]at e;cases e
 | ex _ _=>rw[hc]at e;cases e
 | no=>rw[hc]at e;cases e
end
section
variable {X:Cx}{pos:Pos}{a b c:aF}
abbrev VA (j:A->A->gS->R A)(J:Ex)(τ:ae)(b k:A)(S:gS):R A:=match k with
 | .bl true=>(J τ S).bind λc d=>j b c d
 | .bl false=>.ok (.bl false) S
 | _=>.no
abbrev JB (f j:A->A->gS->R A)(ca J L:Ex):Ex:=λτ S=>(ca τ S).bind λa S1=>(J τ S1).bind λb d=>(f a b d).bind λk g=>VA j L τ b k g
def HL{f Z:A->A->gS->R A}{ca cb cc:Ex}{H:Hp}{Q:VK}(h:tE X (JB f Z ca cb cc) σ H Q):CO (r2 X f) (r2 X Z) (tE X ca) (tE X cb) (tE X cc) σ H Q:=by
 gp_on;refine⟨ρ,S,τ,R,r,gP (gU h) .refl λa S1 h1 ρ1 H1 x e1 R1 v1=>⟨ρ1,S1,τ,R1,r.ext e1,gP (gU h1) e1 λb J K m H2 y e2 R2 G=>?_⟩⟩;have g:=e1.trans e2;refine⟨m,J,a,b,R2,v1.ext e2,G,gP (gU K) g λk L p j H3 z e3 F O=>?_⟩;have d:=g.trans e3
 cases k with
 | bl k=>
  cases wZ O
  refine⟨k,rfl,?_⟩
  cases k with
  | true=>
   rw[aT rfl];exact⟨j,L,τ,F,r.ext d,gP (gU p) d λc N P B V w C T U=>⟨B,N,b,c,T,G.ext<|e3.trans C,U,gP P (d.trans C) λ_ _ q=>q.ext<|d.trans C⟩⟩
  | false=>
   rw[aQ bh];exact p j H3 _ d F<|.bl false
 | _=>exact p.elim
def NZ{f J:A->A->gS->R A}{ca L U:Ex}(Z:kC X (compareOp op)<|r2 X f)(j:kC X (compareOp op')<|r2 X J)(ha:AE X a ca)(hb:AE X b L)(hc:AE X c U)(hm:lastMarks [op,op'] [b,c]=false<|>η) :
  AE X (.Compare a [op,op'] [b,c] pos) (JB f J ca L U):=PE.imp (IF Z j ha hb hc hm) λ_ _ _ h=>HL h
def RQ{f J:A->A->gS->R A}{ca L U:Ex}(Z:kC X (compareOp op)<|r2 X f)(j:kC X (compareOp op')<|r2 X J)(ha:AE X a ca)(hb:AE X b L)(hc:AE X c U)(hm:lastMarks [op,op'] [b,c]=false<|>η) :
  AT X (.Compare a [op,op'] [b,c] pos) (mF<|JB f J ca L U):=PT.imp (JY Z j ha hb hc hm) λσ H Q h9=>by
 room;refine HL ⟨ρ,S,τ,R,r,gP (gU h) .refl λc S1 h1 ρ1 H1 x e1 R1 v1=>?_⟩
 cases c with
 | bl k=>cases wZ v1;exact⟨k,rfl,h1 ρ1 H1 e1 R1⟩
 | _=>exact h1.elim
abbrev RB (S:gS)(x:A):ae->bi
 | []=>some false
 | z::zs=>(yy S 12 z x).bind λp=>(RB S x zs).map λq=>p || q
abbrev Qq (j:Bool)(x y:A)(S:gS):R A:=opt (y.seq S) λys=>opt (RB S x ys) λb=>.ok (.bl<|if j then !b else b) S
def Dj{H:Hp}{x:A}{v:aa}(I:Inv X pins σ H s)(R:Rel X.K ρ H S)(Z:X.A.units+64<cLine)(U:AV X.K ρ H x vx)(rx:RelV vx v) :
  ∀{ys:ae} {us:List V} {its:ba} {b:Bool},AVs X.K ρ H ys us->Vals us its->RB S x ys=some b->∃e:aa->Bool,(∀w∈its,SeqAt.EqAt X.A.in1 s w v<|e w)/\its.any e=b:=by
 intro ys
 induction ys with
 | nil=>
  intro us its b h1 j h
  cases h1
  cases j
  exact⟨λ_=>false,(λw hw=>by cases hw),aR h⟩
 | cons z zs k=>
  intro us its b h1 j h
  cases h1 with
  | cons L m=>
   rename_i u us
   cases j with
   | cons r J=>
    rename_i f its
    classical
    obtain⟨p,hp,h⟩:=bS.mp h;obtain⟨q,G,h⟩:=aV.mp h;obtain⟨e,g,B⟩:=k m J G;have h0:=(Eh I R 12 X.A.in1 z x u vx f v p (by rw[in1_units];omega) L U r rx hp).2.1;subst h
    cases p with
    | true=>
     refine⟨λw=>if w=f then true else e w,λw hw=>?_,?_⟩
     ·by_cases d:w=f
      ·dsimp[d,dD];exact h0
      ·dsimp[d,eN]
       rcases bG.mp hw with z|z
       ·exact absurd z d
       ·exact g w z
     ·simp
    | false=>
     by_cases C:f∈its
     ·refine⟨e,λw hw=>?_,?_⟩
      ·rcases bG.mp hw with z|z
       ·rw[z];exact g f C
       ·exact g w z
      ·rw[dW,B,Bool.false_or]
       cases q with
       | true=>simp
       | false=>
        have:=List.any_eq_false.mp B f C;simpa using this
     ·refine⟨λw=>if w=f then false else e w,λw hw=>?_,?_⟩
      ·by_cases d:w=f
       ·dsimp[d,dD];exact h0
       ·dsimp[d,eN]
        rcases bG.mp hw with z|z
        ·exact absurd z d
        ·exact g w z
      ·rw[dW,<- B];dsimp[dD,Bool.false_or];have:∀l:ba,(∀w∈l,w≠f)->l.any (λw=>if w=f then false else e w)=l.any e:=λl F=>by
        induction l with
        | nil=>rfl
        | cons c l k=>rw[dW,dW,k λw hw=>F w<|bf _ hw,aQ<|F c<|bw ..]
       exact this its λw hw z=>C<|z ▸ hw
def Rh(J:X.A.units+64<cLine):kC X (compareOp .In) (r2 X<|Qq false):=λpins s σ H x y v u Q I rx ry h9=>by
 w_up;obtain⟨ys,hy,h⟩:=gZ h;obtain⟨k,m,h⟩:=gZ h;obtain⟨p,us,rfl,hs,r⟩:=Ks R vb hy
 cases ry
 rcases hs with hs|hs
 ·obtain⟨d,f,pl,B⟩:=I.list hs;obtain⟨e,j,g⟩:=Dj I R J va rx r f m;refine SeqAt.in_listAt e pl.isList (λw hw=>j w<|by simpa using hw) ⟨.bl _,H,I,rfl,?_⟩;rw[show d.toArray.any e=d.any e by simp,g];exact h _ _ _ .refl R (.bl _)
 ·obtain⟨d,f,pl,B⟩:=I.tuple hs;obtain⟨e,j,g⟩:=Dj I R J va rx r f m;refine SeqAt.in_tupleAt e pl (λw hw=>j w<|by simpa using hw) ⟨.bl _,H,I,rfl,?_⟩;rw[show d.toArray.any e=d.any e by simp,g];exact h _ _ _ .refl R<|.bl _
end
section
variable {X:Cx}{pos apos cpos:Pos}{a b o e:aF}{es:List aF}
abbrev yE (x:A)(S:gS):R A:=match x with
 | .int i=>gd (i.natAbs.log2<1920) (.ok (.str<|toString i) S)
 | _=>.no
def JX:iQ X (.type "str") (rN X<|f1 yE):=iQ.imp yR λvs H Q h0=>by
 k_ne;clear h0
 cases hv with
 | int i=>
  obtain⟨hc,h⟩:=iy h;exact⟨i,rfl,hc,h _ _ _ .refl R<|.str _⟩
 | _=>exact h.elim
abbrev A.strs:ae->Option (ar)
 | []=>some []
 | .str i::xs=>(A.strs xs).map (i::·)
 | _=>none
def Mx{K:az}{H:Hp}:∀{xs:ae}{vs:List V}{bs:ar},AVs K ρ H xs vs->A.strs xs=some bs->vs=bs.map V.str:=by
 intro xs
 induction xs with
 | nil=>intro vs bs r e;cases e;cases r;rfl
 | cons x xs d=>
  intro vs bs r e
  cases x with
  | str z=>
   obtain⟨cs,e1,rfl⟩:=aV.mp (show(A.strs xs).map (z::·)=some bs from e)
   cases r with
   | cons h t=>cases h;rw[d t e1];rfl
  | _=>cases e
abbrev nP (o:A)(j:ae)(S:gS):R A:=match o,j with
 | .str z,[.ref n]=>opt (gQ S n) λxs=>opt (A.strs xs) λys=>gd ((ys.map (·.length)).sum+ys.length * z.length<=16777216) (.ok (.str<|Txt.join z ys) S)
 | _,_=>.no
def yV:Cb X "str.join" (rM X nP):=λpins s σ H x vs v us Q I rx j h9=>by
 obtain⟨ρ,S,o,g,R,d,va,h⟩:=h9
 cases d with
 | str z=>
  match g,va,h with
  | [],_,h=>exact h.elim
  | y::_::_,_,h=>exact(by cases y<;>exact h.elim)
  | [y],va,h=>
   obtain⟨w,rfl,hw⟩:=AX va
   cases hw with
   | @ref p n hp=>
    gn_on;obtain⟨ys,f,h⟩:=gZ h;obtain⟨k,h⟩:=iy h;obtain⟨vs,h1,r⟩:=R.lst hp<|ig hn;rw[Mx r f]at h1;exact Mz pins s σ H _ _ v us Q I rx j ⟨z,p,ys,rfl,rfl,mE.of h1,k,h _ _ _ .refl R<|.str _⟩
   | _=>exact h.elim
 | _=>exact h.elim
abbrev rT (o:A)(j:ae)(S:gS):R A:=match o,j with
 | .str y,[.str z]=>gd ((z.length == 0)=false/\y.length<=sizeLine/\(Txt.split y z).length<=sizeLine) (.ok (.ref S.length)<|S++[.lst<|(Txt.split y z).map .str])
 | _,_=>.no
theorem AJ{K:az}{H:Hp}:∀(ys:ar),AVs K ρ H (ys.map .str) (ys.map .str)
 | []=>.nil
 | y::ys=>.cons (.str y)<|AJ ys
def m_split:Cb X "str.split" (rM X rT):=λpins s σ H x vs v us Q I rx j h9=>by
 obtain⟨ρ,S,o,g,R,d,va,h⟩:=h9
 cases d with
 | str y=>
  match g,va,h with
  | [],_,h=>exact h.elim
  | w::_::_,_,h=>exact(by cases w<;>exact h.elim)
  | [w],va,h=>
   obtain⟨m,rfl,hw⟩:=AX va
   cases hw with
   | str z=>
    obtain⟨⟨h1,f,k⟩,h⟩:=iy h;exact Jw pins s σ H _ _ v us Q I rx j ⟨y,z,rfl,rfl,h1,f,k,kj R (AJ _) .refl h⟩
   | _=>exact h.elim
 | _=>exact h.elim
abbrev yT (o:A)(j:ae)(S:gS):R A:=match o,j with
 | .str y,[.str z]=>.ok (.bl<|0+z.length<=y.length && Builtin.Str.subAt y z 0) S
 | _,_=>.no
def JE:Cb X "str.startswith" (rM X yT):=λpins s σ H x vs v us Q I rx g h9=>by
 obtain⟨ρ,S,o,f,R,d,va,h⟩:=h9
 cases d with
 | str y=>
  match f,va,h with
  | [],_,h=>exact h.elim
  | w::_::_,_,h=>exact(by cases w<;>exact h.elim)
  | [w],va,h=>
   obtain⟨j,rfl,hw⟩:=AX va
   cases hw with
   | str z=>exact xQ pins s σ H _ _ v us Q I rx g ⟨y,z,rfl,rfl,h _ _ _ .refl R<|.bl _⟩
   | _=>exact h.elim
 | _=>exact h.elim
abbrev Cf (x y:A)(S:gS):R A:=match x,y with
 | .str i,.str j=>.ok (.bl<|!(Builtin.Str.occurrences j i 0 j.length 1).isEmpty) S
 | _,_=>.no
def NF:kC X (compareOp .In) (r2 X Cf):=kC.imp Fy λx y H Q h9=>by
 w_up
 cases va<;>first|exact h.elim|(cases vb<;>first|exact h.elim|exact⟨_,_,rfl,rfl,h _ _ _ .refl R<|.bl _⟩)
def A2{x:Str}{pos:Pos}(j:X.mg x=some (.str y t))(hg:Gl X x<|>ε)(hd:(x == ("__debug__" : Str))=false<|>δ):AE X (.Name x pos) (eC<|.str y):=
 PE.imp (qW (v:=.str y) hg j ⟨t,rfl⟩ hd) λσ H Q ⟨ρ,S,τ,R,r,h⟩=>h ρ H _ .refl R<|.str y
abbrev A.isStr:A->Bool
 | .str _=>true
 | _=>false
abbrev BR (f:A->ae->gS->R A)(co:Ex)(d:mK):Ex:=λτ S=>(co τ S).bind λo S1=>gd (o.isStr=true)<|(d τ S1).bind λj g=>f o j g
def wD{id:String}{f:A->ae->gS->R A}{co:Ex}{d:mK}(slot:Slot "str" name id)(hty:typeOf (.builtin id)=pure (.type "method_descriptor"))(hm:Cb X id<|rM X f)(ho:AE X o co)(ha:AL X (e::es) d)
  (L:attributeBase o name X.env (eval o X.env)=eval o X.env<|>ε)
  (Z:(((backTo cpos<|starEach (e::es) X.env).all (λx=>!x.1) && (backToKw cpos<|keywordEach [] X.env).all (λx=>x.1.isSome)
   && decide ((e::es).length+([]:List Keyword).length+(if ([]:List Keyword).isEmpty then 0 else 1)<30))=true)<|>ε)
  (U:(apos.endLine == cpos.line)=true<|>ε) (hs:starEach (e::es) X.env=(false,eval e X.env)::starEach es X.env<|>ε) (J:((backTo cpos<|starEach es X.env).any (·.1)=false)<|>ε) :
  AE X (.Call (.Attribute o name apos) (e::es) [] cpos) (BR f co d):=PE.imp (HK PySem.F.plainAttrs_str slot hty hm ho ha L Z U hs J) λσ H Q h9=>by
 room;ksr_p;obtain⟨B,h1⟩:=iy h1;have ty:Q9 X.K "str" v H1:=by
  cases v1 with
  | str z=>rfl
  | _=>cases B
 refine⟨ty,ρ1,S1,τ,R1,r.ext e1,gP (gU h1) e1 λp j m g H2 vs e2 R2 k=>?_⟩;exact⟨g,j,x,p,R2,v1.ext e2,k,gP m (e1.trans e2) λ_ _ z=>z.ext<|e1.trans e2⟩
end
abbrev zW (K:az)(n:Nat)(F:ae->gS->R A):Sp:=λvs H Q E=>vs.length=n/\∃ρ S f,Rel K ρ H S/\AVs K ρ H f vs/\(F f S).post (λa d=>∀ρ' H' v,Ext ρ ρ' H H'->Rel K ρ' H' d->AV K ρ' H' a v->Q v H') (λc d=>∀C ρ' H',wV K c C->Ext ρ ρ' H H'->Rel K ρ' H' d->E (.ref C) none H')
section
variable {P:ah}{w:af}{K:az}{mg:Str->bd}{base:au}
def Fun.Wm{x:Str}{st:aG}{f:aj}{N ps:ar}{k:Nat}{sp:Sp}(F:Fun K x qual st f fd)(S:FnScope N ps<|g7 st)(len:∀vs H Q E,sp vs H Q E->vs.length=ps.length)
  (hb:∀(cdv:aa) (A:aA) (outer:List Env) (s:aE) (H:Hp) (vs:List V) (Q:VK) (E:XK),Room k (A.deeper<|envOfC qual (g7 st) s.heap.objs.size f cdv)->sp vs H Q E->∃t,yD (vt (vj P w) P w K mg base N qual (g7 st) f cdv A outer s H E) (j5 st) t/\t { nx:=λ_ H'=>Q .non H',rt:=Q } (L2.start N vs) H):FnOk P w K mg base (vj P w) (k+1) f fd ps sp:=by
 obtain⟨oc,od,kV,doc,pm,an,cdv,ct,osl,rfl,m,d⟩:=F.ex;exact Ov m d S len λA outer s H vs Q E j g=>hb cdv A outer s H vs Q E j g
def fnX{x:Str}{st:aG}{f:aj}{N ps:ar}{k:Nat}{m:Sm}(F:Fun K x qual st f fd)(U:FnScope N ps<|g7 st)
  (body:∀(cdv:aa) (A:aA) (outer:List Env) (s:aE) (H:Hp) (E:XK),Room k (A.deeper<|envOfC qual (g7 st) s.heap.objs.size f cdv)->GF (vt (vj P w) P w K mg base N qual (g7 st) f cdv A outer s H E) (j5 st) m) :
  FnOk P w K mg base (vj P w) (k+1) f fd ps (zW K ps.length<|jO N m):=by
 refine Fun.Wm F U (λvs H Q E h=>h.1) λcdv B outer s H vs Q E J ⟨T,ρ,S,G,R,va,q⟩=>⟨_,body cdv B outer s H E J,ρ,S,_,R,Eu va N,?_⟩;unfold jO at q
 cases d:m (G++List.replicate (N.length-G.length) .unb) S with
 | rt b g=>rw[d]at q;exact q
 | nx τ g=>rw[d]at q;exact λρ' H' j e p _=>q ρ' H' _ e p .non
 | bk τ g=>rw[d]at q;exact q.elim
 | ct τ g=>rw[d]at q;exact q.elim
 | no=>rw[d]at q;exact q.elim
 | ex c g=>
  rw[d]at q;intro C ρ' H' n e p;exact λpins j s' O I L=>F1 I rfl L<|q C ρ' H' n e p
end
abbrev GD (P:ah)(w:af)(K:az)(mg:Str->bd)(base:au)(k:Nat)(x:Str)(ps:ar)(F:ae->gS->R A):Prop:=
 ∃(f:aj) (fd:FuncData),FnOk P w K mg base (vj P w) k f fd ps (zW K ps.length F)/\mg x=some (.ref f)/\PySem.W.keepIn K (.ref f)=true/\Binds K fd ps []
abbrev oG (F:ae->gS->R A)(d:mK):Ex:=λτ S=>(d τ S).bind λf S1=>F f S1
section
variable {X:Cx}{pos p:Pos}{e:aF}{es:List aF}{x:Str}{ps:ar}{k:Nat}{F:ae->gS->R A}{d:mK}
def GN(G:GD X.prog X.w X.K X.mg X.base k x ps F)(hr:Room k X.A)(ha:AL X (e::es) d)(hl:∀τ S as S',d τ S=.ok as S'->as.length=ps.length)(hg:Gl X x<|>ε)(Z:(x == ("__debug__" : Str))=false<|>δ)
  (hs:starEach (e::es) X.env=(false,eval e X.env)::starEach es X.env<|>ε) (U:((backTo pos<|starEach es X.env).any (·.1)=false)<|>ε):AE X (.Call (.Name x p) (e::es) [] pos) (oG F d):=by
 obtain⟨f,fd,J,N,L,B⟩:=G;refine PE.imp (Eo J hr hg N L B .nil (v9 (X:=X) rfl rfl) ha Z hs U) λσ H Q h9=>?_;room;refine⟨ρ,S,τ,R,r,?_⟩;have j:=gU h
 cases hd:d τ S with
 | no=>rw[hd]at j;exact j
 | ex c S1=>rw[hd]at j;exact j
 | ok as S1=>
  rw[hd]at j;intro ρ1 H1 vs e1 R1 v1;rw[bT];refine⟨by rw[<- v1.length];exact hl τ S as S1 hd,ρ1,S1,as,R1,v1,jE j (λa m q g H2 v e2=>q g H2 v<|e1.trans e2) λc m q C g H2 n e2=>q C g H2 n<|e1.trans e2⟩
end
abbrev M1:ba:=[.type "ValueError",.type "Exception",.type "BaseException",.type "object"]
def Js{K:az}{mg:Str->bd}{base:au}{x:Str}{C:aj}(M:Mod K mg base)(e:wV K x C)(q:PySem.W.excIn K C bmB newId=true):OwnCls x C bmB newId mg base:=by
 refine⟨bM M.kin M.glob e,?_⟩;unfold PySem.W.excIn at q;split at q
 ·rename_i dd cd g L;split at q
  ·rename_i O bm k0 k1 k2 k3 N k5 k hs;rw[cA,cA,cA,cA,cA]at q;obtain⟨⟨⟨⟨⟨f,B⟩,d⟩,G⟩,F⟩,j⟩:=q;have f:=d8.mp f;have B:=d8.mp B;have d:cd.hasDel=false:=by simpa using d
   have j:=d8.mp j;subst f B;obtain⟨nm,bs,m,ns,J,hd,sn,sub,ab,col,p⟩:=cd;have k:m=_:=k;have d:p=false:=d;subst k d;obtain⟨g⟩:=g;have hs:g=_:=hs;subst hs;exact⟨bm,ns,nm,J,bs,hd,sn,sub,ab,col,dd,k0,k1,k2,k3,k5,_,M.kin _ _ L,.of_isNs<|PySem.W.isNs_of_in M.kin F,PySem.W.nsMap_none_of_in M.kin F j,PySem.W.tail_of_in M.kin G⟩
  ·cases q
 ·cases q
abbrev LC:List (Str ⊕ Ex)->ae->gS->R Unit
 | [],_,S=>.ok Unit.unit S
 | .inl _::ps,τ,S=>LC ps τ S
 | .inr e::ps,τ,S=>(e τ S).bind λv S1=>match v with
  | .int i=>gd (i.natAbs.log2<64) (LC ps τ S1)
  | _=>.no
abbrev MI:List (Str ⊕ Ex)->Bool
 | []=>true
 | .inl x::ps=>decide (x.length<=1000) && MI ps
 | .inr _::ps=>MI ps
abbrev nh (c:Str)(ps:List<|Str ⊕ Ex):Sm:=λτ S=>.of (LC ps τ S) λ_ S1=>.ex c S1
abbrev QZ (X:Cx):List (Str ⊕ Ex)->List (Str ⊕ TE)
 | []=>[]
 | .inl x::ps=>.inl x::QZ X ps
 | .inr e::ps=>.inr (tE X e)::QZ X ps
section
variable {X:Cx}{pos np cpos fp:Pos}{x:Str}{C:aj}{e1 e2:aF}{es:List aF}{ps:List (Str ⊕ Ex)}
theorem uC{H0:Hp}{k:Hp->Prop}(c:Str)(j:∀ρ H S,Ext ρ0 ρ H0 H->Rel X.K ρ H S->XE X ρ0 H0 c S->k H):∀(ps:List<|Str ⊕ Ex) (ρ:bb) (H:Hp) (S:gS),MI ps=true->Ext ρ0 ρ H0 H->Rel X.K ρ H S->SR X.K ρ H τ σ ->
  (LC ps τ S).post (λ_ S'=>XE X ρ0 H0 c S') (XE X ρ0 H0)->xw (QZ X ps) σ H k
 | [],ρ,H,S,_,e,R,r,h=>j ρ H S e R h
 | .inl x::ps,ρ,H,S,ok,e,R,r,h=>by
  obtain⟨d,ok⟩:=Bool.and_eq_true_iff.mp ok;exact⟨d7 d,uC c j ps ρ H S ok e R r h⟩
 | .inr a::ps,ρ,H,S,ok,e,R,r,h=>by
  refine⟨ρ,S,τ,R,r,?_⟩;have h:=gU h;refine jE h (λv S1 h1 ρ1 H1 u e1 R1 v1=>?_) λf S' z=>z.ext e
  cases v with
  | int i=>
   obtain⟨hi,h1⟩:=iy h1
   cases v1
   exact⟨i,rfl,hi,uC c j ps ρ1 H1 S1 ok (e.trans e1) R1 (r.ext e1) h1⟩
  | _=>exact h1.elim
def FE(hn:wV X.K x C)(L:PySem.W.excIn X.K C M1 "ValueError.__new__" = true)(hh:X.A.handled=none)(hp:FParts X (e1::e2::es)<|QZ X ps)(j:MI ps=true<|>ε)(hg:Gl X x<|>ε)(U:2000 * (e1::e2::es).length<=sizeLine<|>δ)
  (hs:starEach [.JoinedStr (e1::e2::es) fp] X.env=(false,eval (.JoinedStr (e1::e2::es) fp) X.env)::starEach [] X.env<|>ε) (J:((backTo cpos<|starEach [] X.env).any (·.1)=false)<|>ε) (hd:(x == ("__debug__" : Str))=false<|>δ) :
  AS X (.Raise (some<|.Call (.Name x np) [.JoinedStr (e1::e2::es) fp] [] cpos) none pos) (nh x ps):=by
 intro pins s σ H D I ⟨ρ,S,τ,R,r,h⟩;refine wO (Js I.mod hn L) ef hh (lI (Tt hp U) qw hs) hg hs J hd pins s σ H D I ?_;refine uC (X:=X) (ρ0:=ρ) (H0:=H) x (λρ1 H1 S1 e1 R1 z y hy=>?_) ps ρ H S j .refl R r<|of_post h;exact⟨(show 1<=sizeLine by decide),z C ρ1 H1 hn e1 R1⟩
def lA{j tp}(hn:wV X.K x C)(L:PySem.W.excIn X.K C M1 "ValueError.__new__" = true)(hh:X.A.handled=none)(hg:Gl X x<|>ε)
  (hs:starEach [.Constant (.str t) j tp] X.env=(false,eval (.Constant (.str t) j tp) X.env)::starEach [] X.env<|>ε) (J:((backTo cpos<|starEach [] X.env).any (·.1)=false)<|>ε) (hd:(x == ("__debug__" : Str))=false<|>δ) :
  AS X (.Raise (some<|.Call (.Name x np) [.Constant (.str t) j tp] [] cpos) none pos) (nh x []):=by
 intro pins s σ H D I ⟨ρ,S,τ,R,r,h⟩;refine wO (Js I.mod hn L) ef hh (lI Ht qw hs) hg hs J hd pins s σ H D I ?_;exact⟨(show 1<=sizeLine by decide),h C ρ H hn .refl R⟩
end
abbrev M7 (i:Nat):RS->RS
 | .nx τ S=>.nx (τ.set i .unb) S
 | .bk τ S=>.bk (τ.set i .unb) S
 | .ct τ S=>.ct (τ.set i .unb) S
 | .rt a S=>.rt a S
 | _=>.no
abbrev Aw (i n:Nat)(cs:ar)(c d:Sm):Sm:=λτ S=>match c τ S with
 | .ex x S1=>if x∈cs then M7 i (d ((List.replicate n .unb).set i<|.exn x) S1)else .no
 | r=>r
def SR.unset{K:az}{H:Hp}{τ:ae}{σ:L2.St}(s:SR K ρ H τ σ):SR K ρ H (τ.set i .unb) (σ.set i none):=by
 refine⟨by simp[s.len],λj b e=>?_⟩;by_cases d:j=i
 ·subst d;have f:j<τ.length:=by
   have:=(aM.mp e).1;simpa using this
  rw[bz f]at e
  cases e
  exact .inl rfl
 ·rw[a_<|bP d]at e;rw[a_<|bP d];exact s.at j b e
section
variable {X:Cx}{pos np hp:Pos}{y n:Str}{Dc:aj}{i:Nat}{body suite:List aG}{b0:aG}{c d:Sm}{cs:ar}
def QT(hb:∀pn' xe',GF (X.oq pn' xe') body c)(hh:∀pn' e oe C,XO C oe->GF (X.hand pn' e oe) (b0::suite) d)(hN:X.N.Nodup)(hD:wV X.K y Dc)(mD:L2.mroIn X.K Dc=some M1)(hcs:∀x∈cs,∃C,wV X.K x C/\L2.mroIn X.K C=some (.ref Dc::M1))
  {ln:Nat} (hln:X.N.length=ln<|>ε) (hi:X.N[i]?=some n<|>ε) (hlo:X.env.scope.names.lookup n=some .local<|>ε) (hst:X.stack=X.env::X.outer<|>ε) (hf:X.env.frame=some X.env.locals<|>ε) (hex:X.ex=[]<|>ε) (hg:Gl X y<|>ε) (hdb:(y == ("__debug__" : Str))=false<|>δ) :
  AS X (.Try body [.ExceptHandler (some<|.Name y np) (some n) (b0::suite) hp] [] [] pos) (Aw i ln cs c d):=by
 subst hln;intro pins s σ H D I ⟨ρ,S,τ,R,r,h⟩;refine wpAny_Try_except ?_;have tl:τ.length=X.N.length:=by rw[r.len];exact I.len
 have P:∀xe',(∀x S1,c τ S=.ex x S1->XE (X.oq (X.pn++pins) xe') ρ H x S1)->mj (X.oq (X.pn++pins) xe') ρ H D (c τ S):=λxe' L=>by
  have h:mj X ρ H D (Aw i X.N.length cs c d τ S):=h;unfold Aw at h
  cases hc:c τ S with
  | nx k p=>rw[hc]at h;exact h
  | rt a p=>rw[hc]at h;exact h
  | bk k p=>rw[hc]at h;exact h
  | ct k p=>rw[hc]at h;exact h
  | no=>rw[hc]at h;exact h
  | ex x S1=>exact L x S1 hc
 refine b_ (hb (X.pn++pins) _ [] s σ H D (I.oq _) ⟨ρ,S,τ,R,r,P _ λx S1 hc C ρ1 H1 hn e1 R1=>?_⟩) (λf Z hs=>?_) λe Z z=>z
 ·intro pins' g s' e T m;have h:mj X ρ H D (Aw i X.N.length cs c d τ S):=h;unfold Aw at h;rw[hc]at h;have h:mj X ρ H D (if x∈cs then M7 i (d ((List.replicate X.N.length .unb).set i<|.exn x) S1)else .no):=h;by_cases L:x∈cs
  ·rw[aT L]at h;obtain⟨V,G,Y⟩:=hcs x L;have:V=C:=by
    have z:=G.symm.trans hn
    injection z with z
    injection z with z
    injection z
   subst this;have hm:X.mg y=some (.ref Dc):=bM I.mod.kin I.mod.glob hD;refine HG hst hf hex hN hi hlo hg hm mD ⋯ T m Y (by simp) (λoe s6 U O I6=>?_) I.ok hdb;obtain⟨ex,Rn⟩:=R1.im (u:=.frz oe xu) O;refine hh (X.pn++pins) e oe V U [] s6 _ _ (UB i D) I6 ⟨ρ1,S1,(List.replicate X.N.length .unb).set i<|.exn x,Rn,SR.set ⟨?_,λj b z=>?_⟩<|.exn G iF U,?_⟩
   ·rw[List.length_replicate];exact T.len.symm
   ·rw[e_]at z;split at z
    ·exact .inl (aR z).symm
    ·cases z
   ·have e2:=e1.trans ex
    cases hd:d ((List.replicate X.N.length .unb).set i<|.exn x) S1 with
    | nx k p=>rw[hd]at h;exact λρ' H' g F m B=>h ρ' H' _ (e2.trans F) m B.unset
    | bk k p=>rw[hd]at h;exact λρ' H' g F m B=>h ρ' H' _ (e2.trans F) m B.unset
    | ct k p=>rw[hd]at h;exact λρ' H' g F m B=>h ρ' H' _ (e2.trans F) m B.unset
    | rt a p=>rw[hd]at h;exact λρ' H' v F m B=>h ρ' H' v (e2.trans F) m B
    | ex _ _=>rw[hd]at h;exact h.elim
    | no=>rw[hd]at h;exact h.elim
  ·rw[aQ L]at h;exact h.elim
 ·cases f with
  | next=>obtain⟨g,H',J,q⟩:=hs;exact eT ⟨g,H',J.yp,q⟩
  | brk=>obtain⟨g,H',J,q⟩:=hs;exact⟨g,H',J.yp,q⟩
  | cont=>obtain⟨g,H',J,q⟩:=hs;exact⟨g,H',J.yp,q⟩
  | ret u=>obtain⟨v,g,H',J,rv,q⟩:=hs;exact⟨v,g,H',J.yp,rv,q⟩
end
abbrev jU (f:Str->bi)(c:Ex):Ex:=λτ S=>(c τ S).bind λv S1=>match v with
 | .exn x=>opt (f x) λb=>.ok (.bl b) S1
 | _=>.no
section
variable {X:Cx}{pos p py:Pos}{a:aF}{y:Str}{vy:V}{cy:aa}{f:Str->bi}{c:Ex}
def KA(ry:∀u,RelV vy u->u=cy)(hf:∀x b C,f x=some b->wV X.K x C->XCls X.K C/\(PySem.W.clsIn X.K C).isSome=true/\PySem.W.kitOne X.K (.ref C) cy=some b) :
  iQ X (.builtin "isinstance") (λxs H Q=>∃ρ S x v b,Rel X.K ρ H S/\xs=[v,vy]/\AV X.K ρ H (.exn x) v/\f x=some b/\Q (.bl b) H):=by
 intro pins s σ H xs us Q I r ⟨ρ,S,x,v,b,R,d,va,g,q⟩;subst d;obtain⟨u,p,rfl,r1,r2⟩:=vals2 r;have:=ry _ r2;subst this
 cases va with
 | exn n h k=>
  obtain⟨m,g2,j⟩:=hf _ _ _ g n
  cases(show u=Value.ref _ from r1)
  exact CV m g2 I h k j λtk=>⟨.bl b,H,I.tok tk,rfl,q⟩
def Ij(hy:PE X (.Name y py)<|tC vy)(ry:∀u,RelV vy u->u=cy)(hf:∀x b C,f x=some b->wV X.K x C->XCls X.K C/\(PySem.W.clsIn X.K C).isSome=true/\PySem.W.kitOne X.K (.ref C) cy=some b)(U:AE X a c)(Z:X.mg "isinstance" = none)(hg:Gl X "isinstance"<|>ε)
  (L:starEach [a,.Name y py] X.env=(false,eval a X.env)::starEach [.Name y py] X.env<|>ε) (j:starEach [.Name y py] X.env=(false,eval (.Name y py) X.env)::starEach [] X.env<|>ε) (J:((backTo pos<|starEach [.Name y py] X.env).any (·.1)=false)<|>ε) :
  AE X (.Call (.Name "isinstance" p) [a,.Name y py] [] pos) (jU f c):=
 PE.imp (AR (KA ry hf) hg Z ki (lI U (lI hy qw j) L) ⋯ ⋯ L J) λσ H Q h9=>by
  room;refine⟨ρ,S,τ,R,r,gP (gU h) .refl λv S1 h1 ρ1 H1 x e1 R1 v1=>?_⟩
  cases v with
  | exn n=>
   obtain⟨b,d,h1⟩:=gZ h1;exact⟨ρ1,S1,n,x,b,R1,rfl,v1,d,h1 ρ1 H1 _ e1 R1<|.bl b⟩
  | _=>exact h1.elim
end
def PL{X:Cx}{C:aj}(hh:X.A.handled=some (.ref e))(h0:X.H₀ e=some (.frz oe xu))(j:XO C oe):iQ X (.builtin "any") (rN X<|f1 BQ):=iQ.imp (FQ hh h0 j) λvs H Q h0=>by
 k_ne;clear h0
 cases hv with
 | @ref p n hp=>
  gn_on;obtain⟨bs,d,h⟩:=gZ h;obtain⟨vs,h1,r⟩:=R.lst hp<|ig hn;rw[B8 r d]at h1;exact⟨p,bs,rfl,mE.of h1,h _ _ _ .refl R<|.bl _⟩
 | _=>exact h.elim
structure ExcK (K:az)(U:aj)(c:Str)(C:aj):Prop where
 n:wV K c C
 q:PySem.W.excIn K C M1 "ValueError.__new__" = true
 r:L2.mroIn K C=some (.ref U::M1)
 x:XCls K C
 cl:(PySem.W.clsIn K C).isSome=true
 v:PySem.W.kitOne K (.ref C) (.type "ValueError")=some true
def xM:bootBuiltins "ValueError" = some (.type "ValueError"):=by decide +kernel
abbrev qU (tb:List<|Str×Bool):Str->bi:=λx=>tb.lookup x
def N_{K:az}{tb:List<|Str×Bool}(h:∀p∈tb,∃C,wV K p.1 C/\XCls K C/\(PySem.W.clsIn K C).isSome=true/\PySem.W.kitOne K (.ref C) cy=some p.2):∀x b C,qU tb x=some b->wV K x C->XCls K C/\(PySem.W.clsIn K C).isSome=true/\PySem.W.kitOne K (.ref C) cy=some b:=λx b C e n=>by
 obtain⟨f,d,g⟩:=h (x,b)<|b8 e;have:f=C:=by
  have z:=d.symm.trans n
  injection z with z
  injection z with z
  injection z
 subst this;exact g
section
variable {X:Cx}{pos p py:Pos}{a:aF}{y:Str}{Cy:aj}{tb:List (Str×Bool)}{c:Ex}
def wB(Z:X.mg y=some (.ref Cy))(h:∀p∈tb,∃C,wV X.K p.1 C/\XCls X.K C/\(PySem.W.clsIn X.K C).isSome=true/\PySem.W.kitOne X.K (.ref C) (.ref Cy)=some p.2)(ha:AE X a c)(hi:X.mg "isinstance" = none)(hg:Gl X "isinstance"<|>ε)(j:Gl X y<|>ε)(J:(y == ("__debug__" : Str))=false<|>δ)
  (he:starEach [a,.Name y py] X.env=(false,eval a X.env)::starEach [.Name y py] X.env<|>ε) (L:starEach [.Name y py] X.env=(false,eval (.Name y py) X.env)::starEach [] X.env<|>ε) (U:((backTo pos<|starEach [.Name y py] X.env).any (·.1)=false)<|>ε) :
  AE X (.Call (.Name "isinstance" p) [a,.Name y py] [] pos) (jU (qU tb) c):=Ij (vy:=.ref Cy) (cy:=.ref Cy) (qW j Z rfl J) (λu r=>r) (N_ h) ha hi hg he L U
def PC(U:X.mg "ValueError" = none)(h:∀p∈tb,∃C,wV X.K p.1 C/\XCls X.K C/\(PySem.W.clsIn X.K C).isSome=true/\PySem.W.kitOne X.K (.ref C) (.type "ValueError")=some p.2)(Z:AE X a c)(hi:X.mg "isinstance" = none)(hg:Gl X "isinstance"<|>ε)(j:Gl X "ValueError"<|>ε)
  (he:starEach [a,.Name "ValueError" py] X.env=(false,eval a X.env)::starEach [.Name "ValueError" py] X.env<|>ε) (J:starEach [.Name "ValueError" py] X.env=(false,eval (.Name "ValueError" py) X.env)::starEach [] X.env<|>ε) (L:((backTo pos<|starEach [.Name "ValueError" py] X.env).any (·.1)=false)<|>ε) :
  AE X (.Call (.Name "isinstance" p) [a,.Name "ValueError" py] [] pos) (jU (qU tb) c):=Ij (vy:=.ty "ValueError") (cy:=.type "ValueError") (E8 j U xM rfl ⋯ ⋯) (λu r=>r) (N_ h) Z hi hg he J L
end
abbrev SV (F:ae->gS->R A)(d:mK):Ex:=λτ S=>match d τ S with
 | .ok f S1=>F f S1
 | _=>.no
section
variable {d:mK}
abbrev SD (t:Te)(c d:Sm):Sm:=λτ S=>match t τ S with
 | .ok true S1=>c τ S1
 | .ok false S1=>d τ S1
 | _=>.no
end
abbrev Ou (i:Nat)(cs:ar)(c d:Sm):Sm:=λτ S=>match c τ S with
 | .ex x S1=>if x∈cs then M7 i (d (τ.set i<|.exn x) S1)else .no
 | r=>r
abbrev Tr:Sm:=λ_ _=>.no
def EF{st:aG}:AS X st Tr:=PS.imp Ig λD σ H ⟨ρ,S,τ,R,r,h⟩=>h.elim
def Gg{K:az}{H:Hp}{a:aj}{ns:ag}{F:ae->gS->R A}(j:MU H)(J:mE K H a<|ns.map V.int)(h:∃S',F [.frz<|ns.map .int] []=.ok (.bl true) S'):tu K 1 F [.ref a] H (λv _=>v=.bl true) λ_ _ _=>False:=by
 obtain⟨S',h⟩:=h;have fz:Fz K H a (ns.map V.int):=by
  rcases J with(h|⟨o,h⟩)|h
  ·rcases j a with z|⟨ob,xs,z⟩
   ·rw[h]at z;cases z
   ·rw[h]at z;cases z
  ·exact .inl ⟨o,h⟩
  ·exact .inr h
 exact⟨rfl,[],[],_,_,S',⟨rfl,List.nodup_nil,λn a o h=>by simp at h⟩,.cons (.frz fz<|qO ns) .nil,h,λρ' H' v _ _ hv=>wZ hv⟩
def E6{P:ba->Prop}(h:∀a0,P [a0]):∀us:ba,us.length=1->P us
 | [_],_=>h _
def BL{P:ba->Prop}(h:∀a0 a1,P [a0,a1]):∀us:ba,us.length=2->P us
 | [_,_],_=>h _ _
def PR{n:Nat}{us:ba}(h:us.length=n+1):∃a t,us=a::t/\t.length=n:=by
 cases us with
 | nil=>simp at h
 | cons a t=>exact⟨a,t,rfl,by simpa using h⟩
def VF{P:ba->Prop}(h:∀a0 a1 a2,P [a0,a1,a2]):∀us:ba,us.length=3->P us:=λus e=>by
 obtain⟨a0,f,rfl,e0⟩:=PR e;obtain⟨a1,d,rfl,e1⟩:=PR e0;obtain⟨a2,g,rfl,e2⟩:=PR e1
 cases List.length_eq_zero_iff.mp e2
 exact h _ _ _
end Am
namespace Am
open PySem L2
section
variable {α β:Type}{a b:A}{S S1:gS}{τ:ae}{x:α}
@[simp]def R.jl {f:α->gS->R β}:(R.ok x S).bind f=f x S:=rfl
@[simp]def R.Dg {f:α->gS->R β}{c:Str}:(R.ex c S:R α).bind f=.ex c S:=rfl
@[simp]def R.kG {f:α->gS->R β}:(R.ok x S).rF f=f x S:=rfl
@[simp]def RS.of_ok {f:α->gS->RS}:RS.of (R.ok x S) f=f x S:=rfl
@[simp]def RS.ND {f:α->gS->RS}{c:Str}:RS.of (R.ex c S:R α) f=.ex c S:=rfl
@[simp]def ie {f:β->R α}{y:β}:opt (some y) f=f y:=rfl
@[simp]def Eg {r:R α}:gd True r=r:=aT trivial
theorem jP{c:Prop}[Decidable c]{r:R α}(h:c):gd c r=r:=aT h
@[simp]def mG {i:Nat}:gJ i τ S=bif (τ.getD i .unb).jJ then .no else .ok (τ.getD i .unb) S:=by unfold gJ;cases(τ.getD i .unb).jJ<;>rfl
@[simp]def C_ {xs:ae}:A.jJ (.tup xs)=false:=rfl
@[simp]def Di {xs:ae}:A.jJ (.frz xs)=false:=rfl
@[simp]def Ft {i:Int}:A.jJ (.int i)=false:=rfl
@[simp]def Li {i:Bool}:A.jJ (.bl i)=false:=rfl
@[simp]def ES {i:Str}:A.jJ (.str i)=false:=rfl
@[simp]def DB {i:Nat}:A.jJ (.ref i)=false:=rfl
@[simp]def Es:A.jJ .non=false:=rfl
@[simp]def EJ {i j:Int}:A.jJ (.rng i j)=false:=rfl
@[simp]def Dv {c:Str}:A.jJ (.exn c)=false:=rfl
@[simp]def NN:eC a τ S=.ok a S:=rfl
abbrev Rw (f:A->A->gS->R A)(j:Ex)(τ:ae)(a:A)(S:gS):R A:=(j τ S).bind<|f a
@[simp]def DQ {f:A->A->gS->R A}{j:Ex}:Rw f j τ a S=(j τ S).bind (f a):=rfl
@[simp]def Dp {f:A->A->gS->R A}{ca j:Ex}:gT f ca j τ S=(ca τ S).bind (Rw f j τ):=rfl
@[simp]def Le {f:A->gS->R A}{ca:Ex}:GJ f ca τ S=(ca τ S).bind f:=rfl
@[simp]def DX {c:Ex}:o8 c τ S=(c τ S).bind λa S1=>opt (a.Oc S1) λb=>.ok b S1:=rfl
abbrev aB (a:A)(S:gS):R Bool:=match a with
 | .bl b=>.ok b S
 | _=>.no
@[simp]def NI {b:Bool}:aB (.bl b) S=.ok b S:=rfl
@[simp]def Hu {c:Ex}:mF c τ S=(c τ S).bind aB:=rfl
@[simp]def EB {c:Te}:pS c τ S=(c τ S).bind λb S1=>.ok (!b) S1:=rfl
abbrev Pj (d:Te)(τ:ae)(b:Bool)(S:gS):R Bool:=match b with|true=>d τ S|false=>.ok false S
abbrev Uh (d:Te)(τ:ae)(b:Bool)(S:gS):R Bool:=match b with|true=>.ok true S|false=>d τ S
@[simp]def Hv {d:Te}:Pj d τ true S=d τ S:=rfl
@[simp]def IU {d:Te}:Pj d τ false S=.ok false S:=rfl
@[simp]def Oo {d:Te}:Uh d τ true S=.ok true S:=rfl
@[simp]def Ox {d:Te}:Uh d τ false S=d τ S:=rfl
@[simp]def Dh {c d:Te}:xT c d τ S=(c τ S).bind (Pj d τ):=rfl
@[simp]def KJ {c d:Te}:GC c d τ S=(c τ S).bind (Uh d τ):=rfl
@[simp]def ER:lg τ S=.ok true S:=rfl
abbrev KW (d:Ex)(τ:ae)(a:A)(S:gS):R A:=match a with | .bl true=>d τ S | .bl false=>.ok (.bl false) S|_=>.no
abbrev Qf (d:Ex)(τ:ae)(a:A)(S:gS):R A:=match a with | .bl true=>.ok (.bl true) S | .bl false=>d τ S|_=>.no
@[simp]def ED {d:Ex}:KW d τ (.bl true) S=d τ S:=rfl
@[simp]def D9 {d:Ex}:KW d τ (.bl false) S=.ok (.bl false) S:=rfl
@[simp]def Lu {d:Ex}:Qf d τ (.bl true) S=.ok (.bl true) S:=rfl
@[simp]def J5 {d:Ex}:Qf d τ (.bl false) S=d τ S:=rfl
@[simp]def DM {c d:Ex}:qj c d τ S=(c τ S).bind (KW d τ):=by
 unfold qj
 cases c τ S with
 | ok a S1=>cases a<;>first|rfl|(rename_i b;cases b<;>rfl)
 | _=>rfl
@[simp]def Lo {c d:Ex}:VD c d τ S=(c τ S).bind (Qf d τ):=by
 unfold VD
 cases c τ S with
 | ok a S1=>cases a<;>first|rfl|(rename_i b;cases b<;>rfl)
 | _=>rfl
abbrev NR (a:A)(S:gS):R A:=match a with | .bl b=>.ok (.bl !b) S|_=>.no
@[simp]def Bj {b:Bool}:NR (.bl b) S=.ok (.bl !b) S:=rfl
@[simp]def Et {c:Ex}:CU c τ S=(c τ S).bind NR:=rfl
abbrev Qk (c d:Ex)(τ:ae)(b:Bool)(S:gS):R A:=match b with|true=>c τ S|false=>d τ S
@[simp]def Ib {c d:Ex}:Qk c d τ true S=c τ S:=rfl
@[simp]def HS {c d:Ex}:Qk c d τ false S=d τ S:=rfl
@[simp]def Kw {t:Te}{c d:Ex}:Q5 t c d τ S=(t τ S).bind (Qk c d τ):=rfl
@[simp]def Dq:gR τ S=.ok [] S:=rfl
abbrev CP (a:A)(j:ae)(S:gS):R (ae):=.ok (a::j) S
abbrev Nr (d:mK)(τ:ae)(a:A)(S:gS):R (ae):=(d τ S).bind<|CP a
@[simp]def yg {j:ae}:CP a j S=.ok (a::j) S:=rfl
@[simp]def BB {d:mK}:Nr d τ a S=(d τ S).bind (CP a):=rfl
@[simp]def xG {c:Ex}{d:mK}:gK c d τ S=(c τ S).bind (Nr d τ):=rfl
@[simp]def EU {d:mK}:Jq d τ S=(d τ S).bind λas S1=>gd (as.length<=sizeLine) (.ok (.tup as) S1):=rfl
@[simp]def DC {d:mK}:oQ d τ S=(d τ S).bind newL:=rfl
theorem j8{j:ae}(h:j.length<=16777216):newL j S=.ok (.ref S.length) (S++[.lst j]):=jP<|by rw[bD];exact h
@[simp]def BI {f:ae->gS->R A}{d:mK}:iA f d τ S=(d τ S).bind f:=rfl
abbrev T5 (r:R A):R A:=match r with
 | .ok a S=>.ok a S
 | _=>.no
@[simp]def KI:T5 (.ok a S)=.ok a S:=rfl
abbrev VQ (f:ae->gS->R A)(j:ae)(S:gS):R A:=T5<|f j S
@[simp]def Ji {f:ae->gS->R A}{j:ae}:VQ f j S=T5 (f j S):=rfl
@[simp]def Km {f:ae->gS->R A}{d:mK}:eFn f d τ S=(d τ S).bind (VQ f):=rfl
@[simp]def Nq {g:A->gS->R A}:f1 g [a] S=g a S:=rfl
@[simp]def Ow {g:A->A->gS->R A}:f2 g [a,b] S=g a b S:=rfl
abbrev Pe (h:Pt)(τ:ae)(a:A)(l:be)(S:gS):R A:=(h τ S).bind<|RI a l
abbrev Vm (l h:Pt)(τ:ae)(a:A)(S:gS):R A:=(l τ S).bind<|Pe h τ a
@[simp]def D_ {h:Pt}{l:be}:Pe h τ a l S=(h τ S).bind (RI a l):=rfl
@[simp]def Jo {l h:Pt}:Vm l h τ a S=(l τ S).bind (Pe h τ a):=rfl
@[simp]def KZ {c:Ex}{l h:Pt}:zl c l h τ S=(c τ S).bind (Vm l h τ):=rfl
@[simp]def z_:kW τ S=.ok none S:=rfl
abbrev VP (a:A)(S:gS):R (be):=match a with
 | .int i=>.ok (some i) S
 | _=>.no
@[simp]def E7 {i:Int}:VP (.int i) S=.ok (some i) S:=rfl
@[simp]def A4 {c:Ex}:kL c τ S=(c τ S).bind VP:=rfl
abbrev OD (f:A->ae->gS->R A)(d:mK)(τ:ae)(o:A)(S:gS)(_:ae):R A:=(d τ S).bind<|f o
abbrev Vb (f:A->ae->gS->R A)(d:mK)(τ:ae)(o:A)(S:gS):R A:=opt (o.lst? S)<|OD f d τ o S
@[simp]def EM {f:A->ae->gS->R A}{d:mK}{xs:ae}:OD f d τ a S xs=(d τ S).bind (f a):=rfl
@[simp]def Ly {f:A->ae->gS->R A}{d:mK}:Vb f d τ a S=opt (a.lst? S) (OD f d τ a S):=rfl
@[simp]def Ky {f:A->ae->gS->R A}{c:Ex}{d:mK}:PN f c d τ S=(c τ S).bind (Vb f d τ):=rfl
@[simp]def C9 {f:A->ae->gS->R A}{c:Ex}:FH f c τ S=(c τ S).bind λo S1=>opt (o.lst? S1) λ_=>f o [] S1:=rfl
@[simp]def lst?_ref {n:Nat}:A.lst? S (.ref n)=gQ S n:=rfl
abbrev RS.seq (r:RS)(d:Sm):RS:=match r with
 | .nx τ S=>d τ S
 | r=>r
@[simp]def RS.BS {d:Sm}:RS.seq (.nx τ S) d=d τ S:=rfl
@[simp]def RS.Jm {d:Sm}:RS.seq (.rt a S) d=.rt a S:=rfl
@[simp]def RS.KP {d:Sm}{c:Str}:RS.seq (.ex c S) d=.ex c S:=rfl
@[simp]def RS.Jh {d:Sm}:RS.seq (.bk τ S) d=.bk τ S:=rfl
@[simp]def RS.G8 {d:Sm}:RS.seq (.ct τ S) d=.ct τ S:=rfl
@[simp]def qT {c d:Sm}:ir c d τ S=RS.seq (c τ S) d:=by unfold ir RS.seq;cases c τ S<;>rfl
@[simp]def Ez:jF τ S=.nx τ S:=rfl
@[simp]def yi:QG τ S=.bk τ S:=rfl
@[simp]def Bd:S0 τ S=.ct τ S:=rfl
@[simp]def Ao {e:Ex}:pR e τ S=RS.of (e τ S) λ_ S1=>.nx τ S1:=rfl
@[simp]def Ey {e:Ex}:iN e τ S=RS.of (e τ S) .rt:=rfl
@[simp]def Ar:Rj τ S=.rt .non S:=rfl
abbrev TY (c d:Sm)(τ:ae)(b:Bool)(S:gS):RS:=match b with|true=>c τ S|false=>d τ S
@[simp]def NU {c d:Sm}:TY c d τ true S=c τ S:=rfl
@[simp]def NX {c d:Sm}:TY c d τ false S=d τ S:=rfl
@[simp]def HY {t:Te}{c d:Sm}:om t c d τ S=RS.of (t τ S) (TY c d τ):=rfl
abbrev Rk (g:Tg)(τ:ae)(a:A)(S:gS):RS:=RS.of (g a τ S) .nx
@[simp]def Ed {g:Tg}:Rk g τ a S=RS.of (g a τ S) .nx:=rfl
@[simp]def Ea {e:Ex}{g:Tg}:iO e g τ S=RS.of (e τ S) (Rk g τ):=rfl
@[simp]def Ug {i:Nat}:jc i a τ S=.ok (τ.set i a) S:=rfl
abbrev PY (a o:A)(τ:ae)(i:A)(S:gS):R (ae):=(Bk o i a S).bind λ_ d=>.ok τ d
abbrev Vw (j:Ex)(τ:ae)(a o:A)(S:gS):R (ae):=(j τ S).bind<|PY a o τ
@[simp]def DE {o i:A}:PY a o τ i S=(Bk o i a S).bind λ_ S3=>.ok τ S3:=rfl
@[simp]def GS {j:Ex}{o:A}:Vw j τ a o S=(j τ S).bind (PY a o τ):=rfl
@[simp]def IE {co j:Ex}:Ni co j a τ S=(co τ S).bind (Vw j τ a):=rfl
@[simp]def K_ {n:Nat}{gs:LJ}{xs:ae}:LH n gs (.tup xs) τ S=gd (xs.length=n) (gs xs τ S):=rfl
@[simp]def Jl:LF [] τ S=.ok τ S:=rfl
@[simp]def Hf {g:Tg}{gs:LJ}{j:ae}:zV g gs (a::j) τ S=(g a τ S).bind (gs j):=rfl
abbrev VN (i j:Nat)(τ:ae)(J:ae)(S:gS):RS:=match J with
 | [a,b]=>.nx ((τ.set i a).set j b) S
 | _=>.no
@[simp]def Ld {i j:Nat}:VN i j τ [a,b] S=.nx ((τ.set i a).set j b) S:=rfl
@[simp]def Fg {i j:Nat}{c:mK}:Us i j c τ S=RS.of (c τ S) (VN i j τ):=rfl
abbrev IL (i:Nat)(τ:ae)(c:A)(S:gS):RS:=.nx (τ.set i c) S
abbrev RX (i:Nat)(f:A->A->gS->R A)(τ:ae)(b:A)(S:gS):RS:=.of (f (τ.getD i .unb) b S)<|IL i τ
@[simp]def AH {i:Nat}:IL i τ a S=.nx (τ.set i a) S:=rfl
@[simp]def E1 {i:Nat}{f:A->A->gS->R A}:RX i f τ a S=.of (f (τ.getD i .unb) a S) (IL i τ):=rfl
@[simp]def EI {i:Nat}{f:A->A->gS->R A}{e:Ex}:S_ i f e τ S=bif (τ.getD i .unb).jJ then .no else .of (e τ S) (RX i f τ):=by
 unfold S_;cases(τ.getD i .unb).jJ<;>rfl
abbrev UL (o i:A)(τ:ae)(z:A)(S:gS):RS:=.of (Bk o i z S) λ_ d=>.nx τ d
abbrev UZ (f:A->A->gS->R A)(o i x:A)(τ:ae)(y:A)(S:gS):RS:=.of (f x y S)<|UL o i τ
abbrev UR (j:Ex)(f:A->A->gS->R A)(o i:A)(τ:ae)(x:A)(S:gS):RS:=.of (j τ S)<|UZ f o i x τ
abbrev UT (j:Ex)(f:A->A->gS->R A)(o:A)(τ:ae)(i:A)(S:gS):RS:=.of (Mf o i S)<|UR j f o i τ
abbrev Vy (j J:Ex)(f:A->A->gS->R A)(τ:ae)(o:A)(S:gS):RS:=.of (j τ S)<|UT J f o τ
@[simp]def Ja {o i:A}:UL o i τ a S=.of (Bk o i a S) λ_ S6=>.nx τ S6:=rfl
@[simp]def JP {f:A->A->gS->R A}{o i x:A}:UZ f o i x τ a S=.of (f x a S) (UL o i τ):=rfl
@[simp]def IG {j:Ex}{f:A->A->gS->R A}{o i:A}:UR j f o i τ a S=.of (j τ S) (UZ f o i a τ):=rfl
@[simp]def Ih {j:Ex}{f:A->A->gS->R A}{o:A}:UT j f o τ a S=.of (Mf o a S) (UR j f o a τ):=rfl
@[simp]def HC {j J:Ex}{f:A->A->gS->R A}:Vy j J f τ a S=.of (j τ S) (UT J f a τ):=rfl
@[simp]def AF {co j J:Ex}{f:A->A->gS->R A}:SH co j J f τ S=RS.of (co τ S) (Vy j J f τ):=rfl
abbrev RS.end (r:RS):R A:=match r with
 | .rt a d=>.ok a d
 | .nx _ d=>.ok .non d
 | .ex c d=>.ex c d
 | _=>.no
@[simp]def RS.JQ:RS.end (.rt a S)=.ok a S:=rfl
@[simp]def RS.Ik:RS.end (.nx τ S)=.ok .non S:=rfl
@[simp]def RS.KL {c:Str}:RS.end (.ex c S)=.ex c S:=rfl
theorem vL {N:ar}{m:Sm}{j:ae}:jO N m j S=RS.end (m (j++List.replicate (N.length-j.length) .unb) S):=by
 unfold jO RS.end;cases m (j++List.replicate (N.length-j.length) .unb) S<;>rfl
@[simp]def Lp {i j:Int}:iK (.int i) (.int j) S=.ok (.int<|i+j) S:=rfl
@[simp]def KN {i j:Int}:aSub (.int i) (.int j) S=.ok (.int<|i-j) S:=rfl
@[simp]def IT {i j:Int}:UU (.int i) (.int j) S=.ok (.int<|i+j) S:=rfl
theorem El{i j:Int}(h:-18446744073709551616<i)(h':i<18446744073709551616):pO (.int i) (.int j) S=.ok (.int<|i * j) S:=jP<|by unfold Ae;simp;left;exact⟨by omega,by omega⟩
def mul_r{i j:Int}(h:-18446744073709551616<j)(h':j<18446744073709551616):pO (.int i) (.int j) S=.ok (.int<|i * j) S:=jP<|by unfold Ae;simp;right;exact⟨(),()⟩
def zQ{i j:Int}(h:0<j)(h':j<1073741824):w_ (.int i) (.int j) S=.ok (.int<|i / j) S:=jP ⟨h,()⟩
def vg{i j:Int}(h:0<j):rg (.int i) (.int j) S=.ok (.int<|i % j) S:=jP h
@[simp]def Oj {i j:Int}:Q4 (.int i) (.int j) S=.ok (.bl<|decide<|i<j) S:=rfl
@[simp]def Ny {i j:Int}:GH (.int i) (.int j) S=.ok (.bl<|decide<|i<=j) S:=rfl
@[simp]def Oa {i j:Int}:GI (.int i) (.int j) S=.ok (.bl<|decide<|j<i) S:=rfl
@[simp]def Nx {i j:Int}:Mt (.int i) (.int j) S=.ok (.bl<|decide<|j<=i) S:=rfl
@[simp]def NQ {i j:Bool}:Ck false (.bl i) (.bl j) S=.ok (.bl<|i == j) S:=rfl
@[simp]def HH {i j:Bool}:Ck true (.bl i) (.bl j) S=.ok (.bl<|i != j) S:=rfl
@[simp]def JI {i:Int}:GA (.int i) S=.ok (.int<|-i) S:=rfl
@[simp]def Kx {xs:ae}:lu (.tup xs) S=.ok (.int xs.length) S:=rfl
@[simp]def JV {xs:ae}:lu (.frz xs) S=.ok (.int xs.length) S:=rfl
@[simp]def G7 {n:Nat}:lu (.ref n) S=opt (gQ S n) λxs=>.ok (.int xs.length) S:=rfl
@[simp]def JC {i:Int}:P_ (.int i) S=.ok (.int<|if i<0 then -i else i) S:=rfl
@[simp]def DY {i j:Int}:RH (.int i) (.int j) S=.ok (.int<|if j>i then j else i) S:=rfl
@[simp]def EN {i j:Int}:Th (.int i) (.int j) S=.ok (.int<|if j<i then j else i) S:=rfl
@[simp]def DG {i:Int}:wQ (.int i) S=.ok (.int i) S:=rfl
@[simp]def E_ {i:Bool}:wQ (.bl i) S=.ok (.int<|if i then 1 else 0) S:=rfl
@[simp]def yF {i j:Int}:sQ (.int i) (.int j) S=.ok (.rng i j) S:=rfl
@[simp]def Nn {xs:ae}{i:Int}:jv (.tup xs) (.int i) S=opt (oA xs i) λx=>.ok x S:=rfl
@[simp]def NS {xs:ae}{i:Int}:jv (.frz xs) (.int i) S=opt (oA xs i) λx=>.ok x S:=rfl
@[simp]def Oq {n:Nat}{i:Int}:jv (.ref n) (.int i) S=opt (gQ S n) λxs=>opt (oA xs i) λx=>.ok x S:=rfl
@[simp]def J8 {n:Nat}{k:Int}:Bk (.ref n) (.int k) a S=opt (gQ S n) λxs=>opt (zj xs.length k) λj=>.ok Unit.unit (S.set n<|.lst<|xs.set j a):=rfl
@[simp]def J1 {n:Nat}{i:Int}:Mf (.ref n) (.int i) S=opt (gQ S n) λxs=>gd (0<=i) (opt (xs[i.toNat]?) λx=>.ok x S):=rfl
theorem uA{i j:Int}(h:yq i j):tD (.rng i j) S=.ok (.ref S.length) (S++[.lst<|(jj i j).map .int]):=jP h
@[simp]def Du {xs:ae}:tD (.tup xs) S=.ok (.ref S.length) (S++[.lst xs]):=rfl
@[simp]def DZ {xs:ae}:tD (.frz xs) S=.ok (.ref S.length) (S++[.lst xs]):=rfl
@[simp]def Fp {n:Nat}:tD (.ref n) S=opt (gQ S n) λxs=>.ok (.ref S.length) (S++[.lst xs]):=rfl
@[simp]def Az {xs:ae}:n9 (.tup xs) S=.ok (.tup xs) S:=rfl
@[simp]def Ac {n:Nat}:n9 (.ref n) S=opt (gQ S n) λxs=>.ok (.tup xs) S:=rfl
@[simp]def KH {xs:ae}:JF (.tup xs) S=.ok (.tup xs.reverse) S:=rfl
@[simp]def Ka {n:Nat}:JF (.ref n) S=opt (gQ S n) λxs=>.ok (.ref S.length) (S++[.lst xs.reverse]):=rfl
@[simp]def Om {n:Nat}{l u:be}:RI (.ref n) l u S=opt (gQ S n) λxs=>.ok (.ref S.length) (S++[.lst<|nH xs l u]):=rfl
@[simp]def vY {n:Nat}:mP (.ref n) [a] S=opt (gQ S n) λxs=>gd (xs.length<sizeLine) (.ok .non<|S.set n<|.lst<|xs++[a]):=rfl
@[simp]def Jb {b:Bool}:A.Oc (.bl b) S=some b:=rfl
@[simp]def Fl {i:Int}:A.Oc (.int i) S=some (i != 0):=rfl
theorem Qy{o:O}:(S++[o])[S.length]?=some o:=by simp
@[simp]def iu {xs:ae}:gQ (S++[.lst xs]) S.length=some xs:=sW Qy
theorem kR{o:O}{n:Nat}(h:gQ S n=some xs):gQ (S++[o]) n=some xs:=by
 have h':=ig h;exact sW<|by rw[aW (aM.mp h').1];exact h'
def iP{n:Nat}(h:gQ S n=some xs):n<S.length:=(aM.mp<|ig h).1
def j4{n:Nat}(h:n<S.length):gQ (S.set n<|.lst ys) n=some ys:=sW<|bz h
def mV{n:Nat}(h:n≠m):gQ (S.set n<|.lst ys) m=gQ S m:=by unfold gQ;rw[a_ h]
def BW{xs:ae}{i:Int}{k:Nat}{x:A}(h:i=k)(j:xs[k]?=some x):oA xs i=some x:=by rw[h];exact Mi j
def oJ{n:Nat}{i:Int}{k:Nat}(h:i=k)(j:k<n):zj n i=some k:=by
 subst h;unfold zj;rw[aT (),aT ()];simp
end
structure Kp (b:Nat->Prop)(S S':gS):Prop where
 len:S.length<=S'.length
 obj:∀(n:Nat) (o:O),¬b n->S[n]?=some o->S'[n]?=some o
meta abbrev jH:=Kp λ_=>False
def Kp.lst{b:Nat->Prop}(h:Kp b S S')(n:Nat)(xs:ae)(hb:¬b n)(e:gQ S n=some xs):gQ S' n=some xs:=sW<|h.obj n _ hb<|ig e
def Kp.refl{b:Nat->Prop}:Kp b S S:=⟨aO _,λ_ _ _ h=>h⟩
def Kp.trans{b:Nat->Prop}(h:Kp b S S1)(h':Kp b S1 S2):Kp b S S2:=⟨bN h.len h'.len,λn xs d e=>h'.obj n xs d<|h.obj n xs d e⟩
def jM{S:gS}{n:Nat}(e:S[n]?=some o):n<S.length:=(aM.mp e).1
def Kp.lay{b:Nat->Prop}{o:O}(h:Kp b S S1):Kp b S (S1++[o]):=⟨bN h.len<|by simp,λn xs d e=>by
 have:=h.obj n xs d e;rw[aW<|jM this];exact this⟩
def Kp.vF{b:Nat->Prop}{S S1:gS}(h:Kp b S S1)(j:b m\/S.length<=m):Kp b S (S1.set m o):=⟨by rw[bL];exact h.len,λn xs d e=>by
 have:m≠n:=λz=>by
  subst z
  rcases j with z|z
  ·exact d z
  ·exact absurd (jM e) ()
 rw[a_ this];exact h.obj n xs d e⟩
def Kp.set{b:Nat->Prop}{S S1:gS}(h:Kp b S S1)(j:b m\/S.length<=m):Kp b S (S1.set m<|.lst ys):=h.vF j
def Kp.mono{b c:Nat->Prop}{S:gS}(h:Kp b S S1)(hb:∀n,n<S.length->b n->c n):Kp c S S1:=⟨h.len,λn xs hc e=>h.obj n xs (λz=>hc<|hb n (jM e) z) e⟩
def Kp.of0{b:Nat->Prop}(h:jH S S1):Kp b S S1:=h.mono λ_ _ z=>z.elim
theorem wN{t:Te}{c:Sm}(Inv:ae->gS->Prop)(J:ae->gS->Nat)(j:RS->Prop)
  (h:∀τ S,Inv τ S->(∃S1,t τ S=.ok false S1/\j (.nx τ S1))\/(∃S1,t τ S=.ok true S1/\((∃τ' S',c τ S1=.nx τ' S'/\Inv τ' S'/\J τ' S'<J τ S)\/(∃a S',c τ S1=.rt a S'/\j (.rt a S'))))) :
  ∀n τ S,Inv τ S->J τ S<n->j (kN t c n τ S)
 | 0,_,_,_,hn=>absurd hn (Nat.not_lt_zero _)
 | n+1,τ,S,hi,hn=>by
  unfold kN
  rcases h τ S hi with⟨S1,e,q⟩|⟨S1,e,⟨τ',S',e2,d,f⟩|⟨a,S',e2,q⟩⟩
  ·rw[e];exact q
  ·rw[e];show j (match c τ S1 with
    | .nx τ' S'=>kN t c n τ' S'
    | .ct τ' S'=>kN t c n τ' S'
    | .bk τ' S'=>.nx τ' S'
    | r=>r)
   rw[e2];exact wN Inv J j h n τ' S' d ()
  ·rw[e];show j (match c τ S1 with
    | .nx τ' S'=>kN t c n τ' S'
    | .ct τ' S'=>kN t c n τ' S'
    | .bk τ' S'=>.nx τ' S'
    | r=>r)
   rw[e2];exact q
theorem zT{s:Src}{g:Tg}{c:Sm}(Inv:Nat->ae->gS->Prop)(j:RS->Prop)
  (step:∀i τ S,i<s.k->Inv i τ S->∃x τ1 S1,s.get i S=some x/\g x τ S=.ok τ1 S1/\((∃τ' S',c τ1 S1=.nx τ' S'/\Inv (i+1) τ' S')\/(∃a S',c τ1 S1=.rt a S'/\j (.rt a S'))))
  (fin:∀τ S,Inv s.k τ S->s.fin S=true/\j (.nx τ S)):∀k i τ S,k+i=s.k->Inv i τ S->j (nR s g c k i τ S)
 | 0,i,τ,S,hk,hi=>by
  have:i=s.k:=()
  subst this;obtain⟨hf,q⟩:=fin τ S hi;unfold nR;rw[aT hf];exact q
 | k+1,i,τ,S,hk,hi=>by
  obtain⟨x,τ1,S1,f,hg,h⟩:=step i τ S () hi;unfold nR;rw[f];show j (RS.of (g x τ S) λτ1 S1=>match c τ1 S1 with
   | .nx τ' S'=>nR s g c k (i+1) τ' S'
   | .ct τ' S'=>nR s g c k (i+1) τ' S'
   | .bk τ' S'=>.nx τ' S'
   | r=>r)
  rw[hg];show j (match c τ1 S1 with
   | .nx τ' S'=>nR s g c k (i+1) τ' S'
   | .ct τ' S'=>nR s g c k (i+1) τ' S'
   | .bk τ' S'=>.nx τ' S'
   | r=>r)
  rcases h with⟨τ',S',e,d⟩|⟨a,S',e,q⟩
  ·rw[e];exact zT Inv j step fin k (i+1) τ' S' () d
  ·rw[e];exact q
def tW{lo hi:Int}{c:Sm}{src:Ic}{τ:ae}(hs:src τ S=.ok (qv lo hi) S1)(Inv:Nat->ae->gS->Prop)(J:RS->Prop)(h0:Inv 0 τ S1)
  (step:∀(i:Nat) τ S,(i:Int)<hi-lo->Inv i τ S->(∃τ' S',c (τ.set j<|.int<|lo+i) S=.nx τ' S'/\Inv (i+1) τ' S')\/(∃a S',c (τ.set j<|.int<|lo+i) S=.rt a S'/\J (.rt a S')))
  (L:∀τ S,Inv (hi-lo).toNat τ S->J (.nx τ S)):J (oY src (jc j) c τ S):=by
 unfold oY;rw[hs];refine zT (s:=qv lo hi) Inv J (λi τ S d h=>?_) (λτ S h=>⟨rfl,L τ S h⟩) _ 0 τ S1 rfl h0;have d:i<(hi-lo).toNat:=d;exact⟨.int<|lo+i,_,S,aT d,rfl,step i τ S (by omega) h⟩
def P5{xs:ae}{g:Tg}{c:Sm}{src:Ic}(hs:src τ S=.ok (Ag xs) S1)(Inv:Nat->ae->gS->Prop)(j:RS->Prop)(h0:Inv 0 τ S1)
  (step:∀(i:Nat) x τ S,xs[i]?=some x->Inv i τ S->∃τ1 S1,g (.tup [.int i,x]) τ S=.ok τ1 S1/\((∃τ' S',c τ1 S1=.nx τ' S'/\Inv (i+1) τ' S')\/(∃a S',c τ1 S1=.rt a S'/\j (.rt a S'))))
  (J:∀τ S,Inv xs.length τ S->j (.nx τ S)):j (oY src g c τ S):=by
 unfold oY;rw[hs];refine zT (s:=Ag xs) Inv j (λi τ S d h=>?_) (λτ S h=>⟨rfl,J τ S h⟩) _ 0 τ S1 rfl h0;have d:i<xs.length:=d;obtain⟨τ1,S1,e,q⟩:=step i xs[i] τ S (aN d) h;exact⟨.tup [.int i,xs[i]],τ1,S1,by show(xs[i]?).map _=_;rw[aN d];rfl,e,q⟩
def Er{n:Nat}{xs:ae}{g:Tg}{c:Sm}{src:Ic}(hs:src τ S=.ok (kM n xs.length) S1)(Inv:Nat->ae->gS->Prop)(j:RS->Prop)(h0:Inv 0 τ S1)(L:∀i τ S,Inv i τ S->gQ S n=some xs)
  (step:∀(i:Nat) x τ S,xs[i]?=some x->Inv i τ S->∃τ1 S1,g x τ S=.ok τ1 S1/\((∃τ' S',c τ1 S1=.nx τ' S'/\Inv (i+1) τ' S')\/(∃a S',c τ1 S1=.rt a S'/\j (.rt a S'))))
  (J:∀τ S,Inv xs.length τ S->j (.nx τ S)):j (oY src g c τ S):=by
 unfold oY;rw[hs];refine zT (s:=kM n xs.length) Inv j (λi τ S d h=>?_) (λτ S h=>⟨?_,J τ S h⟩) _ 0 τ S1 rfl h0
 ·have d:i<xs.length:=d;obtain⟨τ1,S1,e,q⟩:=step i xs[i] τ S (aN d) h;exact⟨xs[i],τ1,S1,by show(gQ S n).bind _=_;rw[L i τ S h];exact aN d,e,q⟩
 ·show(match gQ S n with
   | some ys=>decide (ys.length<=xs.length)
   | none=>false)=true
  rw[L _ τ S h];exact bF<|aO _
@[simp]def tR {c:Ex}{τ:ae}{S S1:gS}{j:Int}(h:c τ S=.ok (.int j) S1)(hb:bnd j):tV c τ S=.ok (qv 0 j) S1:=by
 unfold tV;rw[h];exact jP hb
def HQ{c d:Ex}{i j:Int}(h:c τ S=.ok (.int i) S1)(h':d τ S1=.ok (.int j) S2)(hb:bnd i)(J:bnd j):yw c d τ S=.ok (qv i j) S2:=by
 unfold yw;rw[h];show(d τ S1).bind _=_;rw[h'];exact jP ⟨hb,J⟩
def CF{c:Ex}(h:c τ S=.ok (.tup xs) S1):lq c τ S=.ok (j_ xs) S1:=by unfold lq;rw[h];rfl
def ud{c:Ex}{n:Nat}{xs:ae}(h:c τ S=.ok (.ref n) S1)(j:gQ S1 n=some xs):lq c τ S=.ok (kM n xs.length) S1:=by
 unfold lq;rw[h];show opt (gQ S1 n) _=_;rw[j];rfl
def Pf{c:Ex}(h:c τ S=.ok (.tup xs) S1):LM c τ S=.ok (Ag xs) S1:=by unfold LM;rw[h];rfl
theorem vR{s:Src}{g:Tg}{t:Te}{e:Ex}{P:gS->Prop}{T:ae->Prop}(it:Nat->A)(p:Nat->Bool)(f:Nat->A)
  (J:∀i S,i<s.k->P S->s.get i S=some (it i)) (L:∀S,P S->s.fin S=true)
  (step:∀i τ S,i<s.k->T τ->P S->∃τ1 S1 S2,g (it i) τ S=.ok τ1 S1/\t τ1 S1=.ok (p i) S2/\T τ1/\(p i=false->P S2)/\(p i=true->∃S3,e τ1 S2=.ok (f i) S3/\P S3)) :
  ∀k i τ S,k+i=s.k->T τ->P S->∃S',oh s g t e k i τ S=.ok (((List.range' i k).filter p).map f) S'/\P S'
 | 0,i,τ,S,hk,hT,hP=>⟨S,by unfold oh;rw[aT<|L S hP];rfl,hP⟩
 | k+1,i,τ,S,hk,hT,hP=>by
  obtain⟨τ1,S1,S2,hg,C,d,G,B⟩:=step i τ S (by omega) hT hP;unfold oh;rw[J i S (by omega) hP,ie,hg,R.kG,C,R.kG,dN,eB]
  cases hp:p i with
  | false=>
   obtain⟨S',h1,j⟩:=vR it p f J L step k (i+1) τ1 S2 (by omega) d<|G hp;exact⟨S',by simpa using h1,j⟩
  | true=>
   obtain⟨S3,F,m⟩:=B hp;obtain⟨S',h1,j⟩:=vR it p f J L step k (i+1) τ1 S3 (by omega) d m;refine⟨S',?_,j⟩
   skip
   rw[F,R.kG,h1];rfl
def yv{s:Src}{src:Ic}{t:Te}{e:Ex}{S1:gS}(hs:src τ S=.ok s S1)(it:Nat->A)(p:Nat->Bool)(f:Nat->A)(J:∀i,i<s.k->s.get i S1=some (it i))(L:s.fin S1=true)
  (U:∀i,i<s.k->t (it i::jT cap τ) S1=.ok (p i) S1) (Z:∀i,i<s.k->p i=true->e (it i::jT cap τ) S1=.ok (f i) S1) (hl:s.k<=16777216) :
  kF (none::cap) src (jc 0) t e τ S=.ok (.ref S1.length) (S1++[.lst<|((List.range s.k).filter p).map f]):=by
 unfold kF;rw[hs,R.jl];obtain⟨m,h1,j⟩:=vR (s:=s) (g:=jc 0) (t:=t) (e:=e) (P:=λS=>S=S1) (T:=λd=>∃y,d=y::jT cap τ) it p f (λi S hi h=>by subst h;exact J i hi) (λS h=>by subst h;exact L)
  (λi d S hi ⟨y,hy⟩ h=>by
   subst h hy;exact⟨it i::jT cap τ,S,S,rfl,U i hi,⟨_,rfl⟩,λ_=>rfl,λhp=>⟨S,Z i hi hp,rfl⟩⟩) s.k 0 (jT (none::cap) τ) S1 rfl ⟨_,rfl⟩ rfl
 subst j;rw[h1,R.kG,dF];refine j8 ?_;rw[aK];refine bN (fH _ _) ?_;rw[List.length_range'];exact hl
def j7{α β:Type}(xs:List α)(p:α->Bool)(f:α->β):∀(d:α) ,(((List.range xs.length).filter λi=>p<|xs.getD i d).map λi=>f<|xs.getD i d)=(xs.filter p).map f:=by
 intro d
 induction xs with
 | nil=>rfl
 | cons x xs g=>
  rw[bq,List.range_succ_eq_map,eB,eB];have e:((List.filter (λi=>p<|(x::xs).getD i d)<|List.map Nat.succ<|List.range xs.length).map λi=>f<|(x::xs).getD i d)=(xs.filter p).map f:=by
   rw[List.filter_map,cV];rw[<- g];rfl
  show List.map _ (if p x=true then _ else _)=List.map f (if p x=true then _ else _);by_cases hp:p x=true
  ·rw[aT hp,aT hp,aY,aY,e];rfl
  ·rw[aQ hp,aQ hp,e]
def JO{xs:ae}{src:Ic}{t:Te}{e:Ex}{S1:gS}(hs:src τ S=.ok (j_ xs) S1)(p:A->Bool)(f:A->A)
  (j:∀x∈xs,t (x::jT cap τ) S1=.ok (p x) S1) (J:∀x∈xs,p x=true->e (x::jT cap τ) S1=.ok (f x) S1) (L:xs.length<=16777216) :
  kF (none::cap) src (jc 0) t e τ S=.ok (.ref S1.length) (S1++[.lst<|(xs.filter p).map f]):=by
 have d:∀i,i<xs.length->xs.getD i .unb∈xs:=λi hi=>by
  rw[aX,aN hi];exact c7 hi
 rw[yv hs (λi=>xs.getD i .unb) (λi=>p<|xs.getD i .unb) (λi=>f<|xs.getD i .unb) (λi hi=>by
  have hi:i<xs.length:=hi;show xs[i]?=_;rw[aX,aN hi];rfl) rfl (λi hi=>j _<|d i hi) (λi hi=>J _<|d i hi) L]
 have:=j7 xs p f .unb;show R.ok _ (S1++[O.lst<|((List.range xs.length).filter _).map _])=_;rw[this]
def qo{xs:ae}{src:Ic}{e:Ex}{S1:gS}(hs:src τ S=.ok (j_ xs) S1)(f:A->A)
  (j:∀x∈xs,e (x::jT cap τ) S1=.ok (f x) S1) (J:xs.length<=16777216) :
  kF (none::cap) src (jc 0) lg e τ S=.ok (.ref S1.length) (S1++[.lst<|xs.map f]):=by
 rw[JO hs (λ_=>true) f (λ_ _=>rfl) (λx d _=>j x d) J,fY.mpr λ_ _=>rfl]
@[simp]def Ll {cap:List<|bj}{τ:ae}:jT (none::cap) τ=.unb::jT cap τ:=rfl
@[simp]def J_ {cap:List<|bj}{τ:ae}{j:Nat}:jT (some j::cap) τ=τ.getD j .unb::jT cap τ:=rfl
@[simp]def AA {τ:ae}:jT [] τ=[]:=rfl
theorem JN{x:A}:oA (x::xs) 0=some x:=BW (k:=0) rfl rfl
def KU{x:A}:oA (x::y::xs) 1=some y:=BW (k:=1) rfl rfl
def tY{ns:ag}{i:Int}{k:Nat}{x:Int}(h:i=k)(j:ns[k]?=some x):oA (ns.map A.int) i=some (.int x):=BW h<|by rw[bE,j];rfl
def yM{j:Int}(h:-4611686018427387904<=j)(h':j<4611686018427387904):bnd j:=⟨(),()⟩
def xC{i j:Int}(h1:-1000000<=i)(J:i<=1000000)(L:-1000000<=j)(U:j<=1000000)(Z:j-i<=1000):yq i j:=⟨⟨(),(),(),()⟩,()⟩
theorem ints_map:∀(ns:ag),A.ints (ns.map .int)=some ns
 | []=>rfl
 | n::ns=>by show(A.ints<|ns.map .int).map (n::·)=_;rw[ints_map ns];rfl
def Gv(xs:ae)(j:Nat)(h:j<xs.length):nH xs none (some (j:Int))=xs.take j:=by
 unfold nH;rw[HT.EO,HT.BG,fE,gG (),Nat.sub_zero]
def qS(xs:ae)(j:Nat)(h:j<xs.length):nH xs (some<|(j:Int)+1) none=xs.drop (j+1):=by
 unfold nH;rw[show((j:Int)+1)=((j+1:Nat):Int)by lia,HT.EO,HT.BG,gG ()];exact cQ<|by rw[cR];exact aO _
theorem ya{n:Nat}:∀(xs ys:ag),wc (yy S<|n+1) (xs.map .int) (ys.map .int)=some (decide<|xs=ys)
 | [],[]=>rfl
 | [],_::_=>rfl
 | _::_,[]=>rfl
 | x::xs,y::ys=>by
  skip
  skip
  show Option.map _ (wc (yy S<|n+1) (xs.map .int)<|ys.map .int)=_;rw[ya xs ys]
  skip
  by_cases h1:x=y<;>by_cases d:xs=ys<;>simp[h1,d]
@[simp]def NC {S:gS}{x y:Bool}:l7 false (.bl x) (.bl y) S=.ok (.bl<|x == y) S:=rfl
@[simp]def N8 {S:gS}{x y:Bool}:l7 true (.bl x) (.bl y) S=.ok (.bl<|!(x == y)) S:=rfl
@[simp]def NP {S:gS}{x y:Int}:l7 false (.int x) (.int y) S=.ok (.bl<|x == y) S:=rfl
@[simp]def NH {S:gS}{x y:Int}:l7 true (.int x) (.int y) S=.ok (.bl<|!(x == y)) S:=rfl
@[simp]def Ef {S:gS}:Ck false .non .non S=.ok (.bl true) S:=rfl
@[simp]def EH {S:gS}{xs:ae}:Ck false (.tup xs) .non S=.ok (.bl false) S:=rfl
@[simp]def Ej {S:gS}{n:Nat}:Ck false (.ref n) .non S=.ok (.bl false) S:=rfl
@[simp]def Aq {S:gS}:Ck true .non .non S=.ok (.bl false) S:=rfl
@[simp]def Bf {S:gS}{xs:ae}:Ck true (.tup xs) .non S=.ok (.bl true) S:=rfl
@[simp]def AB {S:gS}{n:Nat}:Ck true (.ref n) .non S=.ok (.bl true) S:=rfl
@[simp]def DO {S:gS}{x:A}{c:String}:FU x (.ty c) S=opt (x.kd S) λk=>opt (A_ k c) λb=>.ok (.bl b) S:=rfl
@[simp]def NO {S:gS}{b:Bool}:A.kd (.bl b) S=some .bl:=rfl
@[simp]def HD {S:gS}{b:Int}:A.kd (.int b) S=some .int:=rfl
@[simp]def HB {S:gS}{b:ae}:A.kd (.tup b) S=some .tup:=rfl
@[simp]def La {S:gS}:A.kd .non S=some .non:=rfl
@[simp]def GW {S:gS}{b:Str}:A.kd (.str b) S=some .str:=rfl
@[simp]def Iq {S:gS}{n:Nat}:A.kd (.ref n) S=(gQ S n).map λ_=>.lst:=rfl
@[simp]def HX {S:gS}:newL [] S=.ok (.ref S.length) (S++[.lst []]):=j8<|by simp
@[simp]def IC {S:gS}{j:A}:newL [j] S=.ok (.ref S.length) (S++[.lst [j]]):=j8<|by simp
@[simp]def Hj {S:gS}{j J:A}:newL [j,J] S=.ok (.ref S.length) (S++[.lst [j,J]]):=j8<|by simp
@[simp]def KG {S:gS}{j J L:A}:newL [j,J,L] S=.ok (.ref S.length) (S++[.lst [j,J,L]]):=j8<|by simp
@[simp]def JT {S:gS}{j J L U:A}:newL [j,J,L,U] S=.ok (.ref S.length) (S++[.lst [j,J,L,U]]):=j8<|by simp
@[simp]def Ku {S:gS}{j J L U x4:A}:newL [j,J,L,U,x4] S=.ok (.ref S.length) (S++[.lst [j,J,L,U,x4]]):=j8<|by simp
@[simp]def Jt {S:gS}{j J L U x4 x5:A}:newL [j,J,L,U,x4,x5] S=.ok (.ref S.length) (S++[.lst [j,J,L,U,x4,x5]]):=j8<|by simp
@[simp]def HE {S:gS}{j J L U x4 x5 x6:A}:newL [j,J,L,U,x4,x5,x6] S=.ok (.ref S.length) (S++[.lst [j,J,L,U,x4,x5,x6]]):=j8<|by simp
@[simp]def Jd {S:gS}{j J L U x4 x5 x6 x7:A}:newL [j,J,L,U,x4,x5,x6,x7] S=.ok (.ref S.length) (S++[.lst [j,J,L,U,x4,x5,x6,x7]]):=j8<|by simp
@[simp]def KO {S:gS}{j J L U x4 x5 x6 x7 x8:A}:newL [j,J,L,U,x4,x5,x6,x7,x8] S=.ok (.ref S.length) (S++[.lst [j,J,L,U,x4,x5,x6,x7,x8]]):=j8<|by simp
@[simp]def Ec {S:gS}{j J L U x4 x5 x6 x7 x8 Z:A}:newL [j,J,L,U,x4,x5,x6,x7,x8,Z] S=.ok (.ref S.length) (S++[.lst [j,J,L,U,x4,x5,x6,x7,x8,Z]]):=j8<|by simp
theorem PK{α:Type}{n:Nat}{r:R α}(h:n<=16777216):gd (n<=sizeLine) r=r:=jP<|by rw[bD];exact h
def Rt{α:Type}{n:Nat}{r:R α}(h:n<16777216):gd (n<sizeLine) r=r:=jP<|by rw[bD];exact h
def Od {x:A}{xs:ae}:(x::xs).getD 0 .unb=x:=rfl
def N6 {x:A}{xs:ae}{n:Nat}:(x::xs).getD (n+1) .unb=xs.getD n .unb:=rfl
def Ti {x y:A}{xs:ae}:(x::xs).set 0 y=y::xs:=rfl
def sets {x y:A}{xs:ae}{n:Nat}:(x::xs).set (n+1) y=x::xs.set n y:=rfl
def rep0 {x:A}:List.replicate 0 x=[]:=rfl
def reps {x:A}{n:Nat}:List.replicate (n+1) x=x::List.replicate n x:=rfl
def SW {x:A}{xs ys:ae}:(x::xs)++ys=x::(xs++ys):=rfl
def Tq {ys:ae}:[]++ys=ys:=rfl
def Rr{S:gS}{n:Nat}{xs ys:ae}(h:gQ S n=some xs)(h':gQ S m=some ys)(j:xs.length+ys.length<=16777216):iK (.ref n) (.ref m) S=.ok (.ref S.length) (S++[.lst<|xs++ys]):=by
 show opt (gQ S n) _=_;rw[h,ie,h',ie];exact jP<|by rw[bD];exact j
abbrev uV (x:A)(S:gS):R A:=bif x.jJ then .no else .ok x S
def u5{x:A}(h:x.jJ=false):uV x S=.ok x S:=by unfold uV;rw[h];rfl
def ID {xs:ae}{S:gS}:uV (.tup xs) S=.ok (.tup xs) S:=rfl
def Hx {xs:ae}{S:gS}:uV (.frz xs) S=.ok (.frz xs) S:=rfl
def Lz {i:Int}{S:gS}:uV (.int i) S=.ok (.int i) S:=rfl
def Oz {b:Bool}{S:gS}:uV (.bl b) S=.ok (.bl b) S:=rfl
def Im {s:Str}{S:gS}:uV (.str s) S=.ok (.str s) S:=rfl
def LA {n:Nat}{S:gS}:uV (.ref n) S=.ok (.ref n) S:=rfl
def J7  {S:gS}:uV (.non) S=.ok (.non) S:=rfl
def K6 {i j:Int}{S:gS}:uV (.rng i j) S=.ok (.rng i j) S:=rfl
def Ho {s:Str}{S:gS}:uV (.exn s) S=.ok (.exn s) S:=rfl
def VB {j:A}{xs:ae}{S:gS}:gJ 0 (j::xs) S=uV j S:=mG
def Vl {J j:A}{xs:ae}{S:gS}:gJ 1 (J::j::xs) S=uV j S:=mG
def VH {J L j:A}{xs:ae}{S:gS}:gJ 2 (J::L::j::xs) S=uV j S:=mG
def Vo {J L U j:A}{xs:ae}{S:gS}:gJ 3 (J::L::U::j::xs) S=uV j S:=mG
def Vg {j J L U x4:A}{xs:ae}{S:gS}:gJ 4 (j::J::L::U::x4::xs) S=uV x4 S:=mG
def VG {j J L U x4 x5:A}{xs:ae}{S:gS}:gJ 5 (j::J::L::U::x4::x5::xs) S=uV x5 S:=mG
def Ve {j J L U x4 x5 x6:A}{xs:ae}{S:gS}:gJ 6 (j::J::L::U::x4::x5::x6::xs) S=uV x6 S:=mG
def Vx {j J L U x4 x5 x6 x7:A}{xs:ae}{S:gS}:gJ 7 (j::J::L::U::x4::x5::x6::x7::xs) S=uV x7 S:=mG
def Vr {j J L U x4 x5 x6 x7 x8:A}{xs:ae}{S:gS}:gJ 8 (j::J::L::U::x4::x5::x6::x7::x8::xs) S=uV x8 S:=mG
def Vv {a j:A}{xs:ae}{S:gS}:jc 0 a (j::xs) S=.ok (a::xs) S:=rfl
def Vt {a j J:A}{xs:ae}{S:gS}:jc 1 a (j::J::xs) S=.ok (j::a::xs) S:=rfl
def Vs {a j J L:A}{xs:ae}{S:gS}:jc 2 a (j::J::L::xs) S=.ok (j::J::a::xs) S:=rfl
def Vn {a j J L U:A}{xs:ae}{S:gS}:jc 3 a (j::J::L::U::xs) S=.ok (j::J::L::a::xs) S:=rfl
def Vd {a j J L U x4:A}{xs:ae}{S:gS}:jc 4 a (j::J::L::U::x4::xs) S=.ok (j::J::L::U::a::xs) S:=rfl
def Vh {a j J L U x4 x5:A}{xs:ae}{S:gS}:jc 5 a (j::J::L::U::x4::x5::xs) S=.ok (j::J::L::U::x4::a::xs) S:=rfl
def Vc {a j J L U x4 x5 x6:A}{xs:ae}{S:gS}:jc 6 a (j::J::L::U::x4::x5::x6::xs) S=.ok (j::J::L::U::x4::x5::a::xs) S:=rfl
def Vk {a j J L U x4 x5 x6 x7:A}{xs:ae}{S:gS}:jc 7 a (j::J::L::U::x4::x5::x6::x7::xs) S=.ok (j::J::L::U::x4::x5::x6::a::xs) S:=rfl
def VO {a j J L U x4 x5 x6 x7 x8:A}{xs:ae}{S:gS}:jc 8 a (j::J::L::U::x4::x5::x6::x7::x8::xs) S=.ok (j::J::L::U::x4::x5::x6::x7::a::xs) S:=rfl
def iG:type_of% (anI @R.jl<|anI @R.Dg<|anI @R.kG<|anI @RS.of_ok<|anI @RS.ND<|anI @ie<|anI @Eg<|anI @VB<|anI @Vl<|anI @VH<|anI @Vo<|anI @Vg<|anI @VG<|anI @Ve<|anI @Vx<|anI @Vr<|anI @ID<|anI @Hx<|anI @Lz<|anI @Oz<|anI @Im<|anI @LA<|anI @J7<|anI @K6<|anI @Ho<|anI @C_<|anI @Di<|anI @Ft<|anI @Li<|anI @ES<|anI @DB<|anI @Es<|anI @EJ<|anI @Dv<|anI @NN<|anI @Dp<|anI @Le<|anI @DX<|anI @NI<|anI @Hu<|anI @EB<|anI @Dh<|anI @KJ<|anI @ER<|anI @ED<|anI @D9<|anI @Lu<|anI @J5<|anI @DM<|anI @Lo<|anI @Bj<|anI @Et<|anI @Kw<|anI @Dq<|anI @xG<|anI @EU<|anI @DC<|anI @BI<|anI @KI<|anI @Km<|anI @Nq<|anI @Ow<|anI @KZ<|anI @z_<|anI @E7<|anI @A4<|anI @Ky<|anI @C9<|anI @lst?_ref<|anI @RS.BS<|anI @RS.Jm<|anI @RS.KP<|anI @RS.Jh<|anI @RS.G8<|anI @qT<|anI @Ez<|anI @yi<|anI @Bd<|anI @Ao<|anI @Ey<|anI @Ar<|anI @HY<|anI @Ea<|anI @Vv<|anI @Vt<|anI @Vs<|anI @Vn<|anI @Vd<|anI @Vh<|anI @Vc<|anI @Vk<|anI @VO<|anI @IE<|anI @K_<|anI @Jl<|anI @Hf<|anI @Ld<|anI @Fg<|anI @EI<|anI @AF<|anI @RS.JQ<|anI @RS.Ik<|anI @RS.KL<|anI @Lp<|anI @KN<|anI @IT<|anI @Oj<|anI @Ny<|anI @Oa<|anI @Nx<|anI @NQ<|anI @HH<|anI @JI<|anI @Kx<|anI @JV<|anI @G7<|anI @JC<|anI @DY<|anI @EN<|anI @DG<|anI @E_<|anI @yF<|anI @Nn<|anI @NS<|anI @Oq<|anI @J8<|anI @J1<|anI @Du<|anI @DZ<|anI @Fp<|anI @Az<|anI @Ac<|anI @KH<|anI @Ka<|anI @Om<|anI @vY<|anI @Jb<|anI @Fl<|anI @iu<|anI @Ll<|anI @J_<|anI @AA<|anI @NC<|anI @N8<|anI @NP<|anI @NH<|anI @Ef<|anI @EH<|anI @Ej<|anI @Aq<|anI @Bf<|anI @AB<|anI @DO<|anI @NO<|anI @HD<|anI @HB<|anI @La<|anI @GW<|anI @Iq<|anI @HX<|anI @IC<|anI @Hj<|anI @KG<|anI @JT<|anI @Ku<|anI @Jt<|anI @HE<|anI @Jd<|anI @KO<|anI @Ec<|anI @Od<|anI @N6<|anI @Ti<|anI @sets<|anI @rep0<|anI @reps<|anI @SW<|anI @Tq<|anI @vL<|anI @DQ<|anI @Hv<|anI @IU<|anI @Oo<|anI @Ox<|anI @Ib<|anI @HS<|anI @yg<|anI @BB<|anI @Ji<|anI @D_<|anI @Jo<|anI @EM<|anI @Ly<|anI @NU<|anI @NX<|anI @Ed<|anI @DE<|anI @GS<|anI @AH<|anI @E1<|anI @HC<|anI @Ih<|anI @IG<|anI @JP<|@Ja):=anI @R.jl<|anI @R.Dg<|anI @R.kG<|anI @RS.of_ok<|anI @RS.ND<|anI @ie<|anI @Eg<|anI @VB<|anI @Vl<|anI @VH<|anI @Vo<|anI @Vg<|anI @VG<|anI @Ve<|anI @Vx<|anI @Vr<|anI @ID<|anI @Hx<|anI @Lz<|anI @Oz<|anI @Im<|anI @LA<|anI @J7<|anI @K6<|anI @Ho<|anI @C_<|anI @Di<|anI @Ft<|anI @Li<|anI @ES<|anI @DB<|anI @Es<|anI @EJ<|anI @Dv<|anI @NN<|anI @Dp<|anI @Le<|anI @DX<|anI @NI<|anI @Hu<|anI @EB<|anI @Dh<|anI @KJ<|anI @ER<|anI @ED<|anI @D9<|anI @Lu<|anI @J5<|anI @DM<|anI @Lo<|anI @Bj<|anI @Et<|anI @Kw<|anI @Dq<|anI @xG<|anI @EU<|anI @DC<|anI @BI<|anI @KI<|anI @Km<|anI @Nq<|anI @Ow<|anI @KZ<|anI @z_<|anI @E7<|anI @A4<|anI @Ky<|anI @C9<|anI @lst?_ref<|anI @RS.BS<|anI @RS.Jm<|anI @RS.KP<|anI @RS.Jh<|anI @RS.G8<|anI @qT<|anI @Ez<|anI @yi<|anI @Bd<|anI @Ao<|anI @Ey<|anI @Ar<|anI @HY<|anI @Ea<|anI @Vv<|anI @Vt<|anI @Vs<|anI @Vn<|anI @Vd<|anI @Vh<|anI @Vc<|anI @Vk<|anI @VO<|anI @IE<|anI @K_<|anI @Jl<|anI @Hf<|anI @Ld<|anI @Fg<|anI @EI<|anI @AF<|anI @RS.JQ<|anI @RS.Ik<|anI @RS.KL<|anI @Lp<|anI @KN<|anI @IT<|anI @Oj<|anI @Ny<|anI @Oa<|anI @Nx<|anI @NQ<|anI @HH<|anI @JI<|anI @Kx<|anI @JV<|anI @G7<|anI @JC<|anI @DY<|anI @EN<|anI @DG<|anI @E_<|anI @yF<|anI @Nn<|anI @NS<|anI @Oq<|anI @J8<|anI @J1<|anI @Du<|anI @DZ<|anI @Fp<|anI @Az<|anI @Ac<|anI @KH<|anI @Ka<|anI @Om<|anI @vY<|anI @Jb<|anI @Fl<|anI @iu<|anI @Ll<|anI @J_<|anI @AA<|anI @NC<|anI @N8<|anI @NP<|anI @NH<|anI @Ef<|anI @EH<|anI @Ej<|anI @Aq<|anI @Bf<|anI @AB<|anI @DO<|anI @NO<|anI @HD<|anI @HB<|anI @La<|anI @GW<|anI @Iq<|anI @HX<|anI @IC<|anI @Hj<|anI @KG<|anI @JT<|anI @Ku<|anI @Jt<|anI @HE<|anI @Jd<|anI @KO<|anI @Ec<|anI @Od<|anI @N6<|anI @Ti<|anI @sets<|anI @rep0<|anI @reps<|anI @SW<|anI @Tq<|anI @vL<|anI @DQ<|anI @Hv<|anI @IU<|anI @Oo<|anI @Ox<|anI @Ib<|anI @HS<|anI @yg<|anI @BB<|anI @Ji<|anI @D_<|anI @Jo<|anI @EM<|anI @Ly<|anI @NU<|anI @NX<|anI @Ed<|anI @DE<|anI @GS<|anI @AH<|anI @E1<|anI @HC<|anI @Ih<|anI @IG<|anI @JP<|@Ja
def bools:(∀b:Bool,cond false b b=b)/\(∀(α:Type) (x y:α),cond false x y=y)/\(∀(α:Type) (x y:α),cond true x y=x):=⟨λ_=>rfl,λ_ _ _=>rfl,λ_ _ _=>rfl⟩
def jD:(∀(x:Str) (xs:ar),(x::xs).length=xs.length+1)/\([]:ar).length=0/\(∀(x:A) (xs:ae),(x::xs).length=xs.length+1)/\([]:ae).length=0:=⟨λ_ _=>rfl,rfl,λ_ _=>rfl,rfl⟩
section
variable {τ:ae}{S:gS}
def EZ {f:ae->gS->R A}{d:mK}:oG f d τ S=(d τ S).bind f:=rfl
abbrev Vu (c:Str):Unit->gS->RS:=λ_ S1=>.ex c S1
def Il {c:Str}{u:Unit}:Vu c u S=.ex c S:=rfl
def yd {c:Str}{ps:List<|Str ⊕ Ex}:nh c ps τ S=RS.of (LC ps τ S) (Vu c):=rfl
def DU:LC [] τ S=.ok Unit.unit S:=rfl
def Dn {x:Str}{ps:List<|Str ⊕ Ex}:LC (.inl x::ps) τ S=LC ps τ S:=rfl
abbrev V3 (ps:List<|Str ⊕ Ex)(τ:ae):A->gS->R Unit:=λv S1=>match v with
 | .int i=>gd (i.natAbs.log2<64) (LC ps τ S1)
 | _=>.no
def Dt {e:Ex}{ps:List<|Str ⊕ Ex}:LC (.inr e::ps) τ S=(e τ S).bind (V3 ps τ):=rfl
abbrev RS.try (i n:Nat)(cs:ar)(d:Sm):RS->RS
 | .ex x S1=>if x∈cs then M7 i (d ((List.replicate n .unb).set i<|.exn x) S1)else .no
 | r=>r
def E3 {i n:Nat}{cs:ar}{c d:Sm}:Aw i n cs c d τ S=RS.try i n cs d (c τ S):=by
 unfold Aw RS.try;cases c τ S<;>rfl
def HU {i n:Nat}{cs:ar}{d:Sm}:RS.try i n cs d (.nx τ S)=.nx τ S:=rfl
def GX {i n:Nat}{cs:ar}{d:Sm}{a:A}:RS.try i n cs d (.rt a S)=.rt a S:=rfl
def I0 {i n:Nat}{x:Str}{cs:ar}{d:Sm}:RS.try i n (x::cs) d (.ex x S)=M7 i (d ((List.replicate n .unb).set i<|.exn x) S):=aT<|.head _
def Hl {i:Nat}{a:A}:M7 i (.rt a S)=.rt a S:=rfl
def G_ {i:Nat}:M7 i (.nx τ S)=.nx (τ.set i .unb) S:=rfl
abbrev SO (f:Str->bi):A->gS->R A:=λv S1=>match v with
 | .exn x=>opt (f x) λb=>.ok (.bl b) S1
 | _=>.no
def DN {f:Str->bi}{c:Ex}:jU f c τ S=(c τ S).bind (SO f):=rfl
def Kq {x:Str}{b:Bool}{tb:List<|Str×Bool}:SO (qU ((x,b)::tb)) (.exn x) S=.ok (.bl b) S:=by
 show opt (List.lookup x ((x,b)::tb)) _=_;rw[cC,cB];rfl
abbrev R.KQ {α β:Type}(r:R α)(f:α->gS->R β):R β:=match r with
 | .ok a S=>f a S
 | _=>.no
def Bm {α β:Type}{a:α}{f:α->gS->R β}:R.KQ (.ok a S) f=f a S:=rfl
def DW {f:ae->gS->R A}{d:mK}:SV f d τ S=R.KQ (d τ S) f:=by unfold SV R.KQ;cases d τ S<;>rfl
abbrev RS.Uc {α:Type}(r:R α)(f:α->gS->RS):RS:=match r with
 | .ok a S=>f a S
 | _=>.no
def JK {α:Type}{a:α}{f:α->gS->RS}:RS.Uc (.ok a S) f=f a S:=rfl
def EV {t:Te}{c d:Sm}:SD t c d τ S=RS.Uc (t τ S) (TY c d τ):=by
 unfold SD RS.Uc
 cases t τ S with
 | ok b S1=>cases b<;>rfl
 | ex _ _=>rfl
 | no=>rfl
abbrev RS.Lg (i:Nat)(cs:ar)(d:Sm)(τ:ae):RS->RS
 | .ex x S1=>if x∈cs then M7 i (d (τ.set i<|.exn x) S1)else .no
 | r=>r
def BH {i:Nat}{cs:ar}{c d:Sm}:Ou i cs c d τ S=RS.Lg i cs d τ (c τ S):=by
 unfold Ou RS.Lg;cases c τ S<;>rfl
def Ff {i:Nat}{cs:ar}{d:Sm}{j:ae}:RS.Lg i cs d τ (.nx j S)=.nx j S:=rfl
def Fj {i:Nat}{cs:ar}{d:Sm}{a:A}:RS.Lg i cs d τ (.rt a S)=.rt a S:=rfl
def EW {i:Nat}{x:Str}{cs:ar}{d:Sm}:RS.Lg i (x::cs) d τ (.ex x S)=M7 i (d (τ.set i<|.exn x) S):=aT<|.head _
def BD:A.BN []=some []:=rfl
def uz {b:Bool}{xs:ae}:A.BN (.bl b::xs)=(A.BN xs).map (b::·):=rfl
end
def mL:type_of% (anI @EZ<|anI @yd<|anI @Il<|anI @DU<|anI @Dn<|anI @Dt<|anI @E3<|anI @HU<|anI @GX<|anI @I0<|anI @Hl<|anI @G_<|anI @DN<|anI @Kq<|anI @BD<|anI @uz<|anI @Bm<|anI @DW<|anI @JK<|anI @EV<|anI @BH<|anI @Ff<|anI @Fj<|anI @EW<|trivial):=anI @EZ<|anI @yd<|anI @Il<|anI @DU<|anI @Dn<|anI @Dt<|anI @E3<|anI @HU<|anI @GX<|anI @I0<|anI @Hl<|anI @G_<|anI @DN<|anI @Kq<|anI @BD<|anI @uz<|anI @Bm<|anI @DW<|anI @JK<|anI @EV<|anI @BH<|anI @Ff<|anI @Fj<|anI @EW<|trivial
end Am
namespace Am
open PySem PySem.Spec PyProof.Rows L2
abbrev Df (K:az)(x:Str)(st:aG):Prop:=∃(f:aj) (fd:FuncData),PySem.W.nsIn K mainGlobals x=some (some<|.ref f)/\Fun K x x st f fd
inductive En (P:ah) (w:af) (K:az) (mg:Str->bd) (base:au):Prop
 | mk (h:au) (X:K.In h) (G:h.Ns mainGlobals mg)
section
variable {P:ah}{w:af}{K:az}{mg:Str->bd}{base:au}{x:Str}{st:aG}{ps:ar}{k:Nat}{F:ae->gS->R A}
def En.at(E:En P w K mg base){f:aj}(h:PySem.W.nsIn K mainGlobals x=some (some<|.ref f)):mg x=some (.ref f):=by
 obtain⟨_,X,G⟩:=E;exact bM X G h
def Df.of{f:aj}{od:Option aj}{kV ct:aa}(a:PySem.W.nsIn K mainGlobals x=some (some<|.ref f))(l:K.lookup f=some ⟨oc,od,.func<|PySem.W.fnOf x x (mO st) (j5 st) (g7 st) .none kV doc pm an cdv ct,osl⟩)(c:PySem.W.codeIn K cdv x=true)(k:PySem.W.keepIn K (.ref f)=true):Df K x st:=⟨f,_,a,CD l c k⟩
meta abbrev Bi (x:Str)(st:aG)(ps:ar):Prop:=∀us:ba,us.length=ps.length->∀(kV doc pm:aa) (an:Option aj) (cdv ct:aa),bindArgs (PySem.W.fnOf x x (mO st) (j5 st) (g7 st) .none kV doc pm an cdv ct) ⟨us,[]⟩=pure (ps.zip us)
def Df.get(d:Df K x st)(E:En P w K mg base)(b:Bi x st ps):∃f fd,Fun K x x st f fd/\mg x=some (.ref f)/\PySem.W.keepIn K (.ref f)=true/\Binds K fd ps []:=by
 obtain⟨f,fd,a,F⟩:=d;exact⟨f,fd,F,E.at a,F.kp,F.binds λkV doc pm an cdv ct us g=>b us g kV doc pm an cdv ct⟩
def Df.kA(d:Df K x st)(E:En P w K mg base)(h:∀{f fd},Fun K x x st f fd->FnOk P w K mg base rz k f fd ps (tu K ps.length F))(b:Bi x st ps):sR P w K mg base k x ps F:=by
 obtain⟨f,fd,a,c,e,g⟩:=d.get E b;exact⟨f,fd,h a,c,e,g⟩
def Df.kX(d:Df K x st)(E:En P w K mg base)(h:∀{f fd},Fun K x x st f fd->FnOk P w K mg base (vj P w) k f fd ps (zW K ps.length F))(b:Bi x st ps):GD P w K mg base k x ps F:=by
 obtain⟨f,fd,a,c,e,g⟩:=d.get E b;exact⟨f,fd,h a,c,e,g⟩
end
section
variable {X:Cx}{pos p:Pos}{e1 e2 e3:aF}{x p1 p2 p3:Str}{k K0:Nat}{F:ae->gS->R A}{c1 c2 c3:Ex}
def GK(G:sR X.prog X.w X.K X.mg X.base k x [p1] F)(L:Room K0 X.A)(h1:AE X e1 c1)(U:k<=K0<|>δ)(hg:Gl X x<|>ε)(j:(x == ("__debug__" : Str))=false<|>δ)(J:starEach [e1] X.env=(false,eval e1 X.env)::starEach [] X.env<|>ε)(hp:((backTo pos<|starEach [] X.env).any (·.1)=false)<|>ε):AE X (.Call (.Name x p) [e1] [] pos) (eFn F<|gK c1 gR):=GR G (L.mono U) (gO h1 gY J) (iB iV) hg j J hp
def sG(G:sR X.prog X.w X.K X.mg X.base k x [p1,p2] F)(L:Room K0 X.A)(h1:AE X e1 c1)(U:AE X e2 c2)(Z:k<=K0<|>δ)(hg:Gl X x<|>ε)(j:(x == ("__debug__" : Str))=false<|>δ)(J:starEach [e1,e2] X.env=(false,eval e1 X.env)::starEach [e2] X.env<|>ε)(s2:starEach [e2] X.env=(false,eval e2 X.env)::starEach [] X.env<|>ε)(hp:((backTo pos<|starEach [e2] X.env).any (·.1)=false)<|>ε):AE X (.Call (.Name x p) [e1,e2] [] pos) (eFn F<|gK c1<|gK c2 gR):=GR G (L.mono Z) (gO h1 (gO U gY s2) J) (iB<|iB iV) hg j J hp
def VW(G:sR X.prog X.w X.K X.mg X.base k x [p1,p2,p3] F)(L:Room K0 X.A)(h1:AE X e1 c1)(U:AE X e2 c2)(Z:AE X e3 c3)(hk:k<=K0<|>δ)(hg:Gl X x<|>ε)(j:(x == ("__debug__" : Str))=false<|>δ)(J:starEach [e1,e2,e3] X.env=(false,eval e1 X.env)::starEach [e2,e3] X.env<|>ε)(s2:starEach [e2,e3] X.env=(false,eval e2 X.env)::starEach [e3] X.env<|>ε)(s3:starEach [e3] X.env=(false,eval e3 X.env)::starEach [] X.env<|>ε)(hp:((backTo pos<|starEach [e2,e3] X.env).any (·.1)=false)<|>ε):AE X (.Call (.Name x p) [e1,e2,e3] [] pos) (eFn F<|gK c1<|gK c2<|gK c3 gR):=GR G (L.mono hk) (gO h1 (gO U (gO Z gY s3) s2) J) (iB<|iB<|iB iV) hg j J hp
def SS(G:GD X.prog X.w X.K X.mg X.base k x [p1] F)(L:Room K0 X.A)(h1:AE X e1 c1)(U:k<=K0<|>δ)(hg:Gl X x<|>ε)(j:(x == ("__debug__" : Str))=false<|>δ)(J:starEach [e1] X.env=(false,eval e1 X.env)::starEach [] X.env<|>ε)(hp:((backTo pos<|starEach [] X.env).any (·.1)=false)<|>ε):AE X (.Call (.Name x p) [e1] [] pos) (oG F<|gK c1 gR):=GN G (L.mono U) (gO h1 gY J) (iB iV) hg j J hp
def T4(G:GD X.prog X.w X.K X.mg X.base k x [p1,p2] F)(L:Room K0 X.A)(h1:AE X e1 c1)(U:AE X e2 c2)(Z:k<=K0<|>δ)(hg:Gl X x<|>ε)(j:(x == ("__debug__" : Str))=false<|>δ)(J:starEach [e1,e2] X.env=(false,eval e1 X.env)::starEach [e2] X.env<|>ε)(s2:starEach [e2] X.env=(false,eval e2 X.env)::starEach [] X.env<|>ε)(hp:((backTo pos<|starEach [e2] X.env).any (·.1)=false)<|>ε):AE X (.Call (.Name x p) [e1,e2] [] pos) (oG F<|gK c1<|gK c2 gR):=GN G (L.mono Z) (gO h1 (gO U gY s2) J) (iB<|iB iV) hg j J hp
def rm{N P:ar}{j:Scope}(a:j.kind=.function)(b:j.isCoroutine=false)(c:j.isGenerator=false)(h:N.Nodup/\N.take P.length=P/\(∀x∈P,j.names.lookup x=some .local\/j.names.lookup x=some .cell)/\∀y∈j.names,y.2≠.free):FnScope N P j:=⟨a,b,c,h.1,h.2.1,h.2.2.1,h.2.2.2⟩
end
abbrev iW (S:gS)(n:Nat):Option (List<|Str×A):=match S[n]? with
 | some (.ly xs)=>some xs
 | _=>none
def iD{n:Nat}(h:iW S n=some xs):S[n]?=some (.ly xs):=by
 unfold iW at h;split at h
 ·rename_i e;cases h;exact e
 ·cases h
def nQ{S:gS}{n:Nat}(h:S[n]?=some (.ly xs)):iW S n=some xs:=by
 unfold iW;rw[h]
abbrev iL (kvs:List<|Str×A)(k:Str):Option A:=(kvs.find? λd=>decide<|d.1=k).map (·.2)
abbrev nX (kvs:List<|Str×A)(k:Str)(v:A):List (Str×A):=
 if (iL kvs k).isSome=true then kvs.map (λd=>if d.1=k then(d.1,v)else d)else kvs++[(k,v)]
section
variable {K:az}{ρ:bb}{H:Hp}
def jA{p:Str×A}{r:List<|Str×A}{k:Str}(e:p.1=k):iL (p::r) k=some p.2:=by simp[iL,cL,e]
def jC{p:Str×A}{r:List<|Str×A}{k:Str}(e:¬p.1=k):iL (p::r) k=iL r k:=by simp[iL,cL,e]
def SA{a:Str}(e:(Sum.inr a:Key)=Sum.inr b):a=b:=by injection e
theorem DS.look:∀{kvs:List<|Str×A}{ks:List<|Key×V}(k:Str),DS K ρ H kvs ks->(iL kvs k).isSome=(pV ks (Sum.inr k:Key)).isSome/\∀x,iL kvs k=some x->∃v,pV ks (Sum.inr k:Key)=some v/\AV K ρ H x v
 | [],[],k,_=>⟨rfl,λx h=>nomatch h⟩
 | p::r,q::r',k,⟨⟨e,a⟩,t⟩=>by
  by_cases c:p.1=k
  ·have d:q.1=(Sum.inr k:Key):=by rw[e,c]
   rw[jA c,sL d];exact⟨rfl,λx h=>by cases h;exact⟨_,rfl,a⟩⟩
  ·have d:¬q.1=(Sum.inr k:Key):=λz=>c<|SA<|e.symm.trans z;rw[jC c,sH d];exact DS.look k t
theorem DS.repl{x:A}{v:V}(h:AV K ρ H x v)(k:Str):∀{kvs:List<|Str×A}{ks:List<|Key×V},DS K ρ H kvs ks->DS K ρ H (kvs.map λkv=>if kv.1=k then(kv.1,x)else kv) (ks.map λkv=>if kv.1=(Sum.inr k:Key)then(kv.1,v)else kv)
 | [],[],_=>trivial
 | p::r,q::r',⟨⟨e,a⟩,t⟩=>by
  refine⟨?_,DS.repl h k t⟩;dsimp only;by_cases c:p.1=k
  ·rw[aT c,aT<|by rw[e,c]];exact⟨e,h⟩
  ·rw[aQ c,aQ λz=>c<|SA<|e.symm.trans z];exact⟨e,a⟩
theorem DS.snoc{x:A}{v:V}(h:AV K ρ H x v)(k:Str):∀{kvs:List<|Str×A}{ks:List<|Key×V},DS K ρ H kvs ks->DS K ρ H (kvs++[(k,x)]) (ks++[(Sum.inr k,v)])
 | [],[],_=>⟨⟨rfl,h⟩,trivial⟩
 | p::r,q::r',⟨a,t⟩=>⟨a,DS.snoc h k t⟩
def DS.put{x:A}{v:V}(h:AV K ρ H x v)(k:Str){ks:List<|Key×V}(d:DS K ρ H kvs ks):DS K ρ H (nX kvs k x) (putK ks (Sum.inr k:Key) v):=by
 unfold nX putK;rw[vW,<- (d.look k).1];by_cases c:(iL kvs k).isSome=true
 ·rw[aT c,aT c];exact DS.repl h k d
 ·rw[aQ c,aQ c];exact DS.snoc h k d
def DS.length:∀{kvs:List<|Str×A}{ks:List<|Key×V},DS K ρ H kvs ks->kvs.length=ks.length
 | [],[],_=>rfl
 | _::_,_::_,⟨_,t⟩=>cW (·+1) t.length
def Rel.ly{n:Nat}{a:aj}(R:Rel K ρ H S)(j:ρ[n]?=some a)(J:S[n]?=some (.ly xs)):∃vs,H a=some (.dK vs)/\DS K ρ H xs vs:=R.at n a _ j J
def Rel.Tz{S:gS}{p:aj}(R:Rel K ρ H S)(hp:H p=none)(r:DS K ρ H xs vs):Ext ρ (ρ++[p]) H (upd H p<|.dK vs)/\Rel K (ρ++[p]) (upd H p<|.dK vs) (S++[.ly xs])/\(ρ++[p])[S.length]?=some p:=by
 have ex:Ext ρ (ρ++[p]) H (upd H p<|.dK vs):=⟨⟨dS _ _,λa u _ h=>by rw[gV<|g9 h hp];exact h⟩,λa u h _=>by rw[gV<|g9 h hp];exact h,λa h=>by
  rcases bQ.mp h with z|z
  ·exact .inl z
  ·have e:a=p:=by simpa using z
   rw[e];exact .inr hp⟩
 have np:p∉ρ:=R.DJ hp;have d:(ρ++[p])[S.length]?=some p:=by rw[<- R.len];simp
 refine⟨ex,⟨by simp[R.len],?_,?_⟩,d⟩
 ·rw[cK];refine⟨R.nd,by simp,λa k b j e=>?_⟩;have:b=p:=by simpa using j
  exact np<|by rw[<- this,<- e];exact k
 ·intro n a o h1 f;by_cases hn:n<S.length
  ·rw[aW<|by rw[R.len];exact hn]at h1;rw[aW hn]at f;have na:a≠p:=λz=>np (by rw[<- z];exact bI h1);have:=R.at n a o h1 f
   cases o with
   | lst ys=>obtain⟨ws,e,q⟩:=this;exact⟨ws,by rw[gV na];exact e,q.ext ex⟩
   | dct _|dki _|ly _|dcp _=>obtain⟨ws,e,q⟩:=this;exact⟨ws,by rw[gV na];exact e,q.ext ex⟩
   | dcf _|dkf _=>obtain⟨g,ws,e,q⟩:=this;exact⟨g,ws,by rw[gV na];exact e,q.ext ex⟩
   | ins _ _=>obtain⟨g,m,e⟩:=this;exact⟨g,m,by rw[gV na];exact e⟩
   | obj _ _=>obtain⟨ws,⟨C,dx,c,e⟩,q⟩:=this;exact⟨ws,⟨C,dx,c,by rw[gV na];exact e⟩,q.ext ex⟩
  ·have e:n=S.length:=by
    have:=(aM.mp f).1;simp at this
    lia
   subst e;rw[d]at h1
   cases h1
   simp at f;subst f;exact⟨vs,iF,r.ext ex⟩
def Rel.nX{S:gS}{n:Nat}{a:aj}(R:Rel K ρ H S)(J:ρ[n]?=some a)(L:S[n]?=some (.ly xs))(r:DS K ρ H ys ws):Ext ρ ρ H (upd H a<|.dK ws)/\Rel K ρ (upd H a<|.dK ws) (S.set n<|.ly ys):=by
 obtain⟨vs,e,_⟩:=R.at n a _ J L;have ex:Ext ρ ρ H (upd H a<|.dK ws):=⟨⟨dO _,λb u i h=>by
  have:b≠a:=by
   intro z;subst z;rw[e]at h;cases h;exact i
  rw[gV this];exact h⟩,λb u h n=>by
  rw[gV λz=>n<|by rw[z];exact bI J];exact h,λ_ h=>.inl h⟩
 refine⟨ex,by rw[bL];exact R.len,R.nd,λm b o h1 g=>?_⟩;by_cases k:m=n
 ·subst k;rw[J]at h1;cases h1;rw[bz (aM.mp L).1]at g
  cases g
  exact⟨ws,iF,r.ext ex⟩
 ·rw[a_<|bP k]at g;have nb:b≠a:=λz=>by
   subst z;obtain⟨B,e1⟩:=aM.mp J;obtain⟨F,e2⟩:=aM.mp h1;exact k<|(eo R.nd).mp<|e2.trans e1.symm
  have:=R.at m b o h1 g
  cases o with
  | lst ys=>obtain⟨d,f,q⟩:=this;exact⟨d,by rw[gV nb];exact f,q.ext ex⟩
  | dct _|dki _|ly _|dcp _=>obtain⟨d,f,q⟩:=this;exact⟨d,by rw[gV nb];exact f,q.ext ex⟩
  | dcf _|dkf _=>obtain⟨j,d,f,q⟩:=this;exact⟨j,d,by rw[gV nb];exact f,q.ext ex⟩
  | ins _ _=>obtain⟨j,p,f⟩:=this;exact⟨j,p,by rw[gV nb];exact f⟩
  | obj _ _=>obtain⟨ws,⟨C,dx,c,f⟩,q⟩:=this;exact⟨ws,⟨C,dx,c,by rw[gV nb];exact f⟩,q.ext ex⟩
end
section
variable {X:Cx}{pos:Pos}{a b:aF}
abbrev vC (x y:A)(S:gS):R A:=match x,y with
 | .ref n,.str k=>opt (iW S n) λkvs=>opt (iL kvs k) λv=>.ok v S
 | _,_=>.no
def Gj{x:A}{P:A->gS->Prop}{E:Str->gS->Prop}(h:(vC x y S).post P E):∃n k kvs v,x=.ref n/\y=.str k/\iW S n=some kvs/\iL kvs k=some v/\P v S:=by
 unfold vC at h;split at h
 ·obtain⟨kvs,h1,h⟩:=gZ h;obtain⟨v,d,h⟩:=gZ h;exact⟨_,_,kvs,v,rfl,rfl,h1,d,h⟩
 ·exact h.elim
def RM(J:X.A.units+64<cLine):Ol X (r2 X vC):=λvalue f pins s σ H x y v u Q I rx ry ⟨ρ,S,a,b,R,va,vb,h⟩ hs=>by
 obtain⟨n,k,kvs,z,B,j,hn,C,hP⟩:=Gj h;subst B j
 cases vb
 cases va with
 | @ref p _ hp=>
  obtain⟨ks,e,d⟩:=R.ly hp<|iD hn;obtain⟨w,hw,m⟩:=(d.look k).2 z C;have g:vD H p (kV<|Sum.inr k) (pV ks<|Sum.inr k):=vD.k e;rw[hw]at g;exact LX () value f pins s σ H _ _ v u Q I rx ry ⟨p,w,rfl,g,hP _ _ _ .refl R m⟩ hs
def B7(J:X.A.units+64<cLine){ca j:Ex}(L:AE X a ca)(hb:AE X b j)(hs:vN b<|>θ):AE X (.Subscript a b pos) (gT vC ca j):=PE.imp (Lh (RM J) L hb hs) λσ H Q h=>sU h
abbrev tH (o i v:A)(S:gS):R Unit:=match o,i with
 | .ref n,.str k=>opt (iW S n) λkvs=>gd (kvs.length<sizeLine) (.ok Unit.unit<|S.set n<|.ly<|nX kvs k v)
 | _,_=>.no
def Cw{x v:A}{S:gS}{P:Unit->gS->Prop}{E:Str->gS->Prop}(h:(tH x y v S).post P E):∃n k kvs,x=.ref n/\y=.str k/\iW S n=some kvs/\kvs.length<sizeLine/\P Unit.unit (S.set n<|.ly<|nX kvs k v):=by
 unfold tH at h;split at h
 ·obtain⟨kvs,h1,h⟩:=gZ h;obtain⟨d,h⟩:=iy h;exact⟨_,_,kvs,rfl,rfl,h1,d,h⟩
 ·exact h.elim
abbrev U7 (X:Cx):G6:=λo i v H Q=>∃ρ S f d g,Rel X.K ρ H S/\AV X.K ρ H f o/\AV X.K ρ H d i/\AV X.K ρ H g v/\(tH f d g S).post (λ_ j=>∀ρ' H',Ext ρ ρ' H H'->Rel X.K ρ' H' j->Q H') (XE X ρ H)
def M3(U:X.A.units+64<cLine):Iu X (U7 X):=λpins s σ H o i v C iv u Q I f j B h9=>by
 obtain⟨ρ,S,O,L,N,R,h1,g,J,h⟩:=h9;obtain⟨n,k,kvs,F,m,hn,K,hP⟩:=Cw h;subst F m
 cases g
 cases h1 with
 | @ref p _ hp=>
  obtain⟨ks,e,d⟩:=R.ly hp<|iD hn;obtain⟨ex,G⟩:=R.nX hp (iD hn)<|d.put J k;exact set_dict () pins s σ H _ _ v C iv u Q I f j B ⟨p,_,rfl,JD.k (k:=Sum.inr k) e<|by rw[<- d.length];exact K,hP _ _ ex G⟩
abbrev AU (co j:Ex):Tg:=λa τ S=>(co τ S).bind λo S1=>(j τ S1).bind λi d=>(tH o i a d).bind λ_ f=>.ok τ f
def vS(L:X.A.units+64<cLine){co J:Ex}(U:AE X o co)(hi:AE X i J)
  (Z:(∀v,assign (.Subscript o i pos) X.env v=(do
   let ov <- holding [v] (eval o X.env)
   let iv <- holding [v,ov] (eval i X.env)
   standAt pos
   holding [v,ov,iv] (setItem ov iv v)
   release [v,ov,iv] []))<|>ζ):AG X (.Subscript o i pos) (AU co J):=PG.imp (HF U hi (M3 L) Z) λv σ H Q h9=>by
 obtain⟨ρ,S,τ,a,R,r,va,h⟩:=h9;refine⟨ρ,S,τ,R,r,gP (gU h) .refl λo S1 h1 ρ1 H1 x e1 R1 v1=>⟨ρ1,S1,τ,R1,r.ext e1,gP (gU h1) e1 λi j m d H2 y e2 R2 k=>?_⟩⟩;refine⟨d,j,o,i,a,R2,v1.ext e2,k,va.ext<|e1.trans e2,gP (gU m) (e1.trans e2) λ_ B p f H3 e3 g=>?_⟩;exact p f H3 σ ((e1.trans e2).trans e3) g<|r.ext<|(e1.trans e2).trans e3
abbrev v_:Ex:=λ_ S=>.ok (.ref S.length)<|S++[.ly []]
def Ab:AE X (.Dict [] [] pos) v_:=PE.imp KY λσ H Q ⟨ρ,S,τ,R,r,h⟩ p hp=>by
 obtain⟨ex,d,f⟩:=R.Tz (xs:=[]) (vs:=[]) hp trivial;exact h _ _ _ ex d<|.ref f
abbrev ds? (a:A)(S:gS):Option Unit:=match a with
 | .ref n=>(iW S n).map λ_=>Unit.unit
 | _=>none
abbrev BU (f:A->ae->gS->R A)(co:Ex)(d:mK):Ex:=λτ S=>(co τ S).bind λx S1=>opt (ds? x S1) λ_=>(d τ S1).bind λj g=>f x j g
def ds?_ty{K:az}{H:Hp}{x:A}{v:V}(R:Rel K ρ H S)(a:AV K ρ H x v)(e:ds? x S=some u):Q9 K "dict" v H:=by
 cases a with
 | @ref p n h=>
  obtain⟨xs,d,_⟩:=aV.mp e;obtain⟨vs,h1,_⟩:=R.ly h<|iD d;exact .inr<|.inr<|.inl ⟨rfl,.inl ⟨vs,h1⟩⟩
 | _=>cases e
def JU{id:String}{apos cpos:Pos}{f:A->ae->gS->R A}{co:Ex}{d:mK}(slot:Slot "dict" name id)(hty:typeOf (.builtin id)=pure (.type "method_descriptor"))(hm:Cb X id<|rM X f)(ho:AE X o co)(ha:AL X (e::es) d)
  (L:attributeBase o name X.env (eval o X.env)=eval o X.env<|>ε)
  (Z:(((backTo cpos<|starEach (e::es) X.env).all (λx=>!x.1) && (backToKw cpos<|keywordEach [] X.env).all (λx=>x.1.isSome)
   && decide ((e::es).length+([]:List Keyword).length+(if ([]:List Keyword).isEmpty then 0 else 1)<30))=true)<|>ε)
  (U:(apos.endLine == cpos.line)=true<|>ε) (hs:starEach (e::es) X.env=(false,eval e X.env)::starEach es X.env<|>ε) (J:((backTo cpos<|starEach es X.env).any (·.1)=false)<|>ε) :
  AE X (.Call (.Attribute o name apos) (e::es) [] cpos) (BU f co d):=PE.imp (HK PySem.F.plainAttrs_dict slot hty hm ho ha L Z U hs J) λσ H Q h9=>by
 room;ksr_p;obtain⟨xs,p,h1⟩:=gZ h1;refine⟨ds?_ty R1 v1 p,ρ1,S1,τ,R1,r.ext e1,gP (gU h1) e1 λB j m g H2 vs e2 R2 k=>?_⟩;exact⟨g,j,x,B,R2,v1.ext e2,k,gP m (e1.trans e2) λ_ _ z=>z.ext<|e1.trans e2⟩
end
abbrev vZ (S:gS)(n:Nat):Option (Str×List (Str×A)):=match S[n]? with
 | some (.obj c fs)=>some (c,fs)
 | _=>none
def zN{n:Nat}{q:Str×List (Str×A)}(h:vZ S n=some q):S[n]?=some (.obj q.1 q.2):=by
 unfold vZ at h;split at h
 ·rename_i e;cases h;exact e
 ·cases h
def zK{S:gS}{n:Nat}{c:Str}{fs:List<|Str×A}(h:S[n]?=some (.obj c fs)):vZ S n=some (c,fs):=by
 unfold vZ;rw[h]
abbrev zO (f:Str)(x:A):List (Str×A)->List (Str×A)
 | []=>[(f,x)]
 | p::r=>if p.1=f then(p.1,x)::r else p::zO f x r
section
variable {K:az}{ρ ρ':bb}{H H':Hp}
def FV.length:∀{fs:List<|Str×A}{ws:List<|Str×V},FV K ρ H fs ws->fs.length=ws.length
 | [],[],_=>rfl
 | _::_,_::_,⟨_,t⟩=>cW (·+1) t.length
theorem FV.put{x:A}{v:V}(f:Str)(h:AV K ρ H x v):∀{fs:List<|Str×A}{ws:List<|Str×V},FV K ρ H fs ws->FV K ρ H (zO f x fs) (pM f v ws)
 | [],[],_=>⟨⟨rfl,h⟩,trivial⟩
 | p::r,q::r',⟨⟨e,a⟩,t⟩=>by
  obtain⟨g,y⟩:=q;have e:g=p.1:=e;subst e;unfold zO pM;by_cases c:p.1=f
  ·rw[aT c,aT c];exact⟨⟨rfl,h⟩,t⟩
  ·rw[aQ c,aQ c];exact⟨⟨rfl,a⟩,FV.put f h t⟩
theorem FV.look{f:Str}:∀{fs:List<|Str×A}{ws:List<|Str×V},FV K ρ H fs ws->(fs.lookup f=none->ws.lookup f=none)/\∀x,fs.lookup f=some x->∃v,ws.lookup f=some v/\AV K ρ H x v
 | [],[],_=>⟨λ_=>rfl,nofun⟩
 | p::r,q::r',⟨⟨e,a⟩,t⟩=>by
  obtain⟨g,y⟩:=q;obtain⟨g',z⟩:=p;have e:g=g':=e;subst e;rw[cC,cC]
  cases f == g with
  | true=>exact⟨λh=>(nomatch h),λx h=>by cases h;exact⟨_,rfl,a⟩⟩
  | false=>exact FV.look t
def wV.inj{c:Str}{C:aj}(a:wV K c C)(b:wV K c D):C=D:=by
 have z:=a.symm.trans b
 injection z with z
 injection z with z
 injection z
def Rel.ob{n:Nat}{a C:aj}{c:Str}{fs:List<|Str×A}(R:Rel K ρ H S)(j:ρ[n]?=some a)(J:S[n]?=some (.obj c fs))(hn:wV K c C):∃dx ws,H a=some (.ins C dx ws)/\FV K ρ H fs ws:=by
 obtain⟨ws,⟨f,dx,d,e⟩,q⟩:=R.at n a _ j J
 cases hn.inj d
 exact⟨dx,ws,e,q⟩
def OR.mono{a:aj}(h:OR K ρ H a o)(e:Ext0 ρ ρ' H H')(k:H' a=H a):OR K ρ' H' a o:=by
 cases o with
 | lst ys=>obtain⟨ws,z,q⟩:=h;exact⟨ws,k.trans z,AVs.je e q⟩
 | dct _|dki _|ly _|dcp _=>obtain⟨ws,z,q⟩:=h;exact⟨ws,k.trans z,q.je e⟩
 | dcf _|dkf _=>obtain⟨d,ws,z,q⟩:=h;exact⟨d,ws,k.trans z,q.je e⟩
 | ins _ _=>obtain⟨d,f,z⟩:=h;exact⟨d,f,k.trans z⟩
 | obj _ _=>obtain⟨ws,⟨C,dx,c,z⟩,q⟩:=h;exact⟨ws,⟨C,dx,c,k.trans z⟩,q.je e⟩
def Ext.lay{p:aj}(hp:H p=none):Ext ρ (ρ++[p]) H (upd H p u):=⟨⟨dS _ _,λa u _ h=>by rw[gV<|g9 h hp];exact h⟩,λa u h _=>by rw[gV<|g9 h hp];exact h,λa h=>by
  rcases bQ.mp h with z|z
  ·exact .inl z
  ·have e:a=p:=by simpa using z
   rw[e];exact .inr hp⟩
def Rel.Va{S:gS}{p:aj}{o:O}(R:Rel K ρ H S)(hp:H p=none)(r:OR K (ρ++[p]) (upd H p u) p o):Rel K (ρ++[p]) (upd H p u) (S++[o])/\(ρ++[p])[S.length]?=some p:=by
 have np:p∉ρ:=R.DJ hp;have d:(ρ++[p])[S.length]?=some p:=by rw[<- R.len];simp
 refine⟨⟨by simp[R.len],?_,?_⟩,d⟩
 ·rw[cK];refine⟨R.nd,by simp,λa j b g e=>?_⟩;have:b=p:=by simpa using g
  exact np<|by rw[<- this,<- e];exact j
 ·intro n a o' h1 f;by_cases hn:n<S.length
  ·rw[aW<|by rw[R.len];exact hn]at h1;rw[aW hn]at f;have na:a≠p:=λz=>np (by rw[<- z];exact bI h1);exact(R.at n a o' h1 f).mono (Ext.lay hp).toExt0 (gV na)
  ·have e:n=S.length:=by
    have:=(aM.mp f).1;simp at this
    lia
   subst e;rw[d]at h1
   cases h1
   simp at f;subst f;exact r
def Ext.put{a:aj}(j:a∈ρ)(J:∀v,H a=some v->¬RV v):Ext ρ ρ H (upd H a u):=⟨⟨dO _,λb u i h=>by
  have:b≠a:=by
   intro z;subst z;exact J _ h i
  rw[gV this];exact h⟩,λb u h n=>by
  rw[gV λz=>n<|by rw[z];exact j];exact h,λ_ h=>.inl h⟩
def Rel.RE{S:gS}{n:Nat}{a:aj}(R:Rel K ρ H S)(J:ρ[n]?=some a)(hn:n<S.length)(L:∀v,H a=some v->¬RV v)(r:OR K ρ (upd H a u) a o):Rel K ρ (upd H a u) (S.set n o):=by
 refine⟨by rw[bL];exact R.len,R.nd,λm b o' h1 d=>?_⟩;by_cases f:m=n
 ·subst f;rw[J]at h1;cases h1;rw[bz hn]at d
  cases d
  exact r
 ·rw[a_<|bP f]at d;have nb:b≠a:=λz=>by
   subst z;obtain⟨g,e1⟩:=aM.mp J;obtain⟨j,e2⟩:=aM.mp h1;exact f<|(eo R.nd).mp<|e2.trans e1.symm
  exact(R.at m b o' h1 d).mono (Ext.put (bI J) L).toExt0 (gV nb)
end
abbrev zx (cn f:Str)(o:A)(S:gS):R A:=match o with
 | .ref n=>opt (vZ S n) λq=>gd (q.1=cn) (opt (q.2.lookup f) λa=>.ok a S)
 | _=>.no
abbrev lM (cn f:Str)(c:Ex):Ex:=λτ S=>(c τ S).bind λo S1=>zx cn f o S1
def Gx{f:Str}{P:A->gS->Prop}{E:Str->gS->Prop}(h:(zx cn f o S).post P E):∃n fs a,o=.ref n/\S[n]?=some (.obj cn fs)/\fs.lookup f=some a/\P a S:=by
 unfold zx at h;split at h
 ·obtain⟨⟨p,fs⟩,g,h1⟩:=gZ h;obtain⟨d,j⟩:=iy h1;obtain⟨a,m,k⟩:=gZ j;exact⟨_,fs,a,rfl,by rw[<- (show p=cn from d)];exact zN g,m,k⟩
 ·exact h.elim
structure ClK (K:az)(cn:Str)(C:aj):Prop where
 n:wV K cn C
 c:Cls K C
section
variable {X:Cx}{pos apos cpos p:Pos}{e a:aF}{es:List aF}{cn f m:Str}{C:aj}{c d:Ex}{k:Nat}{ps:ar}{F:ae->gS->R A}
def lz(J:ClK X.K cn C)(hf:jK X.K C f)(h:AE X e c)(hb:attributeBase e f X.env (eval e X.env)=eval e X.env<|>ε):AE X (.Attribute e f pos) (lM cn f c):=PE.imp (OX h hb) λσ H Q ⟨ρ,S,τ,R,r,h⟩=>⟨ρ,S,τ,R,r,gP (gU h) .refl λo S1 h1 ρ1 H1 x e1 R1 v1=>by
 obtain⟨n,fs,a,rfl,j,d,h1⟩:=Gx h1
 cases v1 with
 | @ref p n hp=>
  obtain⟨dx,ws,g,q⟩:=R1.ob hp j J.n;obtain⟨v,hv,va⟩:=(q.look (f:=f)).2 a d;exact⟨p,C,dx,ws,v,rfl,g,J.c,hf,hv,h1 ρ1 H1 v e1 R1 va⟩⟩
abbrev Bw (cn f:Str)(o y:A)(S:gS):R Unit:=match o with
 | .ref n=>opt (vZ S n) λq=>gd (q.1=cn/\q.2.length<1000) (.ok Unit.unit<|S.set n<|.obj cn<|zO f y q.2)
 | _=>.no
abbrev xE (cn f:Str)(co j:Ex):Sm:=λτ S=>.of (j τ S) λy S1=>.of (co τ S1) λo d=>.of (Bw cn f o y d) λ_ g=>.nx τ g
def CW{cn f:Str}{S:gS}{P:Unit->gS->Prop}{E:Str->gS->Prop}(h:(Bw cn f o y S).post P E):∃n fs,o=.ref n/\S[n]?=some (.obj cn fs)/\fs.length<1000/\P Unit.unit (S.set n<|.obj cn<|zO f y fs):=by
 unfold Bw at h;split at h
 ·obtain⟨⟨m,fs⟩,g,h1⟩:=gZ h;obtain⟨⟨d,k⟩,j⟩:=iy h1;exact⟨_,fs,rfl,by rw[<- (show m=cn from d)];exact zN g,k,j⟩
 ·exact h.elim
def Ce(U:ClK X.K cn C)(hf:jK X.K C f)(Z:AE X e c)(hv:AE X a d)(hs:(swapsWith a (some<|.Attribute e f apos) pos.line X.env=pure false)<|>ε):AS X (.Assign [.Attribute e f apos] a pos) (xE cn f c d):=PS.imp (Qj Z hv hs) λD σ H ⟨ρ,S,τ,R,r,h⟩=>⟨ρ,S,τ,R,r,gP (of_post h) .refl λy S1 h1 ρ1 H1 w e1 R1 v1=>⟨ρ1,S1,τ,R1,r.ext e1,gP (of_post h1) e1 λo L j g H2 x e2 R2 F=>by
 obtain⟨n,fs,rfl,B,J,j⟩:=CW (of_post j)
 cases F with
 | @ref p n hp=>
  obtain⟨dx,ws,m,q⟩:=R2.ob hp B U.n;have k:∀v,H2 p=some v->¬RV v:=λv z i=>by rw[m]at z;cases z;exact i
  have ex:Ext g g H2 (upd H2 p<|.ins C dx<|pM f w ws):=Ext.put (bI hp) k;have G:=R2.RE (o:=.obj cn<|zO f y fs) (u:=.ins C dx<|pM f w ws) hp (aM.mp B).1 k ⟨_,⟨C,dx,U.n,iF⟩,(q.put f<|v1.ext e2).ext ex⟩;exact⟨p,C,dx,ws,rfl,m,U.c,hf,by rw[<- q.length];exact J,j g _ _ ((e1.trans e2).trans ex) G<|((r.ext e1).ext e2).ext ex⟩⟩⟩
abbrev Gw (P:ah)(w:af)(K:az)(mg:Str->bd)(base:au)(k:Nat)(C:aj)(m:Str)(ps:ar)(F:ae->gS->R A):Prop:=
 ∃(f:aj) (fd:FuncData),FnOk P w K mg base (vj P w) k f fd ps (zW K ps.length F)/\Meth K C m f/\Binds K fd ps []
abbrev iX (cn m:Str)(F:ae->gS->R A)(co:Ex)(d:mK):Ex:=λτ S=>(co τ S).bind λx S1=>match x with
 | .ref n=>opt (vZ S1 n) λq=>gd (q.1=cn/\q.2.lookup m=none) ((d τ S1).bind λg f=>F (x::g) f)
 | _=>.no
def yr {o:A}{S:gS}{G:R A}{P:A->gS->Prop}{E:Str->gS->Prop}(h:(match o with
 | .ref n=>opt (vZ S n) λq=>gd (q.1=cn/\q.2.lookup m=none) G
 | _=>.no:R A).post P E):∃n fs,o=.ref n/\S[n]?=some (.obj cn fs)/\fs.lookup m=none/\G.post P E:=by
 split at h
 ·obtain⟨⟨k,fs⟩,f,h1⟩:=gZ h;obtain⟨⟨d,j⟩,g⟩:=iy h1;exact⟨_,fs,rfl,by rw[<- (show k=cn from d)];exact zN f,j,g⟩
 ·exact h.elim
def jL{d:mK}(hC:ClK X.K cn C)(G:Gw X.prog X.w X.K X.mg X.base k C m ps F)(hr:Room k X.A)(ho:AE X e c)(ha:AL X (a::es) d)(hl:∀τ S as S',d τ S=.ok as S'->as.length+1=ps.length)
  (Z:starEach (a::es) X.env=(false,eval a X.env)::starEach es X.env<|>ε) (hpl:((backTo cpos<|starEach es X.env).any (·.1)=false)<|>ε)
  {pl:Sem Bool} (ht:(eval (.Call (.Attribute e m apos) (a::es) [] cpos) X.env=(do
   let ov <- eval e X.env
   standAt apos.atName
   let(f,first) <- holding [ov] (getMethod ov m pl)
   callWith cpos f first (backTo cpos<|starEach (a::es) X.env) (backToKw cpos<|keywordEach [] X.env)))<|>ε) :
  AE X (.Call (.Attribute e m apos) (a::es) [] cpos) (iX cn m F c d):=by
 obtain⟨f,fd,T,V,P⟩:=G;refine PE.imp (M9 ho hC.c V T hr P .nil (v9 (X:=X) rfl rfl) ha Z hpl ht) λσ H Q ⟨ρ,S,τ,R,r,h⟩=>⟨ρ,S,τ,R,r,gP (gU h) .refl λo S1 h1 ρ1 H1 x e1 R1 v1=>?_⟩;obtain⟨n,fs,rfl,Y,L,h1⟩:=yr h1
 cases v1 with
 | @ref p n hp=>
  obtain⟨dx,ws,U,q⟩:=R1.ob hp Y hC.n;refine⟨p,dx,ws,rfl,U,(q.look (f:=m)).1 L,ρ1,S1,τ,R1,r.ext e1,?_⟩;have j:=gU h1
  cases hd:d τ S1 with
  | no=>rw[hd]at j;exact j
  | ex c B=>rw[hd]at j;exact XE.ext j e1
  | ok as B=>
   rw[hd]at j;intro J H2 vs e2 R2 N;rw[bT];refine⟨by rw[bq,<- N.length];exact hl τ S1 as B hd,J,B,_,R2,.cons (.ref<|e2.get hp) N,jE j (λa O q g H3 v e3=>q g H3 v<|(e1.trans e2).trans e3) λc O q C g H3 n e3=>q C g H3 n<|(e1.trans e2).trans e3⟩
def Mn(U:ClK X.K cn C)(G:Gw X.prog X.w X.K X.mg X.base k C m ps F)(Z:Room k X.A)(ho:AE X e c)(hl:1=ps.length<|>ε)
  {pl:Sem Bool} (ht:(eval (.Call (.Attribute e m apos) [] [] cpos) X.env=(do
   let ov <- eval e X.env
   standAt apos.atName
   let(f,first) <- holding [ov] (getMethod ov m pl)
   callWith cpos f first (backTo cpos<|starEach [] X.env) (backToKw cpos<|keywordEach [] X.env)))<|>ε) :
  AE X (.Call (.Attribute e m apos) [] [] cpos) (iX cn m F c gR):=by
 obtain⟨f,fd,J,N,B⟩:=G;refine PE.imp (Jx ho U.c N J Z B .nil (v9 (X:=X) rfl rfl) ht) λσ H Q ⟨ρ,S,τ,R,r,h⟩=>⟨ρ,S,τ,R,r,gP (gU h) .refl λo S1 h1 ρ1 H1 x e1 R1 v1=>?_⟩;obtain⟨n,fs,rfl,O,g,h1⟩:=yr h1
 cases v1 with
 | @ref p n hp=>
  obtain⟨dx,ws,L,q⟩:=R1.ob hp O U.n;refine⟨p,dx,ws,rfl,L,(q.look (f:=m)).1 g,?_⟩;exact⟨hl,ρ1,S1,_,R1,.one<|.ref hp,jE h1 (λa j q d H3 v e3=>q d H3 v<|e1.trans e3) λc j q C d H3 n e3=>q C d H3 n<|e1.trans e3⟩
abbrev U4 (P:ah)(w:af)(K:az)(mg:Str->bd)(base:au)(k:Nat)(C:aj)(F:ae->gS->R A):Prop:=
 ∃(f:aj) (fd:FuncData),FnOk P w K mg base rz k f fd ["self"] (tu K 1 F)/\Mk K C f/\Binds K fd ["self"] []
abbrev Bu (cn:Str)(F:ae->gS->R A):Ex:=λ_ S=>match F [.ref S.length] (S++[.obj cn []])with
 | .ok .non d=>.ok (.ref S.length) d
 | _=>.no
def Ng(Z:ClK X.K cn C)(G:U4 X.prog X.w X.K X.mg X.base k C F)(hr:Room (k+1) X.A)(hm:X.mg cn=some (.ref C))(hg:Gl X cn<|>ε)(U:(cn == ("__debug__" : Str))=false<|>δ):AE X (.Call (.Name cn p) [] [] pos) (Bu cn F):=by
 obtain⟨f,fd,L,O,J⟩:=G;refine PE.imp (Iz O L hr hg hm J .nil NG U) λσ H Q ⟨ρ,S,τ,R,r,h⟩=>?_;intro x dx P B ne;rw[bT];have g:upd H dx (.own x) x=none:=by rw[gV<|bP ne];exact P
 obtain⟨e1,R1⟩:=R.im (u:=.own x) B;have ex:Ext ρ (ρ++[x]) H (upd (upd H dx<|.own x) x<|.ins C dx []):=e1.trans<|Ext.lay g;obtain⟨R2,d⟩:=R1.Va (o:=.obj cn []) (u:=.ins C dx []) g ⟨[],⟨C,dx,Z.n,iF⟩,trivial⟩;have h:Am.R.post (match F [.ref S.length] (S++[.obj cn []])with
  | .ok .non j=>.ok (.ref S.length) j
  | _=>.no) (sF X ρ H Q) (XE X ρ H):=h
 cases m:F [.ref S.length] (S++[.obj cn []])with
 | ex c j=>rw[m]at h;exact h.elim
 | no=>rw[m]at h;exact h.elim
 | ok y j=>
  rw[m]at h
  cases y with
  | non=>exact⟨rfl,_,_,[.ref S.length],.non,j,R2,.one<|.ref d,m,λρ' H' v e N hv=>⟨by cases hv;rfl,h ρ' H' _ (ex.trans e) N<|.ref<|e.get d⟩⟩
  | _=>exact h.elim
end
def iY{d:mK}{n:Nat}(h:∀τ S as S',d τ S=.ok as S'->as.length=n):∀τ S as S',d τ S=.ok as S'->as.length+1=n+1:=λτ S as S' e=>cW (·+1)<|h τ S as S' e
abbrev Pw (st:aG)(j:Nat):aG:=match st with
 | .ClassDef _ _ _ body _ _ _ _ _ _ _=>body.getD j (.Pass ⟨0,0,0,0⟩)
 | _=>.Pass ⟨0,0,0,0⟩
abbrev LD (K:az)(C:aj)(m qual:Str)(st:aG):Prop:=∃(f:aj) (fd:FuncData),Meth K C m f/\Fun K m qual st f fd
abbrev RW (K:az)(C:aj)(qual:Str)(st:aG):Prop:=∃(f:aj) (fd:FuncData),Mk K C f/\Fun K "__init__" qual st f fd
section
variable {P:ah}{w:af}{K:az}{mg:Str->bd}{base:au}{m qual:Str}{st:aG}{ps:ar}{k:Nat}{F:ae->gS->R A}{C f:aj}{oc:aa}{od an:Option aj}{osl:Array (bd)}{kV doc pm cdv ct:aa}
def LD.of(a:PySem.W.findIn K (.ref C) m=some (some<|.ref f))(n:PySem.W.isFn K (.ref f)=true)(l:K.lookup f=some ⟨oc,od,.func<|PySem.W.fnOf m qual (mO st) (j5 st) (g7 st) .none kV doc pm an cdv ct,osl⟩)(c:PySem.W.codeIn K cdv qual=true)(k:PySem.W.keepIn K (.ref f)=true):LD K C m qual st:=⟨f,_,⟨a,n,k⟩,CD l c k⟩
def RW.of(a:PySem.W.makesIn K C=true)(b:PySem.W.findIn K (.ref C) "__init__" = some (some<|.ref f))(n:PySem.W.isFn K (.ref f)=true)(j:PySem.W.keepIn K (.ref C)=true)(l:K.lookup f=some ⟨oc,od,.func<|PySem.W.fnOf "__init__" qual (mO st) (j5 st) (g7 st) .none kV doc pm an cdv ct,osl⟩)(c:PySem.W.codeIn K cdv qual=true)(k:PySem.W.keepIn K (.ref f)=true):RW K C qual st:=⟨f,_,⟨a,b,n,j⟩,CD l c k⟩
meta abbrev Vq (x qual:Str)(st:aG)(ps:ar):Prop:=∀us:ba,us.length=ps.length->∀(kV doc pm:aa) (an:Option aj) (cdv ct:aa),bindArgs (PySem.W.fnOf x qual (mO st) (j5 st) (g7 st) .none kV doc pm an cdv ct) ⟨us,[]⟩=pure (ps.zip us)
def LD.mk(d:LD K C m qual st)(h:∀{f fd},Fun K m qual st f fd->FnOk P w K mg base (vj P w) k f fd ps (zW K ps.length F))(b:Vq m qual st ps):Gw P w K mg base k C m ps F:=by
 obtain⟨f,fd,a,F⟩:=d;exact⟨f,fd,h F,a,F.binds λkV doc pm an cdv ct us g=>b us g kV doc pm an cdv ct⟩
def RW.mk(d:RW K C qual st)(h:∀{f fd},Fun K "__init__" qual st f fd->FnOk P w K mg base rz k f fd ["self"] (tu K 1 F))(b:Vq "__init__" qual st ["self"]):U4 P w K mg base k C F:=by
 obtain⟨f,fd,a,F⟩:=d;exact⟨f,fd,h F,a,F.binds λkV doc pm an cdv ct us g=>b us g kV doc pm an cdv ct⟩
end
end Am
namespace L2
open PySem PySem.Spec PyProof.Rows
section
variable {P:ah}{w:af}
meta abbrev Ent:=List Key×aj×aa
meta abbrev tK (P:ah)(w:af):=tupleKind<|iR P w
abbrev U0 (ps:List Ent):List Ent:=ps.foldl (λacc p=>storedH acc p.1 p.2.1 p.2.2) []
end
section
variable {P:ah}{w:af}
abbrev th (P:ah)(w:af)(k:List Key):Int:=(tK P w).hash k
end
end L2
namespace Am
open PySem PySem.Spec PyProof.Rows L2
abbrev mw (kvs:List<|Str×A)(k:Str):List (Str×A):=kvs.filter λd=>!decide (d.1=k)
section
variable {K:az}{ρ:bb}{H:Hp}
theorem DS.drop(k:Str):∀{kvs:List<|Str×A}{ks:List<|Key×V},DS K ρ H kvs ks->DS K ρ H (mw kvs k) (uY ks (Sum.inr k:Key))
 | [],[],_=>trivial
 | p::r,q::r',⟨⟨e,a⟩,t⟩=>by
  have d:=DS.drop k t;unfold mw uY at *
  by_cases c:p.1=k
  ·rw[cN<|by simp[c],cN<|by simp[e,c]];exact d
  ·rw[cY<|by simp[c],cY<|by rw[e];simpa using λz=>c z];exact⟨⟨e,a⟩,d⟩
end
section
variable {X:Cx}{pos:Pos}{a b:aF}
abbrev Gm (j:Bool)(x y:A)(S:gS):R A:=match x,y with
 | .str k,.ref n=>opt (iW S n) λkvs=>.ok (.bl<|if j then !(iL kvs k).isSome else(iL kvs k).isSome) S
 | _,_=>.no
def Ax(j:X.A.units+64<cLine):kC X (compareOp .NotIn) (r2 X<|Gm true):=λpins s σ H x y v u Q I rx ry h9=>by
 w_up
 cases va with
 | str k=>
  cases vb with
  | @ref p n hp=>
   obtain⟨kvs,hn,h⟩:=gZ h;obtain⟨ks,e,d⟩:=R.ly hp<|iD hn;exact FZ () pins s σ H _ _ v u Q I rx ry ⟨p,_,rfl,vD.k (k:=Sum.inr k) e,by rw[<- (d.look k).1];exact h _ _ _ .refl R<|.bl _⟩
  | _=>exact h.elim
 | _=>exact h.elim
abbrev AQ (x:A)(S:gS):R A:=match x with
 | .ref n=>opt (iW S n) λkvs=>.ok (.int kvs.length) S
 | _=>.no
def OL:iQ X (.builtin "len") (rN X<|f1 AQ):=λpins s σ H xs us Q I r h0=>by
 k_ne;clear h0
 cases hv with
 | ref hp=>
  obtain⟨kvs,hn,h⟩:=gZ h;obtain⟨ks,e,d⟩:=R.ly hp<|iD hn;kcj_m
  cases rx
  exact Rq I (.inl e) λt s' f=>⟨.int ks.length,H,f,⟨_,rfl⟩,by rw[<- d.length];exact h _ _ _ .refl R<|.int _⟩
 | _=>exact h.elim
abbrev zc (o:A)(j:ae)(S:gS):R A:=match o,j with
 | .ref n,[.str k]=>opt (iW S n) λkvs=>.ok ((iL kvs k).getD .non) S
 | _,_=>.no
abbrev DH (o:A)(j:ae)(S:gS):R A:=match o,j with
 | .ref n,[.str k]=>opt (iW S n) λkvs=>opt (iL kvs k) λx=>.ok x (S.set n<|.ly<|mw kvs k)
 | _,_=>.no
def VL {g:Nat->Str->R A}{o:A}{j:ae}{P:A->gS->Prop}{E:Str->gS->Prop}(h:(match o,j with
 | .ref n,[.str k]=>g n k
 | _,_=>.no:R A).post P E):∃n k,o=.ref n/\j=[.str k]/\(g n k).post P E:=by
 split at h
 ·exact⟨_,_,rfl,rfl,h⟩
 ·exact h.elim
def MZ(U:X.A.units+64<cLine):Cb X "dict.get" (rM X zc):=λpins s σ H x vs v us Q I rx m h9=>by
 obtain⟨ρ,S,o,N,R,g,va,h⟩:=h9;obtain⟨n,k,C,has,h⟩:=VL h;obtain⟨kvs,hn,hP⟩:=gZ h;subst C has;obtain⟨O,rfl,G⟩:=AX va
 cases G
 cases g with
 | @ref p _ hp=>
  obtain⟨ks,h1,K⟩:=R.ly hp (iD hn)
  cases rx
  obtain⟨L,rfl,r1⟩:=vals1 m;refine QB () I (vD.k (k:=Sum.inr k) h1) r1 λP s' B f=>⟨_,H,B,f,hP _ _ _ .refl R ?_⟩;obtain⟨d,F⟩:=K.look k
  cases e1:iL kvs k with
  | none=>
   rw[e1]at d
   cases e2:pV ks (Sum.inr k:Key)with
   | none=>exact .non
   | some _=>rw[e2]at d;cases d
  | some j=>
   obtain⟨v1,e2,J⟩:=F j e1;rw[e2];exact J
def Pz:Cb X "dict.pop" (rM X DH):=λpins s σ H x vs v us Q I rx j h9=>by
 obtain⟨ρ,S,o,K,R,g,va,h⟩:=h9;obtain⟨n,k,F,has,h⟩:=VL h;obtain⟨kvs,hn,h⟩:=gZ h;obtain⟨y,hy,hP⟩:=gZ h;subst F has;obtain⟨L,rfl,G⟩:=AX va
 cases G
 cases g with
 | @ref p _ hp=>
  obtain⟨ks,h1,f⟩:=R.ly hp (iD hn)
  cases rx
  obtain⟨J,rfl,r1⟩:=vals1 j;obtain⟨w,hw,m⟩:=(f.look k).2 y hy;obtain⟨ex,C⟩:=R.nX hp (iD hn)<|f.drop k;exact R_ I h1 (k:=Sum.inr k) r1 hw (.inl rfl) λN s' B d=>⟨w,_,B,d,hP _ _ _ ex C<|m.ext ex⟩
abbrev Ju (x y:A)(S:gS):R Unit:=match x,y with
 | .ref n,.str k=>opt (iW S n) λkvs=>gd ((iL kvs k).isSome=true) (.ok Unit.unit<|S.set n<|.ly<|mw kvs k)
 | _,_=>.no
abbrev yj (co j:Ex):Sm:=λτ S=>.of (co τ S) λx S1=>.of (j τ S1) λy d=>.of (Ju x y d) λ_ f=>.nx τ f
def Gk{x:A}{S:gS}{P:Unit->gS->Prop}{E:Str->gS->Prop}(h:(Ju x y S).post P E):∃n k kvs,x=.ref n/\y=.str k/\iW S n=some kvs/\(iL kvs k).isSome=true/\P Unit.unit (S.set n<|.ly<|mw kvs k):=by
 unfold Ju at h;split at h
 ·obtain⟨kvs,hn,h⟩:=gZ h;obtain⟨d,h⟩:=iy h;exact⟨_,_,kvs,rfl,rfl,hn,d,h⟩
 ·exact h.elim
def E5{co L:Ex}(U:AE X o co)(hi:AE X i L):AS X (.Delete [.Subscript o i spos] pos) (yj co L):=PS.imp (Nh U hi) λD σ H h9=>by
 room;refine⟨ρ,S,τ,R,r,gP (of_post h) .refl λx S1 h1 ρ1 H1 v e1 R1 v1=>⟨ρ1,S1,τ,R1,r.ext e1,gP (of_post h1) e1 λy K m f H2 w e2 R2 j=>?_⟩⟩;obtain⟨n,k,kvs,J,hy,hn,B,G⟩:=Gk<|of_post m;subst J hy
 cases j
 have d:=v1.ext e2
 cases d with
 | @ref p _ hp=>
  obtain⟨ks,C,g⟩:=R2.ly hp<|iD hn;obtain⟨ex,F⟩:=R2.nX hp (iD hn)<|g.drop k;exact⟨p,ks,Sum.inr k,rfl,C,rfl,by rw[<- (g.look k).1];exact B,G f _ _ ((e1.trans e2).trans ex) F<|((r.ext e1).ext e2).ext ex⟩
def Cs:iQ X (.type "dict") (λxs H Q=>∃(p:aj) (kvs:List<|Key×V),xs=[.ref p]/\H p=some (.dK kvs)/\∀l,H l=none->Q (.ref l) (upd H l<|.dK kvs)):=by
 fin2;obtain⟨p,kvs,rfl,g,q⟩:=h;kcj_m
 cases rx
 obtain⟨z,hd,vs,d,dd⟩:=BK I.hok g;refine PySem.kt_call_dict hd dd (by rw[<- d.length];exact z) λh' dd' hs=>?_;have hp:=I.hok.fresh<|aO s.heap.objs.size;have k:∀b u,s.heap.get? b=some u->h'.get? b=some u:=λb u e=>by
  have f:b≠s.heap.objs.size:=br<|aS e;exact(hs.2 b f).trans (aI _ e)
 refine⟨.ref s.heap.objs.size,_,I.laid (t':=s.toks) k (aO _)<|zb z ?_ d dd',rfl,q _ hp⟩;have:sysModules<s.heap.objs.size:=I.big;simpa using (ez this)
abbrev xg (x:A)(S:gS):R A:=match x with
 | .ref n=>opt (iW S n) λkvs=>.ok (.ref S.length) (S++[.ly kvs])
 | _=>.no
def Fi:iQ X (.type "dict") (rN X<|f1 xg):=iQ.imp Cs λvs H Q h0=>by
 k_ne;clear h0
 cases hv with
 | @ref p n hp=>
  obtain⟨kvs,hn,h⟩:=gZ h;obtain⟨ks,e,d⟩:=R.ly hp<|iD hn;refine⟨p,ks,rfl,e,λl f=>?_⟩;obtain⟨ex,g,f⟩:=R.Tz (xs:=kvs) (vs:=ks) f d;exact h _ _ _ ex g<|.ref f
 | _=>exact h.elim
end
abbrev Rb (w:af):List (Str×Int)->List (Tok×Tok)->List DictEntry
 | (k,i)::r,(t,u)::ts=>⟨PyData.keyHash w.params k,.str k t,.int i u⟩::Rb w r ts
 | _,_=>[]
abbrev LG:List (Str×Int)->List (Tok×Tok)->List (Key×aa)
 | (k,i)::r,(_,u)::ts=>(Sum.inr k,.int i u)::LG r ts
 | _,_=>[]
abbrev KdS (w:af)(K:az)(a:aj)(kvs:List<|Str×Int):Prop:=
 ∃(ts:List<|Tok×Tok) (n:Nat),ts.length=kvs.length/\(kvs.map (·.1)).Nodup/\(a == sysModules)=false/\K.lookup a=some { cls:=.type "dict",dict:=none,data:=.dict (Rb w kvs ts).toArray n,slots:=#[]}
abbrev jI (kvs:List<|Str×Int)(k:Str):be:=(kvs.find? λd=>decide<|d.1=k).map (·.2)
section
variable {P:ah}{w:af}{K:az}{a:aj}{kvs:List (Str×Int)}
def NB(k:Str)(t:Tok):(iR P w).is (Sum.inr k) (.str k t)=true:=by
 show wK (Sum.inr k) (.str k t)=true;exact rG (P:=P) (w:=w) (k:=Sum.inr k) ⟨t,rfl⟩
theorem Fd:∀(kvs:List<|Str×Int) (ts:List<|Tok×Tok),∀e∈Rb w kvs ts,∃k,(iR P w).is k e.key=true/\e.hash=(iR P w).hash k
 | [],_,e,h=>by cases h
 | _::_,[],e,h=>by cases h
 | (k,i)::r,(t,u)::ts,e,h=>by
  rcases bG.mp h with z|z
  ·subst z;exact⟨Sum.inr k,NB k t,rfl⟩
  ·exact Fd r ts e z
theorem Ah:∀(kvs:List<|Str×Int) (ts:List<|Tok×Tok),Pairs (iR P w) (Rb w kvs ts) (LG kvs ts)
 | [],_=>.nil
 | _::_,[]=>.nil
 | (k,i)::r,(t,u)::ts=>.cons (NB k t) rfl<|Ah r ts
theorem AK:∀(kvs:List<|Str×Int) (ts:List<|Tok×Tok),ts.length=kvs.length->(LG kvs ts).map (·.1)=kvs.map λkv=>(Sum.inr kv.1:Key)
 | [],_,_=>rfl
 | (k,i)::r,(t,u)::ts,h=>by
  show Sum.inr k::_=_;rw[AK r ts<|by simpa using h];rfl
theorem zJ(k:Str):∀(kvs:List<|Str×Int) (ts:List<|Tok×Tok),ts.length=kvs.length->(jI kvs k=none->valueAt (LG kvs ts) (Sum.inr k:Key)=none)/\∀i,jI kvs k=some i->∃u,valueAt (LG kvs ts) (Sum.inr k:Key)=some (.int i u)
 | [],_,_=>⟨λ_=>rfl,λi h=>nomatch h⟩
 | (k',j)::r,(t,u)::ts,h=>by
  have d:=zJ k r ts (by simpa using h);by_cases c:k'=k
  ·subst c;refine⟨λh=>?_,λi h=>?_⟩
   ·simp[jI]at h
   ·have:i=j:=by simpa[jI]using h.symm
    subst this;exact⟨u,by simp[LG,valueAt]⟩
  ·have e1:jI ((k',j)::r) k=jI r k:=by simp[jI,cL,c]
   have e2:valueAt (LG ((k',j)::r) ((t,u)::ts)) (Sum.inr k:Key)=valueAt (LG r ts) (Sum.inr k:Key):=by simp[valueAt,LG,cL,c]
   rw[e1,e2];exact d
def KdS.dict{h:au}(k:KdS w K a kvs)(X:K.In h):(a == sysModules)=false/\∃ts:List<|Tok×Tok,ts.length=kvs.length/\h.DictOf (iR P w) a (LG kvs ts):=by
 obtain⟨ts,n,d,hn,hs,e⟩:=k;refine⟨hs,ts,d,_,_,n,X _ _ e,⟨rfl,rfl,rfl⟩,rfl,λe f=>Fd kvs ts e<|by simpa using f,by simpa using Ah kvs ts,?_⟩;rw[AK kvs ts d];have:(kvs.map λg=>(Sum.inr g.1:Key))=(kvs.map (·.1)).map Sum.inr:=by rw[cV];rfl
 rw[this];exact hn.map _ λx y h z=>h<|by injection z
end
section
variable {X:Cx}{pos p np cpos:Pos}{e:aF}{x:Str}{a C:aj}{kvs:List (Str×Int)}{c:Ex}
abbrev Iv (kvs:List<|Str×Int)(j:Bool)(y:A)(S:gS):R A:=match y with
 | .str k=>.ok (.bl<|if j then !(jI kvs k).isSome else(jI kvs k).isSome) S
 | _=>.no
abbrev Mp (kvs:List<|Str×Int)(y:A)(S:gS):R A:=match y with
 | .str k=>opt (jI kvs k) λi=>.ok (.int i) S
 | _=>.no
abbrev VE (a:aj)(f:Str->Hp->VK->Prop):R2:=λy x H Q=>∃k,y=.str k/\x=.ref a/\f k H Q
def Nb(J:KdS X.w X.K a kvs):kC X (compareOp .NotIn) (VE a λk H Q=>Q (.bl<|!(jI kvs k).isSome) H):=λpins s σ H y z v u Q I ry rx ⟨k,hy,j,q⟩=>by
 subst hy j;obtain⟨hs,ts,f,dd⟩:=J.dict (P:=X.prog) I.rQ
 cases rx
 refine wpAny_notIn_of (rG (k:=Sum.inr k) ry) hs dd.mapOf ⟨.bl _,H,I.tok _,rfl,?_⟩;obtain⟨d,g⟩:=zJ k kvs ts f;dsimp only at q
 cases e1:jI kvs k with
 | none=>rw[d e1];rw[e1]at q;exact q
 | some i=>obtain⟨u,e2⟩:=g i e1;rw[e2];rw[e1]at q;exact q
def Uu(J:KdS X.w X.K a kvs):Ol X (λx y H Q=>∃k i,x=.ref a/\y=.str k/\jI kvs k=some i/\Q (.int i) H):=λvalue f pins s σ H x y v u Q I rx ry ⟨k,i,p,hy,hi,q⟩ hs=>by
 subst p hy;obtain⟨_,ts,m,dd⟩:=J.dict (P:=X.prog) I.rQ
 cases rx
 obtain⟨t,hv⟩:=(zJ k kvs ts m).2 i hi;have j:=dd.typeIs (s:=s);unfold subscriptTail;refine aH ?_;rw[getitemInPython_of_ne j.not_modules];refine aH<|wpAny_specialOf j PySem.F.slot_dict_getitem.lookup ?_;have d:wpAny (model X.prog X.w) X.A (subscripted f false (.ref a) u) (λr g=>wpAny (model X.prog X.w) X.A (letTemporaryGo value (.ref a) r >>= λ_=>pure r) (EP X pins σ Q) X.xe g) X.xe s:=by
  rw[hs];exact wpAny_operating<|wpAny_getItem_of (rG (k:=Sum.inr k) ry) dd.mapOf hv<|aH<|wpAny_letTemporaryGo<|aL ⟨.int i,H,I.tok _,⟨t,rfl⟩,q⟩
 first
  | exact aL (aH d)
  | exact aH d
  | exact d
def Na{f:A->gS->R A}{v:V}{r:R2}{H:Hp}{Q:VK}(hf:∀ρ S b x H Q,Rel X.K ρ H S->AV X.K ρ H b x->(f b S).post (sF X ρ H Q) (XE X ρ H)->r x v H Q)(h:tE X (GJ f c) σ H Q):Q2 r (tE X c) (tC v) σ H Q:=by
 obtain⟨ρ,S,τ,R,d,h⟩:=h;exact⟨ρ,S,τ,R,d,gP (gU h) .refl λb S1 h1 ρ1 H1 x e1 R1 v1=>hf ρ1 S1 b x H1 Q R1 v1<|gP h1 e1 λ_ _ z=>z.ext e1⟩
def OI{j:Bool}{f:Str->Bool}(hf:∀k,f k=if j then !(jI kvs k).isSome else(jI kvs k).isSome):∀ρ S b x H Q,Rel X.K ρ H S->AV X.K ρ H b x->(Iv kvs j b S).post (sF X ρ H Q) (XE X ρ H)->VE a (λk H Q=>Q (.bl<|f k) H) x (.ref a) H Q:=λρ S b x H Q R vb h=>by
 cases vb with
 | str k=>exact⟨k,rfl,rfl,by show Q (.bl<|f k) H;rw[hf];exact h _ _ _ .refl R<|.bl _⟩
 | _=>exact h.elim
def LR{j:Ex}{H:Hp}{Q:Bool->Hp->Prop}(h:tT X (mF j) σ H Q):tE X j σ H λv H1=>∃k,v=.bl k/\Q k H1:=by
 gp_on;refine⟨ρ,S,τ,R,r,gP (gU h) .refl λc S1 h1 ρ1 H1 x e1 R1 v1=>?_⟩
 cases c with
 | bl k=>cases wZ v1;exact⟨k,rfl,h1 ρ1 H1 e1 R1⟩
 | _=>exact h1.elim
def Nc(j:KdS X.w X.K a kvs)(J:X.mg x=some (.ref a))(L:AE X e c)(hg:Gl X x<|>ε)(hd:(x == ("__debug__" : Str))=false<|>δ):AT X (.Compare e [.NotIn] [.Name x p] pos) (mF<|GJ (Iv kvs true) c):=
 PT.imp (Dz (Nb j) L (qW (v:=.ref a) hg J rfl hd)<|by with_unfolding_all rfl) λσ H Q h=>Na (OI λ_=>rfl)<|LR h
def QF(j:KdS X.w X.K a kvs)(J:X.mg x=some (.ref a))(L:AE X e c)(hs:vN e<|>θ)(hg:Gl X x<|>ε)(hd:(x == ("__debug__" : Str))=false<|>δ):AE X (.Subscript (.Name x p) e pos) (GJ (Mp kvs) c):=
 PE.imp (Lh (Uu j) (qW (v:=.ref a) hg J rfl hd) L hs) λσ H Q h9=>by
  obtain⟨ρ,S,τ,R,d,h⟩:=h9;refine⟨ρ,S,τ,R,d,gP (gU h) .refl λb S1 h1 ρ1 H1 x e1 R1 v1=>?_⟩
  cases v1 with
  | str k=>
   obtain⟨i,hi,h1⟩:=gZ h1;exact⟨k,i,rfl,rfl,hi,h1 _ _ _ e1 R1<|.int i⟩
  | _=>exact h1.elim
abbrev Q6 (K:az)(a:aj):Option (ar):=match K.lookup a with
 | some ⟨.type "tuple",none,.seq its _,_⟩=>if its.size<=sizeLine then its.toList.mapM λv=>match v with
  | .str x _=>some x
  | _=>none else none
 | _=>none
theorem vH{K:az}{ρ:bb}{H:Hp}:∀{vs:ba}{xs:ar},(vs.mapM λv=>match v with
  | .str x _=>some x
  | _=>none)=some xs->Vals (xs.map V.str) vs/\AVs K ρ H (xs.map .str) (xs.map V.str)
 | [],xs,h=>by cases h;exact⟨.nil,.nil⟩
 | v::vs,xs,h=>by
  rw[List.mapM_cons]at h;obtain⟨x,d,h⟩:=bS.mp h;obtain⟨ys,hy,h⟩:=bS.mp h
  cases h
  obtain⟨g,f⟩:=vH (K:=K) (ρ:=ρ) (H:=H) hy
  cases v with
  | str y t=>cases d;exact⟨.cons ⟨t,rfl⟩ g,.cons (.str _) f⟩
  | _=>cases d
def Qm{K:az}{H:Hp}{a:aj}{xs:ar}(h:Q6 K a=some xs):AV K ρ H (.ktu<|xs.map .str) (.ref a):=by
 unfold Q6 at h;split at h
 ·rename_i d n k e;split at h
  ·rename_i g;obtain⟨j,f⟩:=vH (K:=K) (ρ:=ρ) (H:=H) h;exact .ktu ⟨_,d,n,e,rfl,rfl,rfl,g,j⟩ f
  ·cases h
 ·cases h
def Lj{xs:ar}(j:X.mg x=some (.ref a))(J:Q6 X.K a=some xs)(hg:Gl X x<|>ε)(hd:(x == ("__debug__" : Str))=false<|>δ):AE X (.Name x pos) (eC<|.ktu<|xs.map .str):=
 PE.imp (qW (v:=.ref a) hg j rfl hd) λσ H Q h9=>by
  room;exact h ρ H _ .refl R<|Qm J
abbrev Fv (x:Str)(c:Ex):Sm:=λτ S=>.of (c τ S) λ_ S1=>.ex x S1
def Ga(hn:wV X.K x C)(J:PySem.W.excIn X.K C M1 "ValueError.__new__" = true)(hh:X.A.handled=none)(L:AE X e c)(hg:Gl X x<|>ε)
  (hs:starEach [e] X.env=(false,eval e X.env)::starEach [] X.env<|>ε) (j:((backTo cpos<|starEach [] X.env).any (·.1)=false)<|>ε) (hd:(x == ("__debug__" : Str))=false<|>δ) :
  AS X (.Raise (some<|.Call (.Name x np) [e] [] cpos) none pos) (Fv x c):=by
 intro pins s σ H D I ⟨ρ,S,τ,R,r,h⟩;refine wO (Js I.mod hn J) ef hh (lI L qw hs) hg hs j hd pins s σ H D I ?_;exact⟨ρ,S,τ,R,r,gP (of_post h) .refl λv S1 h1 ρ1 H1 w e1 R1 v1=>⟨(show 1<=sizeLine by decide),h1 C ρ1 H1 hn e1 R1⟩⟩
abbrev UM:Ex:=λ_ _=>.no
def Se:AE X e UM:=λpins s σ H Q I ⟨ρ,S,τ,R,r,h⟩=>h.elim
end
end Am
namespace L2
open PySem PySem.Spec PyProof.Rows
section
variable {X:Cx}
abbrev Q0:List (Str ⊕ TE)->Str->St->Hp->(Str->Hp->Prop)->Prop
 | [],out,_,H,k=>k out H
 | .inl x::ps,out,σ,H,k=>x.length<=1000/\Q0 ps (out++x) σ H k
 | .inr t::ps,out,σ,H,k=>t σ H λv H'=>(∃i,v=.int i/\i.natAbs.log2<64/\Q0 ps (out++Str.ofString (toString i)) σ H' k)\/∃y:Str,v=.str y/\y.length<=1000/\Q0 ps (out++y) σ H' k
theorem vI{Q:VK}:∀{es:List aF}{ps:List<|Str ⊕ TE},FParts X es ps->∀(H:Hp) (s:aE) (out:Str),Inv X pins σ H s->out.length+2000 * es.length<=sizeLine ->
  Q0 ps out σ H (λx H'=>Q (.str x) H')->wpAny (model X.prog X.w) X.A (joinParts out<|evalEach es X.env) (EP X pins σ Q) X.xe s
 | _,_,.nil,H,s,out,I,f,h=>joinParts_nilE (joinParts_nil (show EP X pins σ Q _ _ from⟨.str out,H,I.tok _,⟨_,rfl⟩,h⟩)<|by simpa using f)
 | _,_,.txt (x:=x) hp,H,s,out,I,f,h=>by
  refine fU<|joinParts_cons<|f6 ?_;rw[bq]at f;have g:=h.1;have d:(out++x).length=out.length+x.length:=fM ..;exact⟨by rw[d];lia,vI hp H _ _ (I.tok _) (by rw[d];lia) h.2⟩
 | _,_,.val (e:=e) (t:=t) he hp,H,s,out,I,f,h=>by
  rw[bq]at f;refine fU (joinParts_cons<|FormattedValue_plain<|jz (he pins s σ H _ I h) λv B ⟨x,H1,j,r1,m⟩=>?_)
  rcases m with⟨i,g,hi,h1⟩|⟨y,g,hi,h1⟩
  ·subst g;obtain⟨tk,rfl⟩:=r1;refine formatField_int_small () ?_;have p:(Str.ofString<|toString i).length<=65:=by
    have:=int_text_length_le (a:=i) (k:=64) ⋯ hi;rw[PySem.ofString_length];exact this
   have d:(out++Str.ofString (toString i)).length=out.length+(Str.ofString<|toString i).length:=fM ..;exact⟨by rw[d];lia,vI hp H1 _ _ (j.tok _) (by rw[d];lia) h1⟩
  ·subst g;obtain⟨tk,rfl⟩:=r1;have d:(out++y).length=out.length+y.length:=fM ..;refine PyProof.Rows.formatField_str (λC k=>?_) ();exact⟨by rw[d];lia,vI hp H1 _ _ (j.tok _) (by rw[d];lia) h1⟩
abbrev V1 (ps:List<|Str ⊕ TE):TE:=λσ H Q=>Q0 ps Str.empty σ H λx H'=>Q (.str x) H'
def RA{ps:List<|Str ⊕ TE}(h:FParts X (e1::e2::es) ps)(j:2000 * (e1::e2::es).length<=sizeLine<|>δ):PE X (.JoinedStr (e1::e2::es) pos) (V1 ps):=
 λpins s σ H Q I q=>JoinedStr_many<|vI h H s Str.empty I (by rw[show Str.empty.length=0 from rfl,zero_add];exact j) q
end
end L2
namespace Am
open PySem PySem.Spec PyProof.Rows L2
section
variable {X:Cx}{pos:Pos}
abbrev Q7:List (Str ⊕ Ex)->Str->ae->gS->R Str
 | [],out,_,S=>.ok out S
 | .inl x::ps,out,τ,S=>gd (x.length<=1000) (Q7 ps (out++x) τ S)
 | .inr e::ps,out,τ,S=>(e τ S).bind λv S1=>match v with
  | .int i=>gd (i.natAbs.log2<64) (Q7 ps (out++Str.ofString (toString i)) τ S1)
  | .str y=>gd (y.length<=1000) (Q7 ps (out++y) τ S1)
  | _=>.no
abbrev Nt (ps:List<|Str ⊕ Ex):Ex:=λτ S=>(Q7 ps Str.empty τ S).bind λx d=>.ok (.str x) d
theorem zC{H0:Hp}{k:Str->Hp->Prop}:∀(ps:List<|Str ⊕ Ex) (out:Str) (ρ:bb) (H:Hp) (S:gS),Ext ρ0 ρ H0 H->Rel X.K ρ H S->SR X.K ρ H τ σ ->
  (Q7 ps out τ S).post (λx S'=>∀ρ' H',Ext ρ0 ρ' H0 H'->Rel X.K ρ' H' S'->k x H') (XE X ρ0 H0)->Q0 (QZ X ps) out σ H k
 | [],out,ρ,H,S,e,R,r,h=>h ρ H e R
 | .inl x::ps,out,ρ,H,S,e,R,r,h=>by
  obtain⟨d,h⟩:=iy h;exact⟨d,zC ps _ ρ H S e R r h⟩
 | .inr a::ps,out,ρ,H,S,e,R,r,h=>by
  refine⟨ρ,S,τ,R,r,?_⟩;have h:=gU h;refine jE h (λv S1 h1 ρ1 H1 u e1 R1 v1=>?_) λf S' z=>z.ext e
  cases v with
  | int i=>
   obtain⟨hi,h1⟩:=iy h1
   cases v1
   exact .inl ⟨i,rfl,hi,zC ps _ ρ1 H1 S1 (e.trans e1) R1 (r.ext e1) h1⟩
  | str y=>
   obtain⟨hi,h1⟩:=iy h1
   cases v1
   exact .inr ⟨y,rfl,hi,zC ps _ ρ1 H1 S1 (e.trans e1) R1 (r.ext e1) h1⟩
  | _=>exact h1.elim
def Jy{ps:List<|Str ⊕ Ex}(hp:FParts X (e1::e2::es)<|QZ X ps)(j:2000 * (e1::e2::es).length<=sizeLine<|>δ):AE X (.JoinedStr (e1::e2::es) pos) (Nt ps):=
 PE.imp (RA hp j) λσ H Q h9=>by
 room;exact zC ps _ ρ H S .refl R r<|jE (gU h) (λx S1 h1 ρ1 H1 e1 R1=>h1 ρ1 H1 _ e1 R1<|.str _) λ_ _ z=>z
end
section
@[irreducible] noncomputable def big:Nat:=2 ^ 4096
end
def EA:bootBuiltins "dict" = some (.type "dict"):=by decide +kernel
end Am
namespace Po
open Am
meta abbrev Pl:=List<|Int×Int
abbrev val (d:Pl)(k:Int):Int:=((d.find? λp=>decide<|p.1=k).map (·.2)).getD 0
abbrev has (d:Pl)(k:Int):Bool:=d.any λp=>decide<|p.1=k
abbrev put (d:Pl)(k v:Int):Pl:=if has d k=true then d.map (λp=>if p.1=k then(p.1,v)else p)else d++[(k,v)]
abbrev acc (d:Pl)(k v:Int):Pl:=put d k<|val d k+v
structure Ok (l:Pl):Prop where
 up:l.Pairwise λp q=>p.1<q.1
 nz:∀p∈l,p.2≠0
abbrev turn (a:Pl):Pl:=a.reverse.map λp=>(-p.1,p.2)
abbrev iv (d:Pl):List (Int×A):=d.map λp=>(p.1,.int p.2)
abbrev pA (p:Int×Int):A:=.tup [.int p.1,.int p.2]
abbrev pl (l:Pl):ae:=l.map pA
end Po
namespace Tb
abbrev fg (r:ag)(x:Int):Nat:=r.findIdx λy=>decide<|x<y
abbrev put:List (ag)->Int->List (ag)
 | [],x=>[[x]]
 | r::rs,x=>if fg r x=r.length then(r++[x])::rs else r.set (fg r x) x::put rs (r.getD (fg r x) 0)
abbrev row:List (ag)->Int->Nat
 | [],_=>0
 | r::rs,x=>if fg r x=r.length then 0 else row rs (r.getD (fg r x) 0)+1
abbrev gs (r:ag)(x:Int):am:=(List.range r.length).filter λk=>decide<|x<r.getD k 0
end Tb
namespace Am
open PySem L2
abbrev Rows (S:gS):am->List (ag)->Prop
 | [],[]=>True
 | r::rs,x::T=>gQ S r=some (x.map .int)/\Rows S rs T
 | _,_=>False
def Sk{a:Nat}{xs ys:ag}(h:gQ S a=some (xs.map .int))(h':gQ S b=some (ys.map .int)):yy S 12 (.ref a) (.ref b)=some (decide<|xs=ys):=by
 show(gQ S a).bind (λxs=>(gQ S b).bind λys=>wc (yy S 11) xs ys)=_;rw[h,c8,h',c8];exact ya xs ys
def xA{a:A}{k:Bool}(h:yy S 12 a b=some k):l7 false a b S=.ok (.bl k) S:=by unfold l7;rw[h];rfl
def Lc{xs:ae}{n:Nat}{src:Ic}{t:Te}{e:Ex}{S:gS}(hs:src τ S=.ok (kM n xs.length) S)(j:gQ S n=some xs)(p:A->Bool)(f:A->A)
  (J:∀x∈xs,t (x::jT cap τ) S=.ok (p x) S) (L:∀x∈xs,p x=true->e (x::jT cap τ) S=.ok (f x) S) (U:xs.length<=16777216) :
  kF (none::cap) src (jc 0) t e τ S=.ok (.ref S.length) (S++[.lst<|(xs.filter p).map f]):=by
 have d:∀i,i<xs.length->xs.getD i .unb∈xs:=λi hi=>by
  rw[aX,aN hi];exact c7 hi
 rw[yv hs (λi=>xs.getD i .unb) (λi=>p<|xs.getD i .unb) (λi=>f<|xs.getD i .unb) (λi hi=>by
  have hi:i<xs.length:=hi;show(gQ S n).bind _=_;rw[j,c8,aX,aN hi];rfl) (by
   show(match gQ S n with
    | some ys=>decide (ys.length<=xs.length)
    | none=>false)=true
   rw[j];simp) (λi hi=>J _<|d i hi) (λi hi=>L _<|d i hi) U]
 have:=j7 xs p f .unb;show R.ok _ (S++[O.lst<|((List.range xs.length).filter _).map _])=_;rw[this]
end Am
namespace L2
open PySem PySem.Spec PyProof.Rows
def GB{x:aa}{env j:Env}(h:env.frame=j.frame):noteFrame x env=noteFrame x j:=by
 unfold noteFrame PySem.frameOf;rw[h]
abbrev TM (M:Model)(A:aA)(E:aa->aE->Prop)(use:Option<|aa->Sem Unit)(Q:aa->aE->Prop)(acc:aa)(C:aj)(cenv:Env)(r:Result)(s':aE):Prop:=match r with
 | .ok v=>compPost M A E use Q acc C (.ok v) s'
 | .error x=>∃m,s'.heap.Ns C m/\∀h',Heap.SameBut C s'.heap h'->wpAny M A (PySem.passOn "comprehension.variables-let-go" x cenv:Sem aa) (λ_ _=>False) E { s' with heap:=h' }
def CS{A:aA}{E:aa->aE->Prop}{env:Env}{scope:Scope}{Z first:Sem aa}{g:Comprehension}{gs:List Comprehension}{cl:List<|Str×aj}{use:Option<|aa->Sem Unit}{Q:aa->aE->Prop}
  (hcl:clausesOf e=g::gs) (hs:∀x,foldedSetIterable g.iter env x=pure x) (hclos:closureFor scope env=pure cl) (hk:scope.kind=.function) (hnm:∀x∈scope.names,x.2=.local->scope.names.lookup x.1=some .local)
  (h:wpAny M A first (λx s₁=>wpAny M A (pyIter x) (λit s₂=>wpAny M A Z (λacc s₃=>wpAny M A (newFunctionEnv scope env.globals cl [] env.qual none .none<|some env) (λcenv s₄=>
   codeAny M A (.compStart e 0 it acc { cenv with scope:=relabel scope env }) (TM M A E use Q acc cenv.locals { cenv with scope:=relabel scope env }) s₄) E s₃) E s₂) E s₁) E s):wpAny M A (comprehension e scope env pos Z false first use) Q E s:=by
 have d:∀{B:Type} {m:Sem B} {P K:B->aE->Prop} {t:aE},wpAny M A m P E t->(∀a u,P a u->K a u)->wpAny M A m K E t:=λU hp=>b_ U hp λ_ _ z=>z;unfold comprehension;rw[hclos,hcl];refine aH<|d h λx s₁ h1=>aH<|fL<|aH<|wpAny_of_eq (hs x)<|aH<|bX<|d h1 λit s₂ N=>?_;refine wpAny_standIf<|aH<|d N λacc s₃ T=>aH<|aL<|aH<|d T λcenv s₄ O=>?_;dsimp only;have hv:∀x∈(scope.names.filter λx=>(x.2 == .local || x.2 == .cell) && x.1 != (".0" : Str)).reverse,x.2=.local->Env.kindOf { cenv with scope:=relabel scope env } x.1=some .local:=
  λx J l=>lookup_relabel_local<|hnm x (gD.mp<|List.mem_reverse.mp J).1 l
 have C:∀x∈(scope.names.filter λx=>(x.2 == .local || x.2 == .cell) && x.1 != (".0" : Str)).reverse.drop 1++(scope.names.filter λx=>(x.2 == .local || x.2 == .cell) && x.1 != (".0" : Str)).reverse.take 1,
   x.2=.local->Env.kindOf { cenv with scope:=relabel scope env } x.1=some .local:=λx J L=>by
  rcases bQ.mp J with h1|h1
  ·exact hv x (List.mem_of_mem_drop h1) L
  ·exact hv x (List.mem_of_mem_take h1) L
 refine bX (aH<|eO<|bX<|wpAny_run<|fj O λr s' k=>?_)
 cases r with
 | ok f=>
  cases use with
  | none=>
   obtain⟨m,hn,k⟩:=k;exact aH<|bX<|wpAny_comp_letGo (cenv:={ cenv with scope:=relabel scope env }) hk _ s' m hv hn λh' _ _ F=>aL<|k h' F
  | some u=>
   refine aH<|wpAny_rule<|aH<|bX<|b_ k (λ_ G j=>?_) λ_ _ h'=>h';obtain⟨m,hn,j⟩:=j;exact aH<|wpAny_comp_letGo (cenv:={ cenv with scope:=relabel scope env }) hk _ G m C hn λh' V _ p=>aL<|j h' p
 | error x=>
  obtain⟨m,hn,k⟩:=k;exact aH<|bX<|wpAny_comp_letGo (cenv:={ cenv with scope:=relabel scope env }) hk _ s' m hv hn λh' _ _ F=>b_ (k h' F) (λ_ _ z=>z.elim) λ_ _ z=>z
theorem NK{h h' B J:au}{C:aj}:∀{l:List Env},h.FunFrames B l->(∀env∈l,∀L,env.frame=some L->L≠C)->(∀b o,b≠C->h.get? b=some o->(∀vs,o.data≠.fields vs)->∃o',h'.get? b=some o'/\o'.data=o.data)->(∀b,B.get? b=none->J.get? b=none)->h'.FunFrames J l
 | [],_,_,_,_=>trivial
 | env::l,⟨k,⟨L,o,f,n,q,d⟩,r⟩,hC,hk,hB=>by
  obtain⟨o',q',j⟩:=hk L o (hC env (bw ..) L f) q d;exact⟨k,⟨L,o',f,hB L n,q',λvs=>by rw[j];exact d vs⟩,NK r (λe g=>hC e<|bf _ g) hk hB⟩
section
variable {X:Cx}{pins:bo}{σ:St}{H:Hp}{s':aE}{e:aj}{cls:aa}{g:au}{xs:bb}
def GU(I:Inv X pins σ H s')(hst:X.stack=X.env::X.outer)(hf:X.env.frame=some X.env.locals)
  (R:(∃(g':au) (vs:ba),Heap.MadeExcOf g' s'.heap e cls vs/\g'.FunFrames X.base X.stack/\(∀a u,H a=some u->∃o,g'.get? a=some o)/\∀b o,g.get? b=some o->b∉xs->∃o',g'.get? b=some o') \/
   ∃(B:au) (a0:aa),(Heap.FlyingW B X.stack e cls a0 s'.heap\/Heap.HeldW B X.stack e cls a0 X.env.locals s'.heap)/\(∀a u,H a=some u->∃o,B.get? a=some o)/\(∀b o,g.get? b=some o->b∉frs X.stack->b∉xs->∃o',B.get? b=some o')/\C0 e s'.heap) {Q:Unit->aE->Prop} {E:aa->aE->Prop}
  (hQ:∀h' B a0,Heap.HeldW B (X.env::X.outer) e cls a0 X.env.locals h'->B.StaysIn s'.heap->s'.heap.UpToSlots h'->(∀a u,H a=some u->∃o,B.get? a=some o)->(∀b o,g.get? b=some o->b∉frs X.stack->b∉xs->∃o',B.get? b=some o')->C0 e h'->Q Unit.unit { s' with heap:=h' }) :
  wpAny (model X.prog X.w) X.A (noteFrame (.ref e) X.env) Q E s':=by
 have p:X.A.frames=some (X.env::X.outer):=by rw[<- hst];exact I.ok.frames
 rcases R with⟨g',vs,M,k,V,N⟩|⟨B,a0,F|F,c1,c2,k0⟩
 ·rw[hst]at k;have P:=fy k λenv C b m=>(c9.mpr ⟨env,C,m⟩:b∈frs (X.env::X.outer));obtain⟨t,C,Y,ht⟩:=M.there;have J:(PySem.W.hideAll g'<|frs (X.env::X.outer)).get? e=none:=by
   cases O:(PySem.W.hideAll g'<|frs (X.env::X.outer)).get? e with
   | none=>rfl
   | some o'=>have:=cG _ O;rw[M.new]at this;cases this
  kst_p;have T:wpAny (model X.prog X.w) X.A (noteFrame (.ref e) X.env) (λ_ d=>∃h',d={ s' with heap:=h' }/\Heap.HeldW (PySem.W.hideAll g'<|frs (X.env::X.outer)) (X.env::X.outer) e cls (.ref t) X.env.locals h'/\s'.heap.UpToSlots h') (λ_ _=>False) s':=by
   unfold noteFrame;dsimp[hf];refine aH<|bR C rfl (x:=.none) rfl ?_;rw[aQ ⋯];refine wpAny_entryW (base:=PySem.W.hideAll g'<|frs (X.env::X.outer)) (a0:=.ref t) p (P.of_keeps λb o m _=>⟨o,M.keeps b o m,rfl⟩) hf C k1 J rfl (by simp) rfl λh' U=>?_;obtain⟨j,K,L,f⟩:=U;exact⟨h',rfl,⟨j,J,K,L⟩,f⟩
  refine b_ (iJ.any (e:=e) (iJ.note _ _) T<|zz M) (λ_ d z=>?_) λ_ _ z=>z.1.elim;obtain⟨⟨h',rfl,j,f⟩,k0⟩:=z;refine hQ h' _ _ j k1 f (λa u G=>?_) (λb o q m Z=>?_) k0
  ·obtain⟨o,q⟩:=V a u G;refine⟨o,cD _ q λz=>?_⟩;rw[<- hst]at z;rw[I.q_ a z]at G;cases G
  ·obtain⟨o',q'⟩:=N b o q Z;exact⟨o',cD _ q'<|by rw[<- hst];exact m⟩
 ·rw[hst]at F;refine b_ (iJ.any (e:=e) (iJ.note _ _) (wpAny_looks_onW (Q:=λ_ d=>∃h',d={ s' with heap:=h' }/\Heap.HeldW B (X.env::X.outer) e cls a0 X.env.locals h'/\s'.heap.UpToSlots h') (E:=λ_ _=>False) p hf F λh' j f=>⟨h',rfl,j,f⟩) k0) (λ_ d z=>?_) λ_ _ z=>z.1.elim;obtain⟨⟨h',rfl,j,f⟩,k0'⟩:=z;exact hQ h' B a0 j F.1 f c1 c2 k0'
 ·rw[hst]at F;refine fB hf F.2.2.2 ?_;exact hQ s'.heap B a0 F F.1 (Heap.UpToSlots.refl _) c1 c2 k0
end
section
variable {X:Cx}{scope:Scope}{N:ar}{C:aj}{s3 s2:aE}{H3 H':Hp}{fp:bb}{pins pins2:bo}{σ σ2:St}
def comp_back(I3:Inv X pins σ H3 s3)(f3:∀b∈fp,oR X pins H3 b)(J:Inv (jo X scope N C s3 H3 fp) pins2 σ2 H' s2){hh:au}
  (keep:∀b o,s3.heap.get? b=some o->H3 b=none->b∉frs X.stack->b∉fp->hh.get? b=some o) (slot:∀b o,s3.heap.get? b=some o->H3 b=none->b∈frs X.stack->b∉fp->∃sl,hh.get? b=some { o with slots:=sl })
  (there:∀b o,s3.heap.get? b=some o->b∉fp->∃o',hh.get? b=some o') (L:qR X.prog X.w H' hh):Inv X pins σ H' { s2 with heap:=hh }:=by
 have u:=J.base;refine I3.Kr (s':={ s2 with heap:=hh }) (ch:=fp) J.os ⟨keep,slot,λb o e n k=>u.free b o e n k,there,u.tups,u.frzs,u.tbls⟩ L J.bare λb d=>?_;obtain⟨_,j,_,m,f,g⟩:=f3 b d;exact⟨m,j,f,g⟩
def yJ(U:C=s3.heap.objs.size)(Z:Inv X pins σ H3 s3)(f3:∀b∈fp,oR X pins H3 b)(J:Inv (jo X scope N C s3 H3 fp) pins2 σ2 H' s2){hh:au}(L:Heap.SameBut C s2.heap hh):Inv X pins σ H' { s2 with heap:=hh }:=by
 have u:=J.base;have f:∀b o,s3.heap.get? b=some o->b≠C:=λb o e=>by rw[U];exact br (aS e)
 have m:H' C=none:=J.free;have g:∀c v,H' c=some v->c≠C:=λc v e z=>by rw[z,m]at e;cases e
 refine comp_back Z f3 J (λb o e n h9 d=>?_) (λb o e n h9 d=>?_) (λb o e d=>?_) λa k j=>?_
 ·rw[L.2 b<|f b o e];exact u.keep b o e n h9 d
 ·rw[L.2 b<|f b o e];exact u.slot b o e n h9 d
 ·rw[L.2 b<|f b o e];exact u.there b o e d
 ·refine(J.hok a k j).stay (λc v hc q=>?_) (λ_ q=>q) λ_ _ q=>q;rw[L.2 c<|hc.elim (λz=>by rw[z];exact g a k j) λz=>g c _ z];exact q
def Ct(hC:C=s3.heap.objs.size)(I3:Inv X pins σ H3 s3)(f3:∀b∈fp,oR X pins H3 b)(hX:X.ex=[])(hst:X.stack=X.env::X.outer)(hf:X.env.frame=some X.env.locals){fr:Env}(hfr:fr.frame=X.env.frame){use:Option<|aa->Sem Unit}{Q:aa->aE->Prop}{acc:aa}
  {pn':bo} {xe0:aa->aE->Prop} {e:aj} {cls:aa} (I2:Inv (jo X scope N C s3 H3 fp) pins2 σ2 H' s2) (R2:t_ ((jo X scope N C s3 H3 fp).oq pn' xe0) H' e cls s2) (hE:EX X cls none H') :
  notedBy (model X.prog X.w) X.A fr (λx s''=>TM (model X.prog X.w) X.A X.xe use Q acc C fr (.error x) s'') (.ref e) s2:=by
 have u:=I2.base;have nC:∀b o,s3.heap.get? b=some o->b≠C:=λb o e=>by rw[hC];exact br (aS e)
 have fC:H' C=none:=I2.free;have O:∀b o,X.s₀.heap.get? b=some o->∃o',s3.heap.get? b=some o':=λb o q=>I3.base.there b o q (by rw[hX];simp);have nfp:∀b o,X.s₀.heap.get? b=some o->b∉fp:=λb o q f=>by
  obtain⟨_,_,_,z3,_⟩:=f3 b f
  rcases z3 with z|z
  ·rw[hX]at z;cases z
  ·exact absurd (bu (aS q) z)<|c6 _
 have pin3:∀p∈X.pn,∃o,s3.heap.get? p.1=some o/\p.1∉fp/\p.1∉frs X.stack:=λp hp=>by
  obtain⟨q,_,n1,n2,_⟩:=I3.pin p<|bC _ hp;refine⟨_,q,λf=>?_,λz=>(bG.mp<|I3.ux _ z).elim n1 n2⟩;obtain⟨_,_,_,_,_,z5⟩:=f3 _ f;exact z5 p (bC _ hp) rfl
 have IX:=yJ hC I3 f3 I2<|Heap.SameBut.refl C s2.heap;have frX:∀b∈frs X.stack,∃o,s3.heap.get? b=some o/\∀vs,o.data≠.fields vs:=λb f=>by
  obtain⟨_,o,q,d⟩:=I3.stack.mem f;exact⟨o,q,d⟩
 have hm:∃m,s2.heap.Ns C m:=by obtain⟨m,hm,_⟩:=I2.loc;exact⟨m,hm⟩
 show wpAny _ _ (noteFrame (.ref e) fr) _ _ s2;rw[GB hfr];refine GU (g:=s3.heap) (xs:=fp) (cls:=cls) IX hst hf ?_ λh1 B a0 held k1 up c1 c2 k0=>?_
 ·rcases R2 with⟨g',vs,M,ffg,m1,m2,_⟩|⟨B,a0,F,c1,c2,_,k0⟩|⟨B,a0,L,eL,F,c1,c2,_,k0⟩
  ·exact .inl ⟨g',vs,M,ffg,m1,m2⟩
  ·exact .inr ⟨B,a0,.inl F,c1,c2,k0⟩
  ·have eL:X.env.frame=some L:=eL;rw[hf]at eL
   cases eL
   exact .inr ⟨B,a0,.inr F,c1,c2,k0⟩
 obtain⟨m,hm⟩:=hm;refine⟨m,up.ns hm,λh' sb=>?_⟩;obtain⟨oC,esC,epC,hoC,hdC,_⟩:=up.ns hm;obtain⟨b1,b2,b3,oe,vs,T,oT,ts,he,hcls,hd,h1t,hnT,Z,hT,k,h3⟩:=held;have eC:e≠C:=λz=>by
  rw[z,hoC]at he;cases he;rw[hdC]at hd;cases hd
 have TC:T≠C:=λz=>by
  rw[z,hoC]at hT;cases hT;rw[hdC]at k;cases k
 have Y:h'.get? e=some oe:=by rw[sb.2 e eC];exact he
 have hT':h'.get? T=some oT:=by rw[sb.2 T TC];exact hT
 have hsz:3<ts.size:=(gi.mp h3).1;have nT:(Value.ref T == Value.none)=false:=by simp
 have nT':(Value.ref T != Value.none)=true:=by simp
 obtain⟨G,hh2⟩:∃G,G=h'.update T (Obj.mapFields (·.setIfInBounds 3 (rawInt X.env.locals))):=⟨_,rfl⟩;have fin:X.xe (.ref e) { s2 with heap:=G }:=by
  have o2:∀b,b≠T->G.get? b=h'.get? b:=λb f=>by rw[hh2];exact cP h' _ (bP f)
  have j:∀b,b≠C->b≠T->G.get? b=h1.get? b:=λb f ht=>(o2 b ht).trans<|sb.2 b f;have kk:∀b o,b≠C->B.get? b=some o->G.get? b=some o:=λb o f q=>by
   rw[j b f λz=>by rw[z,hnT]at q;cases q];exact b1 b o q
  have nf:∀b o,h1.get? b=some o->(∀vs,o.data≠.fields vs)->b≠T:=λb o q d z=>by
   rw[z,hT]at q;cases q;exact d _ k
  have upp:∀b o,b≠C->s2.heap.get? b=some o->(∀vs,o.data≠.fields vs)->∃P,G.get? b=some { o with slots:=P }:=λb o f q d=>by
   obtain⟨P,q1⟩:=up b o q d;exact⟨P,by rw[j b f<|nf b _ q1 d];exact q1⟩
  have cov:∀b o o',b≠C->B.get? b=some o'->s2.heap.get? b=some o->G.get? b=some o:=λb o o' f K es=>by
   have:=k1 b o' K;rw[es]at this;cases this;exact kk b o f K
  have slot:∀b o,s3.heap.get? b=some o->H3 b=none->b∈frs X.stack->b∉fp->∃P,G.get? b=some { o with slots:=P }:=λb o J n f hx=>by
   obtain⟨P,q1⟩:=u.slot b o J n f hx;obtain⟨U,V,d9⟩:=frX b f;rw[J]at V;cases V;obtain⟨sl',z⟩:=upp b { o with slots:=P } (nC b o J) q1 d9;exact⟨sl',z⟩
  have I4:Inv X pins σ H' { s2 with heap:=G }:=by
   refine comp_back I3 f3 I2 (λb o J n h9 hx=>?_) slot (λb o J hx=>?_) λa u' ea=>?_
   ·obtain⟨o',K⟩:=c2 b o J h9 hx;exact cov b o o' (nC b o J) K (u.keep b o J n h9 hx)
   ·by_cases h9:b∈frs X.stack
    ·obtain⟨P,z⟩:=slot b o J (I3.q_ b h9) h9 hx;exact⟨_,z⟩
    ·obtain⟨o',K⟩:=c2 b o J h9 hx;exact⟨o',kk b o' (nC b o J) K⟩
   ·have aC:∀c v,H' c=some v->c≠C:=λc v q z=>by rw[z,fC]at q;cases q
    refine(I2.hok a u' ea).stay (λc v hc q=>?_) (λ_ q=>q) λ_ _ q=>q
    rcases hc with z|z
    ·subst z;obtain⟨o',K⟩:=c1 _ u' ea;exact cov _ v o' (aC _ _ ea) K q
    ·obtain⟨o',K⟩:=c1 c _ z;exact cov c v o' (aC _ _ z) K q
  have hB:∀b,B.get? b=none->(PySem.W.hideAll B [C]).get? b=none:=λb f=>by
   cases q:(PySem.W.hideAll B [C]).get? b with
   | none=>rfl
   | some o=>have:=cG _ q;rw[f]at this;cases this
  have inB:∀b o,B.get? b=some o->b≠C->(PySem.W.hideAll B [C]).get? b=some o:=λb o q f=>cD _ q (by simpa using f);refine hE pins σ _ e I4 (.inr<|.inr ⟨PySem.W.hideAll B [C],a0,X.env.locals,hf,⟨λb o q=>?_,hB e b2,?_,oe,vs,T,Obj.mapFields (·.setIfInBounds 3 (rawInt X.env.locals)) oT,ts.setIfInBounds 3<|rawInt X.env.locals,?_,hcls,hd,h1t,hB T hnT,Z,?_,dg k _,?_⟩,λa u' ea=>?_,λb o q h9 _=>?_,λp hp=>?_,?_⟩)
  ·refine kk b o (λz=>?_)<|cG _ q;rw[z,PySem.W.hideAll_none [C]<|bB.mpr rfl]at q;cases q
  ·rw[hst];refine NK b3 (λenv hen L hL=>?_) (λb o f q d=>⟨o,by rw[j b f<|nf b o q d];exact q,rfl⟩) hB;obtain⟨U,V,_⟩:=frX L (by rw[hst];exact c9.mpr ⟨env,hen,hL⟩);exact nC L U V
  ·show G.get? e=some oe;rw[o2 e<|bP Z];exact Y
  ·show G.get? T=_;rw[hh2];exact dh _ hT' (dX<|dg k _)
  ·rw[Array.getElem?_setIfInBounds_self_of_lt hsz]
  ·obtain⟨o,q⟩:=c1 a u' ea;exact⟨o,inB a o q λz=>by rw[z,fC]at ea;cases ea⟩
  ·obtain⟨o',q'⟩:=O b o q;obtain⟨U,V⟩:=c2 b o' q' h9<|nfp b o q;exact⟨U,inB b U V<|nC b o' q'⟩
  ·obtain⟨o,q,n,n2⟩:=pin3 p hp;obtain⟨U,V⟩:=c2 _ o q n2 n;exact⟨U,inB _ U V<|nC _ o q⟩
  ·obtain⟨o,vs',q1,q2,q3,q4⟩:=k0;exact⟨o,vs',by show G.get? e=some o;rw[j e eC<|bP Z];exact q1,q2,q3,q4⟩
 have step:wpAny (model X.prog X.w) X.A (setFlight (.ref e) fr.frame) (λ_ s₂=>wpAny (model X.prog X.w) X.A (throw (.ref e):Sem aa) (λ_ _=>False) X.xe s₂) X.xe { s2 with heap:=h' }:=by
  unfold setFlight;refine aH<|bR (s:={ s2 with heap:=h' }) Y hd h1t ?_;rw[aT nT',hfr,hf];show wpAny _ _ (setField (.ref T) 3<|rawInt X.env.locals) _ _ _;refine d_ (s:={ s2 with heap:=h' }) hT' k hsz<|wpAny_throw ?_;rw[<- hh2];exact fin
 show wpAny _ _ (PySem.passOn "comprehension.variables-let-go" (.ref e) fr:Sem aa) _ _ { s2 with heap:=h' };unfold PySem.passOn;refine aH<|bR (s:={ s2 with heap:=h' }) Y hd h1t ?_;rw[aQ<|show ¬((Value.ref T == Value.none)=true)from by simp]
 first
  | exact aH (aL<|aH step)
  | exact aH step
end
def Dr{X:Cx}{use:Option<|aa->Sem Unit}{Q':aa->aE->Prop}{iter:aF}{N:ar}{wi:TI}{g:TG}{tc:TT}{te:TE}(hX:X.ex=[])(hst:X.stack=X.env::X.outer)(hf:X.env.frame=some X.env.locals)(hca:X.calm=true)(S:CpScope X scope N cap)(hi:PI X tg iter wi)
  (hg:∀C s₀ H₀ ex,PG (jo X scope N C s₀ H₀ ex) tg g) (ht:∀C s₀ H₀ ex,Np (jo X scope N C s₀ H₀ ex) ifs tc)
  (he:∀C s₀ H₀ ex pn' xe',(∀cls H',EX X cls none H'->EX ((jo X scope N C s₀ H₀ ex).oq pn' xe') cls none H')->PE ((jo X scope N C s₀ H₀ ex).oq pn' xe') elt te)
  (hs:(∀x,foldedSetIterable iter X.env x=pure x)<|>ζ):∀(pins:bo) (s:aE) (σ:St) (H:Hp) (Q:VK),Inv X pins σ H s->Of cap wi g tc te σ H Q ->
  (∀(s6:aE) (C D:aj) (H5:Hp) (m:Str->bd),s6.heap.Ns C m->oR X pins H5 C->(∀h',Heap.SameBut C s6.heap h'->Inv X pins σ H5 { s6 with heap:=h' })->Q (.ref D) H5->∀v,compPost (model X.prog X.w) X.A X.xe use Q' (.ref D) C (.ok v) s6) ->
  wpAny (model X.prog X.w) X.A (comprehension (.ListComp elt [⟨tg,iter,ifs,0⟩] scope pos) scope X.env (firstIterPos [⟨tg,iter,ifs,0⟩] pos) (newList []) (firstAsync [⟨tg,iter,ifs,0⟩]) (firstIter [⟨tg,iter,ifs,0⟩] X.env) use) Q' X.xe s:=by
 intro pins s σ H Q I h hfin;kpf_c;refine CS rfl hs (xq hfree) S.kind S.nm<|jz (hi pins s σ H _ I h) λxv s1 h1=>jz h1 λitv s2 h2=>?_;obtain⟨it,fp,tn,J,H2,rfl,I2,T,st2,f2,h2⟩:=h2;refine bA<|C7 λU B Z k=>?_;obtain⟨W,⟨m0,w0⟩,turn⟩:=h2 s2.heap.objs.size I2.fresh;dsimp only at B Z k ⊢;have I3:Inv X pins σ (upd H2 s2.heap.objs.size<|.lst []) { s2 with heap:=s2.heap.push {}}:=I2.KC (t':=s2.toks) (its:=[]) .nil<|eZ _;have hfp:∀b∈fp,∃o,s2.heap.get? b=some o:=λb f=>by
  obtain⟨o,e,_⟩:=T.obj 0 _ st2 b f;exact⟨o,e⟩
 have neD:∀b∈fp,b≠s2.heap.objs.size:=λb f=>by
  obtain⟨o,e⟩:=hfp b f;exact br<|aS e
 have f3:∀b∈fp,oR X pins (upd H2 s2.heap.objs.size<|.lst []) b:=λb f=>⟨by rw[gV<|neD b f];exact(f2 b f).1,(f2 b f).2⟩;have hDC:s2.heap.objs.size≠(s2.heap.push {}).objs.size:=by rw[cH];exact br (ck _)
 have I4:=JW (tk:=s2.toks+([]:List<|Str×aa).length) (fp:=fp) S I3 f3 (λb f=>by
  obtain⟨o,e⟩:=hfp b f;exact⟨o,aI _ e⟩) B k Z
 have st4:tn 0 U:=T.keep _ _ _ st2 λb f o e=>Z b o<|aI _ e;have hc:(jo X scope N (s2.heap.push {}).objs.size { s2 with heap:=s2.heap.push {}} (upd H2 s2.heap.objs.size<|.lst []) fp).calm=true:=hca;have O:∀{H':Hp},(∀b∈fp,H' b=none)->∀b∈fp,oR (jo X scope N (s2.heap.push {}).objs.size { s2 with heap:=s2.heap.push {}} (upd H2 s2.heap.objs.size<|.lst []) fp) [] H' b:=λhn b f=>by
  have ok:=I4.ok;refine⟨hn b f,(ok.exf b f).1,ok.exfs b f,.inl f,λx c e=>(ok.exf b f).2 x c e,λp hp=>nomatch hp⟩
 have V:∀s4:aE,s4={ s2 with heap:=U,toks:=s2.toks+([]:List<|Str×aa).length } ->
   codeAny (model X.prog X.w) X.A (.compLoop (.ListComp elt [⟨tg,iter,ifs,0⟩] scope pos) 0 (.ref it) (.ref s2.heap.objs.size)<|compEnvC scope (cellsFrom ((s2.heap.push {}).objs.size+1) scope.names<|oz X.env scope.names []) (s2.heap.push {}).objs.size X.env)
    (TM (model X.prog X.w) X.A X.xe use Q' (.ref s2.heap.objs.size) (s2.heap.push {}).objs.size<|compEnvC scope (cellsFrom ((s2.heap.push {}).objs.size+1) scope.names<|oz X.env scope.names []) (s2.heap.push {}).objs.size X.env) s4:=by
  rintro s4 rfl;refine codeAny_loop rfl (λn s'=>∃i K H',Inv (jo X scope N (s2.heap.push {}).objs.size { s2 with heap:=s2.heap.push {}} (upd H2 s2.heap.objs.size<|.lst []) fp) [] K H' s'/\tn i s'.heap/\(∀b∈fp,H' b=none)/\W i n K H') (λn s5 hI=>?_) m0 ⟨0,_,_,I4,st4,λb f=>(f3 b f).1,w0⟩;obtain⟨i,P,H5,I5,st5,fr5,w5⟩:=hI;show wpAny _ X.A ((compTurn (.ListComp elt [⟨tg,iter,ifs,0⟩] scope pos) 0 (.ref it) (.ref s2.heap.objs.size)<|compEnvC scope (cellsFrom ((s2.heap.push {}).objs.size+1) scope.names<|oz X.env scope.names []) (s2.heap.push {}).objs.size X.env).onRaise λx=>do noteFrame x _;theTreesLotGoes x) _ _ s5;refine wpAny_noted ?_;rw[compTurn_list];refine aH (fL<|aH ?_)
  rcases turn i n P H5 w5 with⟨stop,q⟩|⟨go,step⟩
  ·refine jz (T.done (jo X scope N (s2.heap.push {}).objs.size { s2 with heap:=s2.heap.push {}} (upd H2 s2.heap.objs.size<|.lst []) fp) rfl rfl rfl hc i [] s5 P H5 _ I5 (O fr5) st5 stop) λr s6 h9=>?_;obtain⟨hr,I6⟩:=h9;subst hr;obtain⟨m6,hn6,_⟩:=I6.loc;exact aL (hfin s6 _ _ H5 m6 hn6 (I3.zh (aO _) I6.free) (λh' sb=>yJ rfl I3 f3 I6 sb) q _)
  ·refine jz (T.item (jo X scope N (s2.heap.push {}).objs.size { s2 with heap:=s2.heap.push {}} (upd H2 s2.heap.objs.size<|.lst []) fp) rfl rfl rfl hc i [] s5 P H5 _ I5 (O fr5) st5 go) λr s6 h9=>?_;obtain⟨u,hr,h6⟩:=h9;subst hr;refine aH<|jz h6 λ_ s7 ⟨x,H7,I7,r7,y7,Y,fr7⟩=>?_;have I7':=I7.pinned (O fr7)<|T.obj _ _ Y;refine aH<|Cn (hg _ _ _ fp _ s7 P H7 x u _ I7' r7<|step x H7 y7) λ_ s8 ⟨F,H8,I8,q8⟩=>?_;refine aH<|Cn (ht _ _ _ fp _ s8 F H8 _ I8 q8) λok s9 ⟨H9,I9,q9⟩=>?_;have again:∀{G:aE} {j:Hp},Inv (jo X scope N (s2.heap.push {}).objs.size { s2 with heap:=s2.heap.push {}} (upd H2 s2.heap.objs.size<|.lst []) fp) ([]++r8 fp s7.heap) F j G->(∃m',m'<n/\W (i+1) m' F j) ->
     ∃m,m<n/\∃i K H',Inv (jo X scope N (s2.heap.push {}).objs.size { s2 with heap:=s2.heap.push {}} (upd H2 s2.heap.objs.size<|.lst []) fp) [] K H' G/\tn i G.heap/\(∀b∈fp,H' b=none)/\W i m K H':=λ{G j} L h9=>by
    obtain⟨m',hm,w10⟩:=h9;refine⟨m',hm,i+1,F,j,L.oE,T.keep _ _ _ Y λb f o e=>(L.pin (b,o)<|bx _<|bx _<|kE f e).1,λb f=>?_,w10⟩;obtain⟨o,e,d⟩:=T.obj _ _ Y b f;exact(L.pin (b,o)<|bx _<|bx _<|kE f e).2.1
   cases ok with
   | false=>
    rw[aQ bh]at q9;exact aL ⟨rfl,again I9 q9⟩
   | true=>
    rw[aT rfl]at q9;refine aH<|aH<|b_ (he (s2.heap.push {}).objs.size { s2 with heap:=s2.heap.push {}} (upd H2 s2.heap.objs.size<|.lst []) fp ((jo X scope N (s2.heap.push {}).objs.size { s2 with heap:=s2.heap.push {}} (upd H2 s2.heap.objs.size<|.lst []) fp).pn++([]++r8 fp s7.heap)) (notedBy (model X.prog X.w) X.A (compEnvC scope (cellsFrom ((s2.heap.push {}).objs.size+1) scope.names<|oz X.env scope.names []) (s2.heap.push {}).objs.size X.env) λx s''=>TM (model X.prog X.w) X.A X.xe use Q' (.ref s2.heap.objs.size) (s2.heap.push {}).objs.size (compEnvC scope (cellsFrom ((s2.heap.push {}).objs.size+1) scope.names<|oz X.env scope.names []) (s2.heap.push {}).objs.size X.env) (.error x) s'') (λcls H' hE pins2 σ2 s' e I' R'=>Ct rfl I3 f3 hX hst hf (fr:=(compEnvC scope (cellsFrom ((s2.heap.push {}).objs.size+1) scope.names<|oz X.env scope.names []) (s2.heap.push {}).objs.size X.env)) rfl (Inv.yp I') R' hE) _ s9 F H9 _ (I9.oq _) q9) (λy G h9=>?_) λ_ _ z=>z;obtain⟨v10,j,I10',r10,ys,hD,hz,w10⟩:=h9;have L:=Inv.yp I10';refine aH<|Cn (uB _ G F j (.ref s2.heap.objs.size) [v10] _ [y] (λ_ H'=>H'=upd j s2.heap.objs.size (.lst<|ys++[v10])) L rfl (.cons r10 .nil) ⟨_,ys,v10,rfl,rfl,hD,hz,rfl⟩) λ_ s11 ⟨_,H11,I11,_,e11⟩=>?_;subst e11;exact aL<|aL ⟨rfl,again I11 w10⟩
 exact codeAny_compStart_list (V _ rfl)<|T.self _ 0 _ _ _ st4<|V _ rfl
def OQ{X:Cx}{iter:aF}{N:ar}{U:TI}{g:TG}{tc:TT}{te:TE}(Z:X.ex=[])(J:X.stack=X.env::X.outer)(hf:X.env.frame=some X.env.locals)(L:X.calm=true)(S:CpScope X scope N cap)(hi:PI X tg iter U)
  (hg:∀C s₀ H₀ ex,PG (jo X scope N C s₀ H₀ ex) tg g) (ht:∀C s₀ H₀ ex,Np (jo X scope N C s₀ H₀ ex) ifs tc)
  (he:∀C s₀ H₀ ex pn' xe',(∀cls H',EX X cls none H'->EX ((jo X scope N C s₀ H₀ ex).oq pn' xe') cls none H')->PE ((jo X scope N C s₀ H₀ ex).oq pn' xe') elt te)
  (hs:(∀x,foldedSetIterable iter X.env x=pure x)<|>ζ):PE X (.ListComp elt [⟨tg,iter,ifs,0⟩] scope pos) (Of cap U g tc te):=by
 z_go;rw[eval_ListComp];exact Dr Z J hf L S hi hg ht he hs pins s σ H Q I h λk C D f m hn j inv q v=>⟨m,hn,λh' d=>⟨.ref D,f,inv h' d,rfl,q⟩⟩
def FF{X:Cx}{i:Nat}{spos:Pos}{iter:aF}{N:ar}{wi:TI}{g:TG}{tc:TT}{te:TE}(hN:X.N.Nodup)(hi':X.N[i]?=some y)(hx:Loc X.env.scope y)(hX:X.ex=[])(hst:X.stack=X.env::X.outer)(hf:X.env.frame=some X.env.locals)(hca:X.calm=true)(S:CpScope X scope N cap)(hi:PI X tg iter wi)
  (hg:∀C s₀ H₀ ex,PG (jo X scope N C s₀ H₀ ex) tg g) (ht:∀C s₀ H₀ ex,Np (jo X scope N C s₀ H₀ ex) ifs tc)
  (he:∀C s₀ H₀ ex pn' xe',(∀cls H',EX X cls none H'->EX ((jo X scope N C s₀ H₀ ex).oq pn' xe') cls none H')->PE ((jo X scope N C s₀ H₀ ex).oq pn' xe') elt te)
  (hsw:swapsWith (.ListComp elt [⟨tg,iter,ifs,0⟩] scope pos) (some<|.Name y py) spos.line X.env=pure true)
  (hfn:X.fn y=true\/X.env.scope.names.lookup y=some .local) (hs:(∀x,foldedSetIterable iter X.env x=pure x)<|>ζ) :
  PS X (.Assign [.Name y py] (.ListComp elt [⟨tg,iter,ifs,0⟩] scope pos) spos) (MD (Of cap wi g tc te)<|Hh i):=by
 kcf_m;rw[exec_Assign_Name_used _ _ _ _ hsw];refine aH<|fL<|aH ?_;show wpAny _ X.A (do let _ <- comprehension (.ListComp elt [⟨tg,iter,ifs,0⟩] scope pos) scope X.env (firstIterPos [⟨tg,iter,ifs,0⟩] pos) (newList []) (firstAsync [⟨tg,iter,ifs,0⟩]) (firstIter [⟨tg,iter,ifs,0⟩] X.env) (some<|assign (.Name y py) X.env)) _ _ s;refine aH<|b_ (Dr (Q':=λ_ s'=>SP X pins D .next s') hX hst hf hca S hi hg ht he hs pins s σ H _ I h ?_) (λ_ s' U=>aL<|aL U) λ_ _ e=>e;intro F C J V m hn k inv q v;have Y:=inv F.heap<|Heap.SameBut.refl _ _;obtain⟨L,j⟩:∃o,F.heap.get? C=some o/\∀v,o.data≠.cell v:=by
  obtain⟨o,es,ep,e,d,_⟩:=hn;exact⟨o,e,λv z=>by rw[d]at z;cases z⟩
 have P:=Y.pinned (fp:=[C]) (λb f=>by rw[bB]at f;rw[f];exact k) (λb f=>by rw[bB]at f;rw[f];exact⟨L,j⟩);show wpAny _ X.A (assign (.Name y py) X.env<|.ref J) _ _ F;refine jz (DA hN hi' hx hfn _ F σ V (.ref J) (.ref J) _ P rfl q) λ_ Z h9=>?_;obtain⟨G,K,B,T⟩:=h9;have hp:=B.pin (C,L)<|bx _<|bx _<|kE (bB.mpr rfl) j.1;refine⟨m,hn.at' λo e=>by rw[j.1]at e;cases e;exact hp.1,λh' p=>?_⟩;have O:∀c v,K c=some v->c≠C:=λc v e z=>by rw[z,hp.2.1]at e;cases e
 refine⟨G,K,?_,T⟩;refine B.oE.Kr (ch:=[C]) rfl ⟨λb o e n f hx=>?_,λb o e n f hx=>?_,λb o e n hx=>n,λb o e hx=>?_,λ_ _ e=>e,λ_ _ _ e=>e,λ_ _ e=>⟨#[],by rw[Array.append_empty];exact e⟩⟩ ?_ B.bare ?_
 ·exact p.extBut b o (by simpa using hx) e
 ·exact⟨o.slots,p.extBut b o (by simpa using hx) e⟩
 ·exact⟨o,p.extBut b o (by simpa using hx) e⟩
 ·intro b o e;refine(B.hok b o e).stay (λc v hc q=>p.extBut c v ?_ q) (λ_ q=>q) λ_ _ q=>q
  rcases hc with z|z
  ·rw[z];exact O b o e
  ·exact O c _ z
 ·intro b f;rw[bB]at f;rw[f];exact⟨k.2.2.2.1,k.2.1,k.2.2.2.2.1,k.2.2.2.2.2⟩
end L2
namespace Am
open PySem PySem.Spec PyProof.Rows L2
abbrev jR (s:Src)(g:Tg)(t:Te)(e:Ex):Nat->Nat->ae->gS->R (ae)
 | 0,_=>λ_ S=>if s.fin S then .ok [] S else .no
 | k+1,i=>λτ S=>opt (s.get i S) λx=>(g x τ S).rF λd S1=>(t d S1).rF λb f=>match b with
  | true=>(e d f).bind λy j=>(jR s g t e k (i+1) d j).bind λys m=>.ok (y::ys) m
  | false=>jR s g t e k (i+1) d f
abbrev lE (cap:List<|bj)(src:Ic)(g:Tg)(t:Te)(e:Ex):Ex:=λτ S=>(src τ S).bind λs S1=>gd (s.k<=sizeLine)<|(jR s g t e s.k 0 (jT cap τ) S1).bind λys d=>.ok (.ref d.length)<|d++[.lst ys]
def Out.now{H1 H:Hp}(o:Out ρ1 H1 D accV ρ H)(j:H1 D=none):Ext ρ1 ρ H1 H:=⟨o.e0,λa u d na=>o.fr a u (g9 d j) d na,o.nw⟩
abbrev Wc (K:az)(ρ1:bb)(H1:Hp)(D:aj)(k:Nat)(P:Nat->Nat->ae->gS->ae->Prop)(i m:Nat)(σ:L2.St)(H:Hp):Prop:=
 m+i=k/\∃ρ S τ acc accV,Out ρ1 H1 D accV ρ H/\Rel K ρ H S/\SR K ρ H τ σ/\AVs K ρ H acc accV/\acc.length<=i/\P m i τ S acc
section
variable {X:Cx}{pos:Pos}{tg iter elt:aF}{ifs:List aF}{scope:Scope}{N:ar}{cap:List (bj)}{src:Ic}{g:Tg}{t:Te}{c:Ex}
def yh(σ:L2.St)(H:Hp)(Q:VK)(h:tE X (lE cap src g t c) σ H Q):Of cap (tI X src) (QY X.K g) (Q_ X.K t) (tE X c) σ H Q:=by
 gp_on;refine⟨ρ,S,τ,R,r,gP (gU h) .refl λs S1 h1 ρ1 H1 J e1 R1 jr D hD=>?_⟩;obtain⟨hlen,h1⟩:=iy h1;have h1:(jR s g t c s.k 0 (jT cap τ) S1).post (λys j=>sF X ρ H Q (.ref j.length)<|j++[.lst ys]) (XE X ρ H):=gU h1;obtain⟨eD,RD⟩:=R1.im (u:=.lst []) hD;refine⟨Wc X.K ρ1 H1 D s.k λm i τ S acc=>(jR s g t c m i τ S).post (λzs j=>sF X ρ H Q (.ref j.length)<|j++[.lst<|acc++zs])<|XE X ρ H,⟨s.k,rfl,ρ1,S1,jT cap τ,[],[],⟨eD.toExt0,λa u na hu _=>by rw[gV na];exact hu,λa ha=>.inl ha,R1.DJ hD,iF⟩,RD,Oe ((r.ext e1).ext eD) cap,.nil,aO _,h1⟩,?_⟩;rintro i m σ3 H3 ⟨hm,F,C,Y,acc,accV,G,R3,r3,B,la,d⟩
 cases m with
 | zero=>
  left;have d:(if s.fin C then Am.R.ok [] C else .no).post (λzs j=>sF X ρ H Q (.ref j.length)<|j++[.lst<|acc++zs]) (XE X ρ H):=d
  cases hf:s.fin C with
  | false=>rw[hf]at d;exact d.elim
  | true=>
   rw[hf]at d;have d:sF X ρ H Q (.ref C.length) (C++[.lst<|acc++[]]):=d;rw[bT]at d;refine⟨by rw[show i=s.k by lia];exact jr.stop _ H3 F G.e0 R3 hf,?_⟩;obtain⟨RT,gt⟩:=R3.take G.hD G.nD B;exact d (F++[D]) H3 _ (e1.trans<|G.end hD) RT<|.ref gt
 | succ m=>
  right;obtain⟨x,hx,d⟩:=gZ d;obtain⟨f,V,hg4,d⟩:=sE d;obtain⟨b,O,ht5,d⟩:=sE d;have jg:=jr.go i C H3 F x G.e0 R3 hx;refine⟨jg.1,λv H4 y=>?_⟩;obtain⟨e4,R4,v4⟩:=jg.2 v H4 y;refine⟨F,C,Y,x,f,V,R4,r3.ext e4,v4,hg4,λρ5 H5 σ5 e5 R5 U=>⟨ρ5,V,f,b,O,R5,U,ht5,λN H6 T R6=>?_⟩⟩;have p:=(e4.trans e5).trans T
  cases b with
  | false=>
   dsimp only;rw[aQ bh];exact⟨m,ck _,(),N,O,f,acc,accV,G.stay hD p,R6,U.ext T,B.ext p,(),d⟩
  | true=>
   dsimp only;rw[aT rfl];have d:((c f O).bind λy C=>(jR s g t c m (i+1) f C).bind λys V=>.ok (y::ys) V).post (λzs j=>sF X ρ H Q (.ref j.length)<|j++[.lst<|acc++zs]) (XE X ρ H):=d;have o6:=G.stay hD p;refine⟨N,O,f,R6,U.ext T,jE (gU d) (λy S6 q Z H7 w e7 R7 v7=>?_) λcl S6 q=>q.ext<|e1.trans<|o6.now hD⟩;have P:=G.stay hD<|p.trans e7;obtain⟨L,R8⟩:=R7.out (ws:=accV++[w]) P.hD P.nD;have l1:=B.length;refine⟨accV,P.hD,?_,m,ck _,(),Z,S6,f,acc++[y],accV++[w],P.put L,R8,(U.ext<|T.trans e7).je L,AVs.je L<|(B.ext<|p.trans e7).append<|.one v7,?_,?_⟩
   ·lia
   ·rw[aZ];show acc.length+1<=_;lia
   ·refine jE (gU q) (λzs j z=>?_) λ_ _ z=>z;have z:sF X ρ H Q (.ref j.length) (j++[.lst<|acc++(y::zs)]):=z;rw[bW];exact z
def A6(J:X.calm=true)(U:CpScope X scope N cap)(hi:AI X tg iter src)(hg:∀C s₀ H₀ ex,AG (jo X scope N C s₀ H₀ ex) tg g)(Z:∀C s₀ H₀ ex,TH (jo X scope N C s₀ H₀ ex) ifs t)(he:∀C s₀ H₀ ex pn' xe',AE ((jo X scope N C s₀ H₀ ex).oq pn' xe') elt c)
  (hs:(∀x,foldedSetIterable iter X.env x=pure x)<|>ζ) (hX:X.ex=[]<|>ε) (L:X.stack=X.env::X.outer<|>ε) (hf:X.env.frame=some X.env.locals<|>ε):AE X (.ListComp elt [⟨tg,iter,ifs,0⟩] scope pos) (lE cap src g t c):=
 PE.imp (OQ hX L hf J U hi (g:=QY X.K g) (tc:=Q_ X.K t) (te:=tE X c) (λC s₀ H₀ ex=>(hg C s₀ H₀ ex).g0 rfl) (λC s₀ H₀ ex=>Z C s₀ H₀ ex)
  (λC s₀ H₀ ex pn' xe' j=>PE.imp (he C s₀ H₀ ex pn' xe') λσ H Q ⟨ρ,S,τ,R,r,q⟩=>⟨ρ,S,τ,R,r,jE q (λ_ _ z=>z) λp m z d ρ' H' n k f=>j _ _<|z d ρ' H' n k f⟩) hs) yh
def Jf{i:Nat}{x:Str}{J:Pos}(hN:X.N.Nodup)(L:X.calm=true)(Sc:CpScope X scope N cap)(hi:AI X tg iter src)(hg:∀C s₀ H₀ ex,AG (jo X scope N C s₀ H₀ ex) tg g)(ht:∀C s₀ H₀ ex,TH (jo X scope N C s₀ H₀ ex) ifs t)(he:∀C s₀ H₀ ex pn' xe',AE ((jo X scope N C s₀ H₀ ex).oq pn' xe') elt c)
  (U:X.N[i]?=some x<|>ε) (hx:Loc X.env.scope x:=by first|exact Or.inl rfl|exact Or.inr rfl)
  (Z:(swapsWith (.ListComp elt [⟨tg,iter,ifs,0⟩] scope pos) (some<|.Name x pos') J.line X.env=pure true)<|>ε) (hfn:X.fn x=true\/X.env.scope.names.lookup x=some .local<|>γ)
  (hs:(∀x,foldedSetIterable iter X.env x=pure x)<|>ζ) (hX:X.ex=[]<|>ε) (hst:X.stack=X.env::X.outer<|>ε) (hf:X.env.frame=some X.env.locals<|>ε):AS X (.Assign [.Name x pos'] (.ListComp elt [⟨tg,iter,ifs,0⟩] scope pos) J) (iO (lE cap src g t c)<|jc i):=
 PS.imp (FF hN U hx hX hst hf L Sc hi (g:=QY X.K g) (tc:=Q_ X.K t) (te:=tE X c) (λC s₀ H₀ ex=>(hg C s₀ H₀ ex).g0 rfl) (λC s₀ H₀ ex=>ht C s₀ H₀ ex)
  (λC s₀ H₀ ex pn' xe' j=>PE.imp (he C s₀ H₀ ex pn' xe') λσ H Q ⟨ρ,S,τ,R,r,q⟩=>⟨ρ,S,τ,R,r,jE q (λ_ _ z=>z) λp m z d ρ' H' n k f=>j _ _<|z d ρ' H' n k f⟩) Z hfn hs) λD σ H ⟨ρ,S,τ,R,r,h⟩=>
  yh σ H _ ⟨ρ,S,τ,R,r,gP (of_post h) .refl λa S1 h1 ρ1 H1 x e1 R1 v1=>h1 ρ1 H1 _ e1 R1<|(r.ext e1).set v1⟩
end
end Am
namespace L2
open PySem PySem.Spec PyProof.Rows
section
variable {H:Hp}{a:aj}{xs:List (Gf×aj×aa)}
end
section
variable {X:Cx}
def pairs_at{P:ah}{w:af}(h:Pairs (iR P w) es vs):∀(i:Nat) (e:DictEntry) (p:Key×aa),es[i]?=some e->vs[i]?=some p->RelV (kV p.1) e.key:=by
 induction h with
 | nil=>intro i e p h1;cases h1
 | cons h1 k m g=>
  intro i e p d f
  cases i with
  | zero=>
   cases d
   cases f
   rcases ju h1 with⟨j,t,e1,e2⟩|⟨y,t,e1,e2⟩
   ·rw[e1,e2];exact⟨t,rfl⟩
   ·rw[e1,e2];exact⟨t,rfl⟩
  | succ i=>exact g i e p d f
def Mm{kvs:List<|Key×V}{vs:List<|Key×aa}(j:KV kvs vs):vs.map (·.1)=kvs.map (·.1):=by
 unfold KV at j
 induction j with
 | nil=>rfl
 | cons h _ d=>rw[aY,aY,d,h.1]
def QN{H:Hp}{d:aj}(h:H d=some u):upd H d u=H:=by
 funext b
 by_cases e:b=d
 ·subst e;rw[iF,h]
 ·rw[gV e]
def Nl{P:ah}{w:af}{H H':Hp}{h h':au}{d:aj}(L:(∃kvs,u=.dT kvs)\/∃kvs,u=.dK kvs)(hn:∀b ys,H b=some (.tup ys)->H' b=some (.tup ys))(J:∀b o,h.get? b=some o->h'.get? b=some o)(ok:jm P w H h d u):jm P w H' h' d u:=by
 rcases L with⟨kvs,rfl⟩|⟨kvs,rfl⟩
 ·obtain⟨z,hd,xs,f,ob,es,ep,j,g⟩:=ok;exact⟨z,hd,xs,KT.keeps f hn,ob,es,ep,J _ _ j,g⟩
 ·obtain⟨z,hd,vs,f,ob,es,ep,j,g⟩:=ok;exact⟨z,hd,vs,f,ob,es,ep,J _ _ j,g⟩
def FI{H:Hp}{s:aE}{d:aj}{ob:Obj}(I:Inv X pins σ H s)(L:(∃kvs,u=.dT kvs)\/∃kvs,u=.dK kvs)(J:Rd H d u)(U:s.heap.get? d=some ob):Inv X pins σ (upd H d<|.frz ob u) s:=by
 rcases J with J|⟨o',J⟩
 ·have f:∀b ys,H b=some (.tup ys)->upd H d (.frz ob u) b=some (.tup ys):=λb ys g=>by
   rw[gV<|NV g J λz=>by rcases L with⟨_,rfl⟩|⟨_,rfl⟩<;>exact nomatch z];exact g
  exact sZ (h':=s.heap) (t':=s.toks) (ob:=.frz ob u) I (by rw[J];rcases L with⟨_,rfl⟩|⟨_,rfl⟩<;>exact True.intro) ⟨rfl,λ_ _=>rfl⟩ ⟨ob,U⟩ ⟨U,Nl L f (λ_ _ z=>z)<|I.hok d _ J⟩
 ·have:=(show jm _ _ H s.heap d (.frz o' u)from I.hok d _ J).1;rw[U]at this;have j:=(aR this);subst j;rw[QN J];exact I
end
abbrev OE (d:aj)(o:Obj)(u:HO)(ps:List<|V×V):It:=
 ⟨λi H=>∃a v,ps[i]?=some (a,v)/\H d=some (.frz o u),λi H x H'=>∃T,H T=none/\x=.ref T/\∀a v,ps[i]?=some (a,v)->H'=upd H T (.tup [a,v]),λi H=>i=ps.length/\H d=some (.frz o u)⟩
def BE{P:ah}{w:af}{K:az}(d it:aj){o:Obj}{es:Array DictEntry}{ps:List<|V×V}(hd:o.data=.dict es ep)(hl:ps.length=es.size)
  (hp:∀i a v,ps[i]?=some (a,v)->∀h:i<es.size,RelV a es[i].key/\RelV v es[i].val):Turn P w K (.Tuple elts x1 tpos) (OE d o u ps) [it] it (λi h=>∃k0 v0,IsItemIter h it d i es.size ep k0 v0) where
 mem:=by simp
 obj:=λi h st b p=>by
  obtain⟨k0,v0,st⟩:=st;have:b=it:=by simpa using p
  subst this;exact⟨_,st,λv z=>by cases z⟩
 keep:=λi h h' ⟨k0,v0,st⟩ k=>⟨k0,v0,k it (by simp) _ st⟩
 item:=by
  x_go;subst hP hw hK;obtain⟨k0,v0,st⟩:=st;obtain⟨a,v,L,hq⟩:=hg;have ho:s.heap.get? d=some o:=(show jm _ _ H s.heap d (.frz o u)from I.hok d _ hq).1;have lt:i<es.size:=by rw[<- hl];exact(aM.mp L).1
  obtain⟨ek,rv⟩:=hp i a v L lt;refine Nf st ho hd lt λh' G hT hsz hk=>⟨_,rfl,wpAny_letOwnedTupleGo_items G λU he2 J=>?_⟩;have B:H s.heap.objs.size=none:=I.hok.fresh<|aO _;have C:it<s.heap.objs.size:=aS st;have k2:∀b ob,b≠it->s.heap.get? b=some ob->U.get? b=some ob:=λb ob h1 f=>J.extBut b ob h1<|hk b ob h1 f;have T:U.get? s.heap.objs.size=some { cls:=.type "tuple",data:=.seq #[es[i].key,es[i].val]}:=J.extBut _ _ (ez C) hT;obtain⟨N,O,i2,i3,i4,i5⟩:=hf it (by simp);have nT:∀b ob,s.heap.get? b=some ob->b≠s.heap.objs.size:=λb ob f=>br<|aS f;have j:∀c y,H c=some y->c≠it:=λc y qc z=>by rw[z,N]at qc;cases qc
  have I2:Inv X pins σ (upd H s.heap.objs.size<|.tup [a,v]) { s with heap:=U }:=by
   refine I.step (g':=s.gens) (d':=s.drawn) (ch:=[it]) (λb p=>?_) (λb ob _ _ g f _=>?_) (λb ob _ _ g f _=>?_) (λb ob g f n=>?_) (λb ob g f=>?_) (λb ys f=>?_) (λb ob u' f=>?_) (λb ps' f=>?_) (λm hm=>?_) (λb u' f=>?_) I.bare
   ·have:b=it:=by simpa using p
    subst this;exact⟨i3,O,i4,i5⟩
   ·exact k2 b ob (λz=>g<|by simp[z]) f
   ·exact⟨ob.slots,k2 b ob (λz=>g<|by simp[z]) f⟩
   ·rw[gV<|nT b ob f];exact n
   ·exact⟨ob,k2 b ob (λz=>g<|by simp[z]) f⟩
   ·rw[gV<|g9 f B];exact f
   ·rw[gV<|g9 f B];exact f
   ·exact⟨#[],by rw[gV<|g9 f B,f];simp⟩
   ·obtain⟨ob,Y,Z,hob,r⟩:=hm;exact⟨ob,Y,Z,k2 _ ob (bP O) hob,r⟩
   ·by_cases z:b=s.heap.objs.size
    ·subst z;rw[iF]at f
     cases f
     exact⟨by show 2<=sizeLine;decide,[es[i].key,es[i].val],.cons ek<|.cons rv .nil,⟨_,T,rfl,rfl,0,rfl⟩⟩
    ·rw[gV z]at f;refine(I.hok b u' f).stay (λc y hc q'=>k2 c y ?_ q') (λc q'=>?_) λc ys q'=>?_
     ·rcases hc with z|z
      ·rw[z];exact j b u' f
      ·exact j c _ z
     ·rw[gV<|g9 q' B];exact q'
     ·rw[gV<|g9 q' B];exact q'
  refine⟨.ref s.heap.objs.size,_,I2,rfl,⟨s.heap.objs.size,B,rfl,λa' v' hy=>?_⟩,⟨_,_,he2⟩,λb p=>?_⟩
  ·rw[L]at hy
   cases hy
   rfl
  ·have:b=it:=by simpa using p
   subst this;rw[gV<|br C];exact N
 done:=by
  x_go;subst hP hw hK;obtain⟨k0,v0,st⟩:=st;obtain⟨hi,hq⟩:=hg;have ho:s.heap.get? d=some o:=(show jm _ _ H s.heap d (.frz o u)from I.hok d _ hq).1;refine Qw (I.ok.hd hc) st ho hd (by rw[<- hl];lia) λh' L=>⟨rfl,?_⟩;obtain⟨N,O,i2,i3,i4,i5⟩:=hf it (by simp);exact I.turned (t':=s.toks) (λb ob p f=>L b ob p f) N O i3 i4 i5
 self:=by
  intro A i s Q E st q;obtain⟨k0,v0,st⟩:=st;have ty:s.TypeIs (.ref it) "dict_itemiterator" := ⟨_,st,rfl⟩;exact wpAny_pyIter_slot ty eS<|cz eS ty LZ (aL ⟨_,rfl, "dict_itemiterator",_,ty,bO.lookup,q⟩)<|PySem.F.args_dict_itemiterator_iter_1 _
def Px(j:KV kvs vs):∀(i:Nat) (p:Key×V) (q:Key×aa),kvs[i]?=some p->vs[i]?=some q->RelV p.2 q.2:=by
 unfold KV at j
 induction j with
 | nil=>intro i p q h1;cases h1
 | cons h _ g=>
  intro i p q d f
  cases i with
  | zero=>cases d;cases f;exact h.2
  | succ i=>exact g i p q d f
section
variable {X:Cx}
def F_{P:ah}{w:af}(h:Pairs (iR P w) es vs):∀(i:Nat) (e:DictEntry) (p:Key×aa),es[i]?=some e->vs[i]?=some p->e.val=p.2:=by
 induction h with
 | nil=>intro i e p h1;cases h1
 | cons h1 g j k=>
  intro i e p d f
  cases i with
  | zero=>
   cases d
   cases f
   first|rfl|exact g|exact j|(simp_all)
  | succ i=>exact k i e p d f
abbrev LN (to:TE):TI:=λσ H R=>to σ H λx H1=>∃d kvs,x=.ref d/\H1 d=some (.dK kvs)/\∀(o:Obj),R (OE d o (.dK kvs) (kvs.map λp:Key×V=>(kV p.1,p.2)))<|upd H1 d<|.frz o<|.dK kvs
def Fx{apos cpos:Pos}{to:TE}(he:PE X e to)(hbase:attributeBase e "items" X.env (eval e X.env)=eval e X.env<|>ε)(hline:(apos.endLine == cpos.line)=true<|>ε) :
  PI X (.Tuple elts x1 tpos) (.Call (.Attribute e "items" apos) [] [] cpos) (LN to):=by
 intro pins s σ H R I h;refine wpAny_Call_method0_late hbase hline<|jz (he pins s σ H _ I h) λv f ⟨x,H1,k,r1,d,kvs,ex,J,Z⟩=>?_;subst ex
 cases r1
 obtain⟨z,hd,vs,g,dd⟩:=BK k.hok J;have ty:=dd.typeIs (s:=f);obtain⟨ob,es,ep,B,g2,L,g4,C,g6⟩:=id dd;refine⟨"dict", "dict.items",PySem.F.plainAttrs_dict,PySem.F.slot_dict_items,PySem.F.type_dict_items,ty,λa U=>?_,fq rfl<|PySem.evalArgs_none<|Ay ty hd ?_⟩
 ·cases U
  exact⟨ob,B,g2.2.1⟩
 have j:(f.heap.push { cls:=.type "dict_items",data:=.fields #[.ref d]}).get? d=some ob:=aI _ B;refine A3 (o:=ob) (es:=es) (ep:=ep) ⟨_,aU _ rfl,rfl,rfl⟩ j L ?_;have I2:Inv X pins σ H1 { f with heap:=(f.heap.push { cls:=.type "dict_items",data:=.fields #[.ref d]}).push { cls:=.type "dict_itemiterator",data:=.fields #[.none,.bool false,.ref d,.int 0 0,.int es.size 0,.int ep 0,.none,.none]}}:=
  k.kept (t':=f.toks) λb o G=>aI _<|aI _ G
 have P:=FI I2 (.inr ⟨kvs,rfl⟩) (.inl J)<|aI _ j;have K:=Mm g;have O:vs.length=kvs.length:=by have:=cW List.length K;simpa using this
 have l2:es.size=vs.length:=by have:=C.length;simpa using this
 refine⟨(f.heap.push { cls:=.type "dict_items",data:=.fields #[.ref d]}).objs.size,[(f.heap.push { cls:=.type "dict_items",data:=.fields #[.ref d]}).objs.size],_,OE d ob (.dK kvs) (kvs.map λp:Key×V=>(kV p.1,p.2)),_,rfl,P,BE d _ L (by rw[aK,l2,O]) λi a v e lt=>?_,⟨.none,.none,aU _ rfl⟩,λb T=>?_,Z ob⟩
 ·rw[bE]at e;obtain⟨p,hp,e⟩:=aV.mp e
  cases e
  have hv:i<vs.length:=()
  have N:es.toList[i]?=some es[i]:=by rw[fG];exact Array.getElem?_eq_getElem lt
  have e1:=pairs_at C i es[i] vs[i] N (aN hv);have e2:(vs.map (·.1))[i]?=(kvs.map (·.1))[i]?:=by rw[K]
  rw[bE,bE,hp,aN hv]at e2;have e3:vs[i].1=p.1:=aR e2;refine⟨by rw[<- e3];exact e1,?_⟩;rw[F_ C i es[i] vs[i] N (aN hv)];exact Px g i p vs[i] hp (aN hv)
 ·have G:b=(f.heap.push { cls:=.type "dict_items",data:=.fields #[.ref d]}).objs.size:=by simpa using T
  have m:f.heap.objs.size<=b:=by rw[G,cH];exact le_succ _
  refine k.zh m ?_;have Y:b≠d:=λw=>absurd (aS B) (by rw[<- w];exact not_lt.mpr m);rw[gV Y];exact k.hok.fresh m
end
end L2
namespace Am
open PySem PySem.Spec PyProof.Rows L2
section
variable {X:Cx}{a b:aF}
abbrev BO (p:Str×A):A:=.tup [.str p.1,p.2]
abbrev Ua (a:A)(S:gS):R Src:=match a with
 | .ref n=>opt (iW S n) λkvs=>.ok (j_<|kvs.map BO) (S.set n<|.ins "" [])
 | _=>.no
abbrev FJ (c:Ex):Ic:=λτ S=>(c τ S).bind λa S1=>Ua a S1
theorem JA{K:az}{H:Hp}:∀{kvs:List<|Str×A}{ks:List<|Key×V}{i:Nat}{p:Str×A},DS K ρ H kvs ks->kvs[i]?=some p->∃q,ks[i]?=some q/\q.1=Sum.inr p.1/\AV K ρ H p.2 q.2
 | [],[],_,_,_,h=>by cases h
 | a::kvs,b::ks,0,p,⟨z,_⟩,h=>by cases h;exact⟨b,rfl,z⟩
 | a::kvs,b::ks,i+1,p,⟨_,t⟩,h=>JA (kvs:=kvs) (ks:=ks) (i:=i) t<|by simpa using h
def FD{apos cpos:Pos}{c:Ex}(ha:AE X e c)(hbase:attributeBase e "items" X.env (eval e X.env)=eval e X.env<|>ε)(hline:(apos.endLine == cpos.line)=true<|>ε) :
  AI X (.Tuple elts x1 tpos) (.Call (.Attribute e "items" apos) [] [] cpos) (FJ c):=λpins s σ H Q I h9=>by
 room;refine Fx ha hbase hline pins s σ H Q I ⟨ρ,S,τ,R,r,gP (gU h) .refl λx S1 h1 ρ1 H1 v e1 R1 v1=>?_⟩
 cases v1 with
 | @ref p n hp=>
  obtain⟨kvs,hn,h1⟩:=gZ h1;obtain⟨ks,B,F⟩:=R1.ly hp<|iD hn;refine⟨p,ks,rfl,B,λo=>?_⟩;have k:∀v,H1 p=some v->¬RV v:=λv z=>by rw[B]at z;cases z;exact λz=>z
  have ex:Ext ρ1 ρ1 H1 (upd H1 p<|.frz o<|.dK ks):=Ext.put (bI hp) k;have R2:=R1.RE (o:=.ins "" []) (u:=.frz o<|.dK ks) hp (aM.mp<|iD hn).1 k ⟨o,.dK ks,iF⟩;have O:=F.length;refine h1 ρ1 _ _ (e1.trans ex) R2 ⟨λi N H2 f y e2 G g=>?_,λN H2 f e2 G _=>⟨?_,e2.im _ _ trivial iF⟩⟩
  ·have g:(kvs.map BO)[i]?=some y:=g;rw[bE]at g;obtain⟨kv,J,rfl⟩:=aV.mp g;obtain⟨q,K,P,L⟩:=JA F J;have C:(ks.map λp:Key×V=>(kV p.1,p.2))[i]?=some (kV q.1,q.2):=by rw[bE,K];rfl
   refine⟨⟨_,_,C,e2.im _ _ trivial iF⟩,λw' H' U=>?_⟩;obtain⟨T,Y,rfl,Z⟩:=U;have j:=Z _ _ C;subst j;obtain⟨d,m⟩:=G.im (u:=.tup [kV q.1,q.2]) Y;rw[P]at d m ⊢;exact⟨d,m,.tup iF<|.cons (.str _)<|.cons (((L.je ex.toExt0).je e2).ext d) .nil⟩
  ·show(kvs.map BO).length=(ks.map λp:Key×V=>(kV p.1,p.2)).length;rw[aK,aK,O]
 | _=>exact h1.elim
end
end Am
namespace K87
open PySem L2 Am
abbrev top (i:Nat):aG:=PySem.Challenge.pw_undercells_k87_forty_names_and_twenty_ro.main.body.getD i<|.Pass ⟨0,0,0,0⟩
abbrev iU:List (Str×Int):=[("keep",1),("lead",1),("drop",1),("show",1),("word",1),("plain",1),("tables",1),("back",2),("below",2),("between",2),("kept",2),("hearth",2),("undo",0)]
meta abbrev mh:aG:=Pw (top 120) 0
meta abbrev lZ:ar:=["self"]
meta abbrev pQ:ar:=["self"]
abbrev l6:Sm:=
 ir (xE "Desk" "orders" (gJ 0)<|v_)
 (xE "Desk" "past" (gJ 0)<|oQ gR)
abbrev jn:ae->gS->R A:=jO lZ l6
meta abbrev ur:aG:=top 122
meta abbrev t7:ar:=["_law_script", "_law_k", "_law_cell", "_law_state"]
meta abbrev uX:ar:=["_law_script", "_law_k"]
abbrev uS:Sm:=
 ir (iO (eC<|.int 0)<|jc 2)
 (ir (om (mF<|gT Q4 (gJ 1)<|iA (f1 lu)<|gK (gJ 0) gR)
 (iO (iA (f1 P_)<|gK (gT jv (gJ 0)<|gJ 1) gR)<|jc 2)
 jF)
 (ir (iO (gT iK (eC<|.int 1)<|gT rg (gT iK (gT iK (gT iK (gT rg (gJ 2)<|eC<|.int 2147483647)<|gT pO (gT pO (eC<|.int 7919)<|gJ 1)<|gJ 1)<|gT pO (eC<|.int 17)<|gJ 1)<|eC<|.int 3)<|eC<|.int 2147483646)<|jc 3)
 (iN<|oQ<|gK (gT pO (gJ 2)<|iA (f1 wQ)<|gK (gT Mt (gJ 2)<|gT Mq (eC<|.int 10)<|eC<|.int 18) gR)<|gK (gJ 3) gR)))
abbrev mQ:ae->gS->R A:=jO t7 uS
meta abbrev qm:aG:=top 123
meta abbrev nM:ar:=["_law_bag_here", "_law_many", "_law_found"]
meta abbrev kJ:ar:=["_law_bag_here", "_law_many"]
abbrev nO:Sm:=
 ir (om (mF<|gT GI (gT jv (gJ 0)<|eC<|.int 0)<|eC<|.int 0)
 (ir (iO (gT rg (gT jv (gJ 0)<|eC<|.int 0)<|gJ 1)<|jc 2)
 (ir (iO (gT w_ (gT jv (gJ 0)<|eC<|.int 0)<|gJ 1)<|Ni (gJ 0)<|eC<|.int 0)
 (iN<|gJ 2)))
 jF)
 (ir (iO (gT rg (gT pO (gT jv (gJ 0)<|eC<|.int 1)<|eC<|.int 48271)<|eC<|.int 2147483647)<|Ni (gJ 0)<|eC<|.int 1)
 (iN<|gT rg (gT w_ (gT rg (gT pO (gT jv (gJ 0)<|eC<|.int 1)<|gT iK (gT w_ (gT jv (gJ 0)<|eC<|.int 1)<|eC<|.int 65536)<|eC<|.int 9)<|eC<|.int 2147483629)<|eC<|.int 32)<|gJ 1))
abbrev h_:ae->gS->R A:=jO nM nO
meta abbrev qi:aG:=top 126
meta abbrev qf:ar:=["_law_bag_here", "_law_many", "_law_signs", "_law_ahead", "_law_begin", "_law_found", "_law_place", "_law_pair", "_law_letters", "_law_more"]
meta abbrev p6:ar:=["_law_bag_here", "_law_many"]
abbrev xU:Ic:=
 tV (eFn h_<|gK (gJ 0)<|gK (eC<|.int 7) gR)
abbrev rB:Sm:=
 iO (gT iK (gJ 8)<|gT jv (gJ 2)<|eFn h_<|gK (gJ 0)<|gK (eC<|.int 26) gR) (jc 8)
abbrev xR:Ic:=
 yw (eC<|.int 1) (gJ 1)
abbrev rC:Sm:=
 ir (iO (gT iK (gT jv (gJ 2)<|gT rg (gT iK (gJ 4)<|gJ 6)<|eC<|.int 26)<|gT jv (gJ 2)<|gT w_ (gT iK (gJ 4)<|gJ 6)<|eC<|.int 26)<|jc 7)
 (ir (iO (eC<|.str<|PySem.Str.ofString "")<|jc 8)
 (ir (oY xU (jc 9)
 rB)
 (pR<|PN mP (gJ 5)<|gK (gT jv (oQ<|gK (gT iK (gJ 8)<|gJ 7)<|gK (gT iK (gJ 7)<|gJ 8) gR)<|gJ 3) gR)))
abbrev qB:Sm:=
 ir (iO (eC<|.str<|PySem.Str.ofString "abcdefghijklmnopqrstuvwxyz")<|jc 2)
 (ir (iO (eFn h_<|gK (gJ 0)<|gK (eC<|.int 2) gR)<|jc 3)
 (ir (iO (eFn h_<|gK (gJ 0)<|gK (eC<|.int 26) gR)<|jc 4)
 (ir (iO (oQ<|gK (gT jv (gJ 2)<|gJ 4) gR)<|jc 5)
 (ir (oY xR (jc 6)
 rC)
 (iN<|gJ 5)))))
abbrev lP:ae->gS->R A:=jO qf qB
meta abbrev uU:aG:=top 124
meta abbrev uT:ar:=["_law_bag_here", "_law_n", "_law_left", "_law_found", "_law_at"]
meta abbrev uL:ar:=["_law_bag_here", "_law_n"]
abbrev qz:Te:=
 mF (gT GI (iA (f1 lu)<|gK (gJ 2) gR)<|eC<|.int 0)
abbrev p8:Sm:=
 ir (iO (eFn h_<|gK (gJ 0)<|gK (iA (f1 lu)<|gK (gJ 2) gR) gR)<|jc 4)
 (ir (pR<|PN mP (gJ 3)<|gK (gT jv (gJ 2)<|gJ 4) gR)
 (iO (gT iK (zl (gJ 2) kW<|kL<|gJ 4)<|zl (gJ 2) (kL<|gT iK (gJ 4)<|eC<|.int 1) kW)<|jc 2))
abbrev uK:Sm:=
 ir (iO (iA (f1 tD)<|gK (iA (f2 sQ)<|gK (eC<|.int 1)<|gK (gT iK (gJ 1)<|eC<|.int 1) gR) gR)<|jc 2)
 (ir (iO (oQ gR)<|jc 3)
 (ir (kN qz
 p8 1000000)
 (iN<|iA (f1 n9)<|gK (gJ 3) gR)))
abbrev oH:ae->gS->R A:=jO uT uK
meta abbrev qI:aG:=top 125
meta abbrev p9:ar:=["_law_bag_here", "_law_n", "_law_way", "_law_found", "_law_k", "_law_i", "_law_j"]
meta abbrev qA:ar:=["_law_bag_here", "_law_n"]
abbrev rD:Ic:=
 tV (eFn h_<|gK (gJ 0)<|gK (eC<|.int 7) gR)
abbrev n_:Sm:=
 ir (iO (eFn h_<|gK (gJ 0)<|gK (gJ 1) gR)<|jc 5)
 (ir (iO (eFn h_<|gK (gJ 0)<|gK (gJ 1) gR)<|jc 6)
 (iO (Jq<|gK (gT jv (gJ 3)<|gJ 6)<|gK (gT jv (gJ 3)<|gJ 5) gR)<|LH 2<|zV (Ni (gJ 3)<|gJ 5)<|zV (Ni (gJ 3)<|gJ 6) LF))
abbrev p7:Sm:=
 ir (iO (eFn h_<|gK (gJ 0)<|gK (eC<|.int 4) gR)<|jc 2)
 (ir (om (mF<|gT GI (gJ 2)<|eC<|.int 1)
 (iN<|eFn oH<|gK (gJ 0)<|gK (gJ 1) gR)
 jF)
 (ir (iO (iA (f1 tD)<|gK (iA (f2 sQ)<|gK (eC<|.int 1)<|gK (gT iK (gJ 1)<|eC<|.int 1) gR) gR)<|jc 3)
 (ir (om (mF<|gT (l7 false) (gJ 2)<|eC<|.int 1)
 (iO (GJ JF<|gJ 3)<|jc 3)
 jF)
 (ir (oY rD (jc 4)
 n_)
 (iN<|iA (f1 n9)<|gK (gJ 3) gR)))))
abbrev jB:ae->gS->R A:=jO p9 p7
meta abbrev uf:aG:=top 112
meta abbrev uw:ar:=["word"]
meta abbrev uQ:ar:=["word"]
abbrev uD:Sm:=
 iN (qj (JB GH GH (eC<|.int 1) (iA (f1 lu)<|gK (gJ 0) gR)<|eC<|.int 8)<|iA (f1 tZ)<|gK (kF [none] (lq<|gJ 0) (jc 0) lg<|gT Cf (gJ 0)<|eC<|.str<|PySem.Str.ofString "abcdefghijklmnopqrstuvwxyz") gR)
abbrev lB:ae->gS->R A:=jO uw uD
meta abbrev rX:aG:=top 113
meta abbrev pN:ar:=["words", "known"]
meta abbrev rZ:ar:=["words"]
abbrev oO:Sm:=
 ir (om (GC (mF<|GJ (Iv iU true)<|gT jv (gJ 0)<|eC<|.int 0)<|mF<|gT (Qq false) (eC<|.str<|PySem.Str.ofString "")<|gJ 0)
 (iN<|eC<|.bl false)
 jF)
 (ir (iO (gT iK (GJ (Mp iU)<|gT jv (gJ 0)<|eC<|.int 0)<|eC<|.int 1)<|jc 1)
 (ir (om (mF<|gT (Qq false) (gT jv (gJ 0)<|eC<|.int 0)<|eC<|.ktu<|(["keep", "lead"]:ar).map .str)
 (iN<|qj (gT GI (iA (f1 lu)<|gK (gJ 0) gR)<|gJ 1)<|eFn lB<|gK (gT jv (gJ 0)<|eC<|.int 1) gR)
 jF)
 (iN<|qj (gT (l7 false) (iA (f1 lu)<|gK (gJ 0) gR)<|gJ 1)<|iA (f1 tZ)<|gK (kF [none] (lq<|zl (gJ 0) (kL<|eC<|.int 1) kW) (jc 0) lg<|eFn lB<|gK (gJ 0) gR) gR)))
abbrev jY:ae->gS->R A:=jO pN oO
meta abbrev pW:aG:=Pw (top 120) 5
meta abbrev lV:ar:=["self", "name", "order"]
meta abbrev qD:ar:=["self"]
abbrev lQ:Sm:=
 ir (om (pS<|o8<|lM "Desk" "past"<|gJ 0)
 (nh "TooMany" [])
 jF)
 (ir (iO (FH zS<|lM "Desk" "past"<|gJ 0)<|LH 2<|zV (jc 1)<|zV (jc 2) LF)
 (ir (om (mF<|gT (Ck false) (gJ 2)<|eC .non)
 (yj (lM "Desk" "orders"<|gJ 0)<|gJ 1)
 (iO (gJ 2)<|AU (lM "Desk" "orders"<|gJ 0)<|gJ 1))
 (iN<|eC<|.str<|PySem.Str.ofString "ok")))
abbrev ji:ae->gS->R A:=jO lV lQ
meta abbrev l8:aG:=Pw (top 120) 2
meta abbrev l9:ar:=["self", "name"]
meta abbrev kq:ar:=["self", "name"]
abbrev lY:Sm:=
 ir (pR<|PN mP (lM "Desk" "past"<|gJ 0)<|gK (Jq<|gK (gJ 1)<|gK (BU zc (lM "Desk" "orders"<|gJ 0)<|gK (gJ 1) gR) gR) gR)
 (xE "Desk" "past" (gJ 0)<|zl (lM "Desk" "past"<|gJ 0) (kL<|GJ GA<|eC<|.int 20) kW)
abbrev iS:ae->gS->R A:=jO l9 lY
meta abbrev rO:aG:=Pw (top 120) 3
meta abbrev oU:ar:=["self", "name", "order"]
meta abbrev sf:ar:=["self", "name", "order"]
abbrev oZ:Sm:=
 ir (om (xT (mF<|gT (Gm true) (gJ 1)<|lM "Desk" "orders"<|gJ 0)<|mF<|gT Mt (iA (f1 AQ)<|gK (lM "Desk" "orders"<|gJ 0) gR)<|eC<|.int 40)
 (nh "TooMany" [])
 jF)
 (ir (pR<|iX "Desk" "remember" iS (gJ 0)<|gK (gJ 1) gR)
 (ir (iO (gJ 2)<|AU (lM "Desk" "orders"<|gJ 0)<|gJ 1)
 (iN<|eC<|.str<|PySem.Str.ofString "ok")))
abbrev iM:ae->gS->R A:=jO oU oZ
meta abbrev nV:aG:=top 101
meta abbrev nS:ar:=["text"]
meta abbrev n8:ar:=["text"]
abbrev n5:Sm:=
 ir (om (GC (pS<|mF<|JB GH GH (eC<|.int 1) (iA (f1 lu)<|gK (gJ 0) gR)<|eC<|.int 30)<|pS<|o8<|iA (f1 tZ)<|gK (kF [none] (lq<|gJ 0) (jc 0) lg<|gT Cf (gJ 0)<|eC<|.str<|PySem.Str.ofString "0123456789") gR)
 (nh "NoText" [])
 jF)
 (ir (om (xT (o8<|BR yT (gJ 0)<|gK (eC<|.str<|PySem.Str.ofString "0") gR)<|mF<|gT (l7 true) (gJ 0)<|eC<|.str<|PySem.Str.ofString "0")
 (nh "NoText" [])
 jF)
 (iN<|iA (f1 wQ)<|gK (gJ 0) gR))
abbrev jQ:ae->gS->R A:=jO nS n5
meta abbrev m_:aG:=top 102
meta abbrev nc:ar:=["text"]
meta abbrev kO:ar:=["text"]
abbrev mX:Sm:=
 iN (lE [none] (lq<|BR rT (gJ 0)<|gK (eC<|.str<|PySem.Str.ofString " ") gR) (jc 0) lg<|oG jQ<|gK (gJ 0) gR)
abbrev jy:ae->gS->R A:=jO nc mX
meta abbrev r6:aG:=top 11
meta abbrev sA:ar:=["thing"]
meta abbrev pG:ar:=["thing"]
abbrev sD:Sm:=
 iN (qj (iA (f2 FU)<|gK (gJ 0)<|gK (eC<|.ty "int") gR)<|CU<|iA (f2 FU)<|gK (gJ 0)<|gK (eC<|.ty "bool") gR)
abbrev jV:ae->gS->R A:=jO sA sD
meta abbrev rP:aG:=top 12
meta abbrev rL:ar:=["thing"]
meta abbrev rY:ar:=["thing"]
abbrev r_:Sm:=
 ir (om (GC (pS<|o8<|iA (f2 FU)<|gK (gJ 0)<|gK (eC<|.ty "tuple") gR)<|GC (mF<|gT Q4 (iA (f1 lu)<|gK (gJ 0) gR)<|eC<|.int 1)<|mF<|gT GI (iA (f1 lu)<|gK (gJ 0) gR)<|eC<|.int 20)
 (iN<|eC<|.bl false)
 jF)
 (ir (om (pS<|o8<|iA (f1 tZ)<|gK (kF [none] (lq<|gJ 0) (jc 0) lg<|eFn jV<|gK (gJ 0) gR) gR)
 (iN<|eC<|.bl false)
 jF)
 (iN<|gT (l7 false) (iA (f1 Cu)<|gK (gJ 0) gR)<|iA (f1 tD)<|gK (iA (f2 sQ)<|gK (eC<|.int 1)<|gK (gT iK (iA (f1 lu)<|gK (gJ 0) gR)<|eC<|.int 1) gR) gR))
abbrev nB:ae->gS->R A:=jO rL r_
meta abbrev pD:aG:=top 103
meta abbrev o_:ar:=["text", "order"]
meta abbrev pq:ar:=["text"]
abbrev oN:Sm:=
 ir (iO (iA (f1 n9)<|gK (oG jy<|gK (gJ 0) gR) gR)<|jc 1)
 (ir (om (pS<|o8<|eFn nB<|gK (gJ 1) gR)
 (nh "NoText" [])
 jF)
 (iN<|gJ 1))
abbrev jh:ae->gS->R A:=jO o_ oN
meta abbrev nZ:aG:=top 15
meta abbrev nU:ar:=["n", "thing"]
meta abbrev lH:ar:=["n", "thing"]
abbrev nY:Sm:=
 iN (qj (eFn jV<|gK (gJ 1) gR)<|JB GH Q4 (eC<|.int 1) (gJ 1)<|gJ 0)
abbrev jt:ae->gS->R A:=jO nU nY
meta abbrev uo:aG:=top 32
meta abbrev uv:ar:=["n", "thing"]
meta abbrev uO:ar:=["n", "thing"]
abbrev uR:Sm:=
 ir (om (GC (pS<|o8<|iA (f2 FU)<|gK (gJ 1)<|gK (eC<|.ty "list") gR)<|mF<|gT GI (iA (f1 lu)<|gK (gJ 1) gR)<|eC<|.int 200)
 (iN<|eC<|.bl false)
 jF)
 (iN<|iA (f1 tZ)<|gK (kF [none,some 0] (lq<|gJ 1) (jc 0) lg<|eFn jt<|gK (gJ 1)<|gK (gJ 0) gR) gR)
abbrev oF:ae->gS->R A:=jO uv uR
meta abbrev qP:aG:=top 104
meta abbrev qu:ar:=["text", "word"]
meta abbrev pY:ar:=["text"]
abbrev qK:Sm:=
 ir (iO (Q5 (mF<|gT (l7 false) (gJ 0)<|eC<|.str<|PySem.Str.ofString "-") (oQ gR)<|oG jy<|gK (gJ 0) gR)<|jc 1)
 (ir (om (pS<|o8<|eFn oF<|gK (eC<|.int 20)<|gK (gJ 1) gR)
 (nh "NoText" [])
 jF)
 (iN<|gJ 1))
abbrev kI:ae->gS->R A:=jO qu qK
meta abbrev kD:aG:=top 16
meta abbrev ku:ar:=["order", "i", "j", "things"]
meta abbrev kB:ar:=["order", "i", "j"]
abbrev kr:Sm:=
 ir (iO (iA (f1 tD)<|gK (gJ 0) gR)<|jc 3)
 (ir (iO (Jq<|gK (gT jv (gJ 3)<|gT aSub (gJ 2)<|eC<|.int 1)<|gK (gT jv (gJ 3)<|gT aSub (gJ 1)<|eC<|.int 1) gR)<|LH 2<|zV (Ni (gJ 3)<|gT aSub (gJ 1)<|eC<|.int 1)<|zV (Ni (gJ 3)<|gT aSub (gJ 2)<|eC<|.int 1) LF)
 (iN<|iA (f1 n9)<|gK (gJ 3) gR))
abbrev jx:ae->gS->R A:=jO ku kr
meta abbrev qF:aG:=top 17
meta abbrev qN:ar:=["order", "k"]
meta abbrev qE:ar:=["order", "k"]
abbrev qy:Sm:=
 ir (om (pS<|o8<|eFn jt<|gK (iA (f1 lu)<|gK (gJ 0) gR)<|gK (gJ 1) gR)
 (nh "NoWord" [.inl "no exchange of ",.inr<|iA (f1 lu)<|gK (gJ 0) gR,.inl " things"])
 jF)
 (iN<|eFn jx<|gK (gJ 0)<|gK (gJ 1)<|gK (gT iK (gJ 1)<|eC<|.int 1) gR)
abbrev kH:ae->gS->R A:=jO qN qy
meta abbrev xB:aG:=top 114
meta abbrev wF:ar:=["order", "word", "k"]
meta abbrev xj:ar:=["order", "word"]
abbrev Cv:Ic:=
 lq (gJ 1)
abbrev xD:Sm:=
 iO (oG kH<|gK (gJ 0)<|gK (gJ 2) gR) (jc 0)
abbrev vX:Sm:=
 ir (oY Cv (jc 2)
 xD)
 (iN<|gJ 0)
abbrev nI:ae->gS->R A:=jO wF vX
meta abbrev oK:aG:=Pw (top 120) 1
meta abbrev oW:ar:=["self", "name"]
meta abbrev mJ:ar:=["self", "name"]
abbrev pP:Sm:=
 ir (om (mF<|gT (Gm true) (gJ 1)<|lM "Desk" "orders"<|gJ 0)
 (Fv "NoName"<|Nt [.inl "nothing is kept by ",.inr<|gJ 1])
 jF)
 (iN<|gT vC (lM "Desk" "orders"<|gJ 0)<|gJ 1)
abbrev iz:ae->gS->R A:=jO oW pP
meta abbrev p_:aG:=Pw (top 120) 4
meta abbrev pX:ar:=["self", "name"]
meta abbrev qg:ar:=["self", "name"]
abbrev qH:Sm:=
 ir (pR<|iX "Desk" "named" iz (gJ 0)<|gK (gJ 1) gR)
 (ir (pR<|iX "Desk" "remember" iS (gJ 0)<|gK (gJ 1) gR)
 (ir (yj (lM "Desk" "orders"<|gJ 0)<|gJ 1)
 (iN<|eC<|.str<|PySem.Str.ofString "ok")))
abbrev jX:ae->gS->R A:=jO pX qH
meta abbrev B3:aG:=top 14
meta abbrev CY:ar:=["order", "places", "at", "thing"]
meta abbrev BV:ar:=["order"]
abbrev Lq:Ic:=
 LM (gJ 0)
abbrev z9:Sm:=
 iO (gT iK (gJ 2)<|eC<|.int 1) (Ni (gJ 1)<|gT aSub (gJ 3)<|eC<|.int 1)
abbrev C5:Sm:=
 ir (iO (gT pO (oQ<|gK (eC<|.int 0) gR)<|iA (f1 lu)<|gK (gJ 0) gR)<|jc 1)
 (ir (oY Lq (LH 2<|zV (jc 2)<|zV (jc 3) LF)
 z9)
 (iN<|iA (f1 n9)<|gK (gJ 1) gR))
abbrev qG:ae->gS->R A:=jO CY C5
meta abbrev nA:aG:=top 94
meta abbrev ng:ar:=["numbers"]
meta abbrev mY:ar:=["numbers"]
abbrev nu:Sm:=
 iN (Q5 (o8<|gJ 0) (BR nP (eC<|.str<|PySem.Str.ofString " ")<|gK (kF [none] (lq<|gJ 0) (jc 0) lg<|iA (f1 yE)<|gK (gJ 0) gR) gR)<|eC<|.str<|PySem.Str.ofString "-")
abbrev jw:ae->gS->R A:=jO ng nu
meta abbrev oM:aG:=top 95
meta abbrev oX:ar:=["order"]
meta abbrev o4:ar:=["order"]
abbrev pH:Sm:=
 iN (eFn jw<|gK (gJ 0) gR)
abbrev kQ:ae->gS->R A:=jO oX pH
meta abbrev nJ:aG:=top 118
meta abbrev nE:ar:=["kind", "order", "first", "second"]
meta abbrev m7:ar:=["kind", "order"]
abbrev nq:Sm:=
 ir (om (mF<|gT (l7 false) (gJ 0)<|eC<|.str<|PySem.Str.ofString "show")
 (iN<|eFn kQ<|gK (gJ 1) gR)
 jF)
 (ir (Tr)
 (ir (Tr)
 (ir (Tr)
 (Tr))))
abbrev jG:ae->gS->R A:=jO nE nq
meta abbrev r9:aG:=Pw (top 120) 6
meta abbrev sC:ar:=["self", "row", "words", "kind", "word", "orders"]
meta abbrev nj:ar:=["self", "row"]
abbrev sy:Sm:=
 ir (iO (BR rT (gJ 1)<|gK (eC<|.str<|PySem.Str.ofString " ") gR)<|jc 2)
 (ir (om (pS<|o8<|eFn jY<|gK (gJ 2) gR)
 (nh "NoRow" [])
 jF)
 (ir (iO (gT jv (gJ 2)<|eC<|.int 0)<|jc 3)
 (ir (om (mF<|gT (l7 false) (gJ 3)<|eC<|.str<|PySem.Str.ofString "undo")
 (iN<|iX "Desk" "undo" ji (gJ 0) gR)
 jF)
 (ir (om (mF<|gT (l7 false) (gJ 3)<|eC<|.str<|PySem.Str.ofString "keep")
 (iN<|iX "Desk" "put" iM (gJ 0)<|gK (gT jv (gJ 2)<|eC<|.int 1)<|gK (oG jh<|gK (BR nP (eC<|.str<|PySem.Str.ofString " ")<|gK (zl (gJ 2) (kL<|eC<|.int 2) kW) gR) gR) gR)
 jF)
 (ir (om (mF<|gT (l7 false) (gJ 3)<|eC<|.str<|PySem.Str.ofString "lead")
 (ir (iO (oG kI<|gK (BR nP (eC<|.str<|PySem.Str.ofString " ")<|gK (zl (gJ 2) (kL<|eC<|.int 2) kW) gR) gR)<|jc 4)
 (iN<|iX "Desk" "put" iM (gJ 0)<|gK (gT jv (gJ 2)<|eC<|.int 1)<|gK (oG nI<|gK (iX "Desk" "named" iz (gJ 0)<|gK (gT jv (gJ 2)<|eC<|.int 1) gR)<|gK (gJ 4) gR) gR))
 jF)
 (ir (om (mF<|gT (l7 false) (gJ 3)<|eC<|.str<|PySem.Str.ofString "drop")
 (iN<|iX "Desk" "drop" jX (gJ 0)<|gK (gT jv (gJ 2)<|eC<|.int 1) gR)
 jF)
 (ir (om (mF<|gT (l7 false) (gJ 3)<|eC<|.str<|PySem.Str.ofString "back")
 (iN<|iX "Desk" "put" iM (gJ 0)<|gK (gT jv (gJ 2)<|eC<|.int 2)<|gK (eFn qG<|gK (iX "Desk" "named" iz (gJ 0)<|gK (gT jv (gJ 2)<|eC<|.int 1) gR) gR) gR)
 jF)
 (ir (iO (lE [none,some 0] (lq<|zl (gJ 2) (kL<|eC<|.int 1) kW) (jc 0) lg<|iX "Desk" "named" iz (gJ 1)<|gK (gJ 0) gR)<|jc 5)
 (iN<|Q5 (mF<|gT (l7 false) (iA (f1 lu)<|gK (gJ 5) gR)<|eC<|.int 1) (oG jG<|gK (gJ 3)<|gK (gT jv (gJ 5)<|eC<|.int 0) gR)<|UM)))))))))
abbrev g8:ae->gS->R A:=jO sC sy
meta abbrev su:aG:=top 127
meta abbrev se:ar:=["_law_numbers"]
meta abbrev pC:ar:=["_law_numbers"]
abbrev sj:Sm:=
 iN (BR nP (eC<|.str<|PySem.Str.ofString " ")<|gK (kF [none] (lq<|gJ 0) (jc 0) lg<|iA (f1 yE)<|gK (gJ 0) gR) gR)
abbrev jd:ae->gS->R A:=jO se sj
meta abbrev mR:aG:=top 128
meta abbrev m8:ar:=["_law_desk", "_law_row", "e", "_law_others"]
meta abbrev mT:ar:=["_law_desk", "_law_row"]
abbrev nG:Sm:=
 ir (Aw 2 4 ["NoPair", "NoWord", "NoNumber", "TooMany", "NoText", "NoName", "NoRow"] (pR<|iX "Desk" "say" g8 (gJ 0)<|gK (gJ 1) gR)
 (ir (iO (oQ<|gK (jU (qU [("NoPair",false),("NoWord",false),("NoNumber",false),("TooMany",false),("NoText",false),("NoName",true),("NoRow",false)])<|gJ 2)<|gK (jU (qU [("NoPair",false),("NoWord",false),("NoNumber",false),("TooMany",false),("NoText",false),("NoName",false),("NoRow",true)])<|gJ 2)<|gK (jU (qU [("NoPair",false),("NoWord",false),("NoNumber",false),("TooMany",false),("NoText",true),("NoName",false),("NoRow",false)])<|gJ 2)<|gK (jU (qU [("NoPair",false),("NoWord",true),("NoNumber",false),("TooMany",false),("NoText",false),("NoName",false),("NoRow",false)])<|gJ 2) gR)<|jc 3)
 (iN<|qj (jU (qU [("NoPair",false),("NoWord",false),("NoNumber",false),("TooMany",true),("NoText",false),("NoName",false),("NoRow",false)])<|gJ 2)<|qj (jU (qU [("NoPair",true),("NoWord",true),("NoNumber",true),("TooMany",true),("NoText",true),("NoName",true),("NoRow",true)])<|gJ 2)<|CU<|iA (f1 BQ)<|gK (gJ 3) gR)))
 (iN<|eC<|.bl false)
abbrev iZ:ae->gS->R A:=jO m8 nG
meta abbrev qL:aG:=top 129
meta abbrev qd:ar:=["_law_desk", "_law_kept"]
meta abbrev qJ:ar:=["_law_desk", "_law_kept"]
abbrev qC:Sm:=
 iN (iA (f1 tZ)<|gK (lE [none,none,some 0] (FJ<|gJ 1) (LH 2<|zV (jc 0)<|zV (jc 1) LF) lg<|gT (l7 false) (iX "Desk" "say" g8 (gJ 2)<|gK (gT iK (eC<|.str<|PySem.Str.ofString "show ")<|gJ 0) gR)<|eFn jd<|gK (gJ 1) gR) gR)
abbrev jZ:ae->gS->R A:=jO qd qC
meta abbrev GO:aG:=top 130
meta abbrev JL:ar:=["_law_script", "_law_desk", "_law_bag_here", "_law_names_here", "_law_kept", "_law_name", "_law_ahead", "_law_turn", "_law_row"]
meta abbrev N4:ar:=["_law_script"]
abbrev zI:Ic:=
 lq (zl (gJ 3) kW<|kL<|eC<|.int 40)
abbrev vM:Sm:=
 ir (iO (eFn jB<|gK (gJ 2)<|gK (gT iK (eC<|.int 1)<|eFn h_<|gK (gJ 2)<|gK (eC<|.int 20) gR) gR)<|AU (gJ 4)<|gJ 5)
 (om (mF<|gT (l7 true) (iX "Desk" "say" g8 (gJ 1)<|gK (gT iK (gT iK (gT iK (eC<|.str<|PySem.Str.ofString "keep ")<|gJ 5)<|eC<|.str<|PySem.Str.ofString " ")<|eFn jd<|gK (gT vC (gJ 4)<|gJ 5) gR) gR)<|eC<|.str<|PySem.Str.ofString "ok")
 (iN<|eC<|.bl false)
 jF)
abbrev zH:Ic:=
 tV (gT iK (eC<|.int 19)<|eFn h_<|gK (gJ 2)<|gK (eC<|.int 7) gR)
abbrev sP:Sm:=
 ir (iO (gT jv (gJ 3)<|eFn h_<|gK (gJ 2)<|gK (eC<|.int 40) gR)<|jc 5)
 (ir (iO (iA (f1 xg)<|gK (gJ 4) gR)<|jc 4)
 (ir (iO (Nt [.inl "lead ",.inr<|gJ 5,.inl " -"])<|jc 8)
 (ir (om (mF<|gT GI (eFn h_<|gK (gJ 2)<|gK (eC<|.int 4) gR)<|eC<|.int 0)
 (ir (iO (eFn jB<|gK (gJ 2)<|gK (gT iK (eC<|.int 1)<|eFn h_<|gK (gJ 2)<|gK (eC<|.int 20) gR) gR)<|AU (gJ 4)<|gJ 5)
 (iO (gT iK (gT iK (gT iK (eC<|.str<|PySem.Str.ofString "keep ")<|gJ 5)<|eC<|.str<|PySem.Str.ofString " ")<|eFn jd<|gK (gT vC (gJ 4)<|gJ 5) gR)<|jc 8))
 jF)
 (ir (om (mF<|gT (l7 true) (iX "Desk" "say" g8 (gJ 1)<|gK (gJ 8) gR)<|eC<|.str<|PySem.Str.ofString "ok")
 (iN<|eC<|.bl false)
 jF)
 (pR<|PN mP (gJ 6)<|gK (gJ 4) gR)))))
abbrev Dm:Ic:=
 tV (eC<|.int 20)
abbrev sS:Sm:=
 ir (iO (FH zS<|gJ 6)<|jc 4)
 (om (GC (mF<|gT (l7 true) (iX "Desk" "say" g8 (gJ 1)<|gK (eC<|.str<|PySem.Str.ofString "undo") gR)<|eC<|.str<|PySem.Str.ofString "ok")<|xT (mF<|gT (l7 false) (gT rg (gJ 7)<|eC<|.int 5)<|eC<|.int 0)<|pS<|o8<|eFn jZ<|gK (gJ 1)<|gK (gJ 4) gR)
 (iN<|eC<|.bl false)
 jF)
abbrev Lb:Sm:=
 ir (iO (Bu "Desk" jn)<|jc 1)
 (ir (iO (eFn mQ<|gK (gJ 0)<|gK (eC<|.int 0) gR)<|jc 2)
 (ir (iO (eFn lP<|gK (gJ 2)<|gK (eC<|.int 41) gR)<|jc 3)
 (ir (iO (v_)<|jc 4)
 (ir (oY zI (jc 5)
 vM)
 (ir (om (pS<|o8<|eFn iZ<|gK (gJ 1)<|gK (gT iK (gT iK (eC<|.str<|PySem.Str.ofString "keep ")<|gT jv (gJ 3)<|eC<|.int 40)<|eC<|.str<|PySem.Str.ofString " 2 1") gR)
 (iN<|eC<|.bl false)
 jF)
 (ir (om (pS<|o8<|eFn iZ<|gK (gJ 1)<|gK (Nt [.inl "back ",.inr<|gT jv (gJ 3)<|eC<|.int 0,.inl " ",.inr<|gT jv (gJ 3)<|eC<|.int 40]) gR)
 (iN<|eC<|.bl false)
 jF)
 (ir (iO (eFn mQ<|gK (gJ 0)<|gK (eC<|.int 1) gR)<|jc 2)
 (ir (iO (oQ<|gK (gJ 4) gR)<|jc 6)
 (ir (oY zH (jc 7)
 sP)
 (ir (iO (iA (f1 xg)<|gK (gJ 4) gR)<|jc 4)
 (ir (pR<|BU DH (gJ 4)<|gK (gT jv (gJ 3)<|eC<|.int 3) gR)
 (ir (om (GC (mF<|gT (l7 true) (iX "Desk" "say" g8 (gJ 1)<|gK (gT iK (eC<|.str<|PySem.Str.ofString "drop ")<|gT jv (gJ 3)<|eC<|.int 3) gR)<|eC<|.str<|PySem.Str.ofString "ok")<|pS<|o8<|eFn jZ<|gK (gJ 1)<|gK (gJ 4) gR)
 (iN<|eC<|.bl false)
 jF)
 (ir (oY Dm (jc 7)
 sS)
 (ir (om (GC (pS<|o8<|eFn jZ<|gK (gJ 1)<|gK (gJ 4) gR)<|pS<|o8<|eFn iZ<|gK (gJ 1)<|gK (eC<|.str<|PySem.Str.ofString "undo") gR)
 (iN<|eC<|.bl false)
 jF)
 (ir (om (GC (mF<|gT (l7 true) (iX "Desk" "say" g8 (gJ 1)<|gK (gT iK (eC<|.str<|PySem.Str.ofString "drop ")<|gT jv (gJ 3)<|eC<|.int 5) gR)<|eC<|.str<|PySem.Str.ofString "ok")<|mF<|gT (l7 true) (iX "Desk" "say" g8 (gJ 1)<|gK (gT iK (gT iK (eC<|.str<|PySem.Str.ofString "keep ")<|gT jv (gJ 3)<|eC<|.int 40)<|eC<|.str<|PySem.Str.ofString " 2 1") gR)<|eC<|.str<|PySem.Str.ofString "ok")
 (iN<|eC<|.bl false)
 jF)
 (iN<|qj (gT (l7 false) (iX "Desk" "say" g8 (gJ 1)<|gK (gT iK (eC<|.str<|PySem.Str.ofString "show ")<|gT jv (gJ 3)<|eC<|.int 40) gR)<|eC<|.str<|PySem.Str.ofString "2 1")<|eFn iZ<|gK (gJ 1)<|gK (gT iK (gT iK (eC<|.str<|PySem.Str.ofString "keep ")<|gT jv (gJ 3)<|eC<|.int 5)<|eC<|.str<|PySem.Str.ofString " 1") gR))))))))))))))))
abbrev yl:ae->gS->R A:=jO JL Lb
section
variable {P:ah}{w:af}{K:az}{mg:Str->bd}{base:au}{f:aj}{fd:FuncData}
def uI:FnScope lZ pQ (g7 mh):=rm rfl rfl rfl ∅
def uP(F:Fun K "__init__" "Desk.__init__" mh f fd)(J:ClK K "Desk" C_Desk)(j:jK K C_Desk "orders")(L:jK K C_Desk "past"):FnOk P w K mg base rz 1 f fd pQ (tu K 1 jn):=yH (m:=l6) F uI λcdv B outer s H E d=>
 gM (Ce J j (gI 0)<|Ab)
 (gW<|Ce J L (gI 0)<|pI gY)
def oV:FnScope t7 uX (g7 ur):=rm rfl rfl rfl ∅
def B6(F:Fun K "_law_bag" "_law_bag" ur f fd)(j:mg "len" = none)(J:mg "abs" = none)(L:mg "int" = none):FnOk P w K mg base rz 1 f fd uX (tu K 2 mQ):=yH (m:=uS) F oV λcdv B outer s H E d=>
 gM (iH (i:=2) oV.nd gX)
 (gM (jk (iT (Qu d.units) (gI 1)<|iE mS j kg<|gO (gI 0) gY)
 (gW<|iH (i:=2) oV.nd<|iE Sw J QW<|gO (i6 (gI 0)<|gI 1) gY)
 iI)
 (gM (iH (i:=3) oV.nd<|g_ i8 gX<|g_ vf (g_ i8 (g_ i8 (g_ i8 (g_ vf (gI 2) gX)<|g_ xy (g_ xy gX<|gI 1)<|gI 1)<|g_ xy gX<|gI 1) gX) gX)
 (gW<|iw<|pI<|gO (g_ xy (gI 2)<|i_ G4 L C6<|gO (qp Sd (gI 2)<|g_ Sg gX gX) gY)<|gO (gI 3) gY)))
def tM:FnScope nM kJ (g7 qm):=rm rfl rfl rfl ∅
def y9(F:Fun K "_law_digit" "_law_digit" qm f fd):FnOk P w K mg base rz 1 f fd kJ (tu K 2 h_):=yH (m:=nO) F tM λcdv B outer s H E d=>
 gM (jk (iT (Ci d.units) (i6 (gI 0) gX) gX)
 (gM (iH (i:=2) tM.nd<|g_ vf (i6 (gI 0) gX)<|gI 1)
 (gM (nW (g_ yX (i6 (gI 0) gX)<|gI 1)<|rK (gI 0) gX)
 (gW<|iw<|gI 2)))
 iI)
 (gM (nW (g_ vf (g_ xy (i6 (gI 0) gX) gX) gX)<|rK (gI 0) gX)
 (gW<|iw<|g_ vf (g_ yX (g_ vf (g_ xy (i6 (gI 0) gX)<|g_ i8 (g_ yX (i6 (gI 0) gX) gX) gX) gX) gX)<|gI 1))
def jf:FnScope qf p6 (g7 qi):=rm rfl rfl rfl ∅
def yQ(F:Fun K "_law_names" "_law_names" qi f fd)(J:mg "range" = none)(j:sR P w K mg base 1 "_law_digit" kJ h_):FnOk P w K mg base rz 2 f fd p6 (tu K 2 lP):=yH (m:=qB) F jf λcdv B outer s H E d=>
 gM (iH (i:=2) jf.nd iC)
 (gM (iH (i:=3) jf.nd<|sG j d (gI 0) gX)
 (gM (iH (i:=4) jf.nd<|sG j d (gI 0) gX)
 (gM (iH (i:=5) jf.nd<|pI<|gO (i6 (gI 2)<|gI 4) gY)
 (gM (qM cZ rfl (Gb J gX<|gI 1) (i9 (i:=6) jf.nd)
 (gM (iH (i:=7) jf.nd<|g_ i8 (i6 (gI 2)<|g_ vf (g_ i8 (gI 4)<|gI 6) gX)<|i6 (gI 2)<|g_ yX (g_ i8 (gI 4)<|gI 6) gX)
 (gM (iH (i:=8) jf.nd iC)
 (gM (qM cZ rfl (qY J<|sG j d (gI 0) gX) (i9 (i:=9) jf.nd)
 (gW<|iH (i:=8) jf.nd<|g_ i8 (gI 8)<|i6 (gI 2)<|sG j d (gI 0) gX))
 (gW<|mH<|Fb dH dI tU (gI 5)<|gO (i6 (pI<|gO (g_ i8 (gI 8)<|gI 7)<|gO (g_ i8 (gI 7)<|gI 8) gY)<|gI 3) gY)))))
 (gW<|iw<|gI 5)))))
def m9:FnScope uT uL (g7 uU):=rm rfl rfl rfl ∅
def BZ(F:Fun K "_law_any" "_law_any" uU f fd)(J:mg "list" = none)(L:mg "range" = none)(j:mg "len" = none)(U:mg "tuple" = none)(Z:sR P w K mg base 1 "_law_digit" kJ h_):FnOk P w K mg base rz 2 f fd uL (tu K 2 oH):=yH (m:=uK) F m9 λcdv B outer s H E d=>
 gM (iH (i:=2) m9.nd<|i_ (yZ rfl) J sN<|gO (i_ wH L v5<|gO gX<|gO (g_ i8 (gI 1) gX) gY) gY)
 (gM (iH (i:=3) m9.nd<|pI gY)
 (gM (Ir 1000000 cZ (iT (Ci d.units) (iE mS j kg<|gO (gI 2) gY) gX)
 (gM (iH (i:=4) m9.nd<|sG Z d (gI 0)<|iE mS j kg<|gO (gI 2) gY)
 (gM (mH<|Fb dH dI tU (gI 3)<|gO (i6 (gI 2)<|gI 4) gY)
 (gW<|iH (i:=2) m9.nd<|g_ i8 (u9 (gI 2) nK<|nL<|gI 4)<|u9 (gI 2) (nL<|g_ i8 (gI 4) gX) nK))))
 (gW<|iw<|i_ (tB rfl) U oB<|gO (gI 3) gY)))
def jN:FnScope p9 qA (g7 qI):=rm rfl rfl rfl ∅
def zg(F:Fun K "_law_order" "_law_order" qI f fd)(L:mg "list" = none)(J:mg "range" = none)(U:mg "tuple" = none)(j:sR P w K mg base 1 "_law_digit" kJ h_)(Z:sR P w K mg base 2 "_law_any" uL oH):FnOk P w K mg base rz 3 f fd qA (tu K 2 jB):=yH (m:=p7) F jN λcdv B outer s H E d=>
 gM (iH (i:=2) jN.nd<|sG j d (gI 0) gX)
 (gM (jk (iT (Ci d.units) (gI 2) gX)
 (gW<|iw<|sG Z d (gI 0)<|gI 1)
 iI)
 (gM (iH (i:=3) jN.nd<|i_ (yZ rfl) L sN<|gO (i_ wH J v5<|gO gX<|gO (g_ i8 (gI 1) gX) gY) gY)
 (gM (jk (iT (sJ d.units) (gI 2) gX)
 (gW<|iH (i:=3) jN.nd<|QX<|gI 3)
 iI)
 (gM (qM cZ rfl (qY J<|sG j d (gI 0) gX) (i9 (i:=4) jN.nd)
 (gM (iH (i:=5) jN.nd<|sG j d (gI 0)<|gI 1)
 (gM (iH (i:=6) jN.nd<|sG j d (gI 0)<|gI 1)
 (gW<|nW (CZ<|gO (i6 (gI 3)<|gI 6)<|gO (i6 (gI 3)<|gI 5) gY)<|wz rfl<|kh (rK (gI 3)<|gI 5)<|kh (rK (gI 3)<|gI 6) s_))))
 (gW<|iw<|i_ (tB rfl) U oB<|gO (gI 3) gY)))))
def Co:FnScope uw uQ (g7 uf):=rm rfl rfl rfl ∅
def Cc(F:Fun K "is_name" "is_name" uf f fd)(j:mg "all" = none)(J:mg "len" = none)(L:∃t,mg "SMALL_LETTERS" = some (.str (PySem.Str.ofString "abcdefghijklmnopqrstuvwxyz") t))(U:∃t,mg "MOST_LETTERS" = some (.int 8 t)):FnOk P w K mg base rz 1 f fd uQ (tu K 1 lB):=yH (m:=uD) F Co λcdv B outer s H E d=>
 gW (iw<|qQ (NZ IS IS gX (iE mS J kg<|gO (gI 0) gY)<|mZ U.choose_spec)<|rR<|iE (ym rfl) j uh<|gO (oS (N:=["sign"]) (cap:=[none]) rfl (rH [] rfl ∅ ∅ ∅ ∅ ∅ (nofun) trivial) (mW<|gI 0) (λ_ _ _ _=>i9 (i:=0) (show(["sign"]:ar).Nodup by decide +kernel) rfl (Or.inl rfl)<|.inr rfl) (λ_ _ _ _=>lJ) λ_ _ _ _=>qp NF (gI 0)<|A2 L.choose_spec) gY)
def vd:FnScope pN rZ (g7 rX):=rm rfl rfl rfl ∅
theorem AM(F:Fun K "has_form" "has_form" rX f fd)(L:mg "len" = none)(Z:mg "all" = none)(J:∃a,mg "NAMES" = some (.ref a)/\KdS w K a iU)(j:∃a,mg "WITH_NUMBERS" = some (.ref a)/\Q6 K a=some (["keep", "lead"]:ar))(U:sR P w K mg base 1 "is_name" uQ lB):FnOk P w K mg base rz 2 f fd rZ (tu K 1 jY):=yH (m:=oO) F vd λcdv B outer s H E d=>
 gM (jk (AW.at<|tF (Nc J.choose_spec.2 J.choose_spec.1<|i6 (gI 0) gX)<|qt<|iT (Rh d.units) iC<|gI 0)
 (gW<|iw ow)
 iI)
 (gM (iH (i:=1) vd.nd<|g_ i8 (QF J.choose_spec.2 J.choose_spec.1<|i6 (gI 0) gX) gX)
 (gM (jk (iT (Rh d.units) (i6 (gI 0) gX)<|Lj j.choose_spec.1 j.choose_spec.2)
 (gW<|iw<|qQ (qp (Ci d.units) (iE mS L kg<|gO (gI 0) gY)<|gI 1)<|rR<|GK U d<|i6 (gI 0) gX)
 iI)
 (gW<|iw<|qQ (qp (sJ d.units) (iE mS L kg<|gO (gI 0) gY)<|gI 1)<|rR<|iE (ym rfl) Z uh<|gO (oS (N:=["word"]) (cap:=[none]) rfl (rH [] rfl ∅ ∅ ∅ ∅ ∅ (nofun) trivial) (mW<|u9 (gI 0) (nL gX) nK) (λ_ _ _ _=>i9 (i:=0) (show(["word"]:ar).Nodup by decide +kernel) rfl (Or.inl rfl)<|.inr rfl) (λ_ _ _ _=>lJ) λ_ _ _ _=>GK U d<|gI 0) gY)))
def pB:FnScope lV qD (g7 pW):=rm rfl rfl rfl ∅
def yW(F:Fun K "undo" "Desk.undo" pW f fd)(j:ClK K "Desk" C_Desk)(L:jK K C_Desk "past")(J:jK K C_Desk "orders")(Z:ExcK K U "TooMany" C_TooMany):FnOk P w K mg base (vj P w) 1 f fd qD (zW K 1 ji):=fnX (m:=lQ) F pB λcdv B outer s H E d=>
 gM (jk (kc<|j3<|lz j L<|gI 0)
 (gW<|lA Z.n Z.q d.hd)
 iI)
 (gM (nW (IJ PySem.F.slot_list_pop PySem.F.type_list_pop Nu<|lz j L<|gI 0)<|wz rfl<|kh (i9 (i:=1) pB.nd)<|kh (i9 (i:=2) pB.nd) s_)
 (gM (jk (iT U5 (gI 2)<|O2)
 (gW<|E5 (lz j J<|gI 0)<|gI 1)
 (gW<|nW (gI 2)<|vS d.units (lz j J<|gI 0)<|gI 1))
 (gW<|iw iC)))
def uy:FnScope l9 kq (g7 l8):=rm rfl rfl rfl ∅
def uq(F:Fun K "remember" "Desk.remember" l8 f fd)(j:ClK K "Desk" C_Desk)(J:jK K C_Desk "past")(L:jK K C_Desk "orders")(U:∃t,mg "MOST_ROWS_BACK" = some (.int 20 t)):FnOk P w K mg base (vj P w) 1 f fd kq (zW K 2 iS):=fnX (m:=lY) F uy λcdv B outer s H E d=>
 gM (mH<|Fb dH dI tU (lz j J<|gI 0)<|gO (CZ<|gO (gI 1)<|gO (JU fJ PySem.F.type_dict_get (MZ d.units) (lz j L<|gI 0)<|gO (gI 1) gY) gY) gY)
 (gW<|Ce j J (gI 0)<|u9 (lz j J<|gI 0) (nL<|P9<|mZ U.choose_spec) nK)
def Bc:FnScope oU sf (g7 rO):=rm rfl rfl rfl ∅
def z7(F:Fun K "put" "Desk.put" rO f fd)(J:ClK K "Desk" C_Desk)(j:jK K C_Desk "orders")(L:ExcK K U "TooMany" C_TooMany)(Z:mg "len" = none)(Xa:∃t,mg "MOST_NAMES" = some (.int 40 t))(WO:Gw P w K mg base 1 C_Desk "remember" kq iS):FnOk P w K mg base (vj P w) 2 f fd sf (zW K 3 iM):=fnX (m:=oZ) F Bc λcdv B outer s H E d=>
 gM (jk (AW.at<|Cd (iT (Ax d.units) (gI 1)<|lz J j<|gI 0)<|zB<|iT Sd (iE OL Z kg<|gO (lz J j<|gI 0) gY)<|mZ Xa.choose_spec)
 (gW<|lA L.n L.q d.hd)
 iI)
 (gM (mH<|jL J WO (d.mono ⋯) (gI 0) (gO (gI 1) gY)<|iY<|iB iV)
 (gM (nW (gI 2)<|vS d.units (lz J j<|gI 0)<|gI 1)
 (gW<|iw iC)))
def wC:FnScope nS n8 (g7 nV):=rm rfl rfl rfl ∅
def vU(F:Fun K "read_number" "read_number" nV f fd)(j:ExcK K U "NoText" C_NoText)(J:mg "all" = none)(L:mg "len" = none)(Z:mg "int" = none)(Xb:∃t,mg "FIGURES" = some (.str (PySem.Str.ofString "0123456789") t))(Xc:∃t,mg "MOST_FIGURES" = some (.int 30 t)):FnOk P w K mg base (vj P w) 1 f fd n8 (zW K 1 jQ):=fnX (m:=n5) F wC λcdv B outer s H E d=>
 gM (jk (AW.at<|tF (kc<|RQ IS IS gX (iE mS L kg<|gO (gI 0) gY)<|mZ Xc.choose_spec)<|qt<|kc<|j3<|iE (ym rfl) J uh<|gO (oS (N:=["sign"]) (cap:=[none]) rfl (rH [] rfl ∅ ∅ ∅ ∅ ∅ (nofun) trivial) (mW<|gI 0) (λ_ _ _ _=>i9 (i:=0) (show(["sign"]:ar).Nodup by decide +kernel) rfl (Or.inl rfl)<|.inr rfl) (λ_ _ _ _=>lJ) λ_ _ _ _=>qp NF (gI 0)<|A2 Xb.choose_spec) gY)
 (gW<|lA j.n j.q d.hd)
 iI)
 (gM (jk (AW.at<|Cd (j3<|wD PySem.F.slot_str_startswith PySem.F.type_str_startswith JE (gI 0)<|gO iC gY)<|zB<|iT (B4 d.units) (gI 0) iC)
 (gW<|lA j.n j.q d.hd)
 iI)
 (gW<|iw<|i_ G4 Z C6<|gO (gI 0) gY))
def vE:FnScope nc kO (g7 m_):=rm rfl rfl rfl ∅
def vv(F:Fun K "read_numbers" "read_numbers" m_ f fd)(j:GD P w K mg base 1 "read_number" n8 jQ):FnOk P w K mg base (vj P w) 2 f fd kO (zW K 1 jy):=fnX (m:=mX) F vE λcdv B outer s H E d=>
 gW (iw<|A6 (N:=["part"]) (cap:=[none]) rfl (rH [] rfl ∅ ∅ ∅ ∅ ∅ (nofun) trivial) (mW<|wD PySem.F.slot_str_split PySem.F.type_str_split m_split (gI 0)<|gO iC gY) (λ_ _ _ _=>i9 (i:=0) (show(["part"]:ar).Nodup by decide +kernel) rfl (Or.inl rfl)<|.inr rfl) (λ_ _ _ _=>lJ) λ_ _ _ _ _ _=>SS j d<|gI 0)
def zY:FnScope sA pG (g7 r6):=rm rfl rfl rfl ∅
def zZ(F:Fun K "is_whole" "is_whole" r6 f fd)(j:mg "isinstance" = none)(J:mg "bool" = none)(L:mg "int" = none):FnOk P w K mg base rz 1 f fd pG (tu K 1 jV):=yH (m:=sD) F zY λcdv B outer s H E d=>
 gW (iw<|qQ (iE EC j ki<|gO (gI 0)<|gO (EY L C6) gY)<|rR<|Jc<|iE EC j ki<|gO (gI 0)<|gO (EY J M0) gY)
def Bx:FnScope rL rY (g7 rP):=rm rfl rfl rfl ∅
def Au(F:Fun K "is_order" "is_order" rP f fd)(j:mg "len" = none)(J:mg "isinstance" = none)(L:mg "tuple" = none)(U:mg "all" = none)(Z:mg "sorted" = none)(WJ:mg "list" = none)(WE:mg "range" = none)(WQ:∃t,mg "MOST_THINGS_orders" = some (.int 20 t))(WR:sR P w K mg base 1 "is_whole" pG jV):FnOk P w K mg base rz 2 f fd rY (tu K 1 nB):=yH (m:=r_) F Bx λcdv B outer s H E d=>
 gM (jk (AW.at<|tF (kc<|j3<|iE EC J ki<|gO (gI 0)<|gO (EY L oB) gY)<|tF (iT (Qu d.units) (iE mS j kg<|gO (gI 0) gY) gX)<|qt<|iT (Ci d.units) (iE mS j kg<|gO (gI 0) gY)<|mZ WQ.choose_spec)
 (gW<|iw ow)
 iI)
 (gM (jk (kc<|j3<|iE (ym rfl) U uh<|gO (oS (N:=["part"]) (cap:=[none]) rfl (rH [] rfl ∅ ∅ ∅ ∅ ∅ (nofun) trivial) (mW<|gI 0) (λ_ _ _ _=>i9 (i:=0) (show(["part"]:ar).Nodup by decide +kernel) rfl (Or.inl rfl)<|.inr rfl) (λ_ _ _ _=>lJ) λ_ _ _ _=>GK WR d<|gI 0) gY)
 (gW<|iw ow)
 iI)
 (gW<|iw<|qp (sJ d.units) (iE LS Z F0<|gO (gI 0) gY)<|i_ (yZ rfl) WJ sN<|gO (i_ wH WE v5<|gO gX<|gO (g_ i8 (iE mS j kg<|gO (gI 0) gY) gX) gY) gY))
def rA:FnScope o_ pq (g7 pD):=rm rfl rfl rfl ∅
def xZ(F:Fun K "read_order" "read_order" pD f fd)(j:ExcK K U "NoText" C_NoText)(J:mg "tuple" = none)(L:GD P w K mg base 2 "read_numbers" kO jy)(Z:sR P w K mg base 2 "is_order" rY nB):FnOk P w K mg base (vj P w) 3 f fd pq (zW K 1 jh):=fnX (m:=oN) F rA λcdv B outer s H E d=>
 gM (iH (i:=1) rA.nd<|i_ (tB rfl) J oB<|gO (SS L d<|gI 0) gY)
 (gM (jk (kc<|j3<|GK Z d<|gI 1)
 (gW<|lA j.n j.q d.hd)
 iI)
 (gW<|iw<|gI 1))
def wU:FnScope nU lH (g7 nZ):=rm rfl rfl rfl ∅
def wL(F:Fun K "is_exchange" "is_exchange" nZ f fd)(j:sR P w K mg base 1 "is_whole" pG jV):FnOk P w K mg base rz 2 f fd lH (tu K 2 jt):=yH (m:=nY) F wU λcdv B outer s H E d=>
 gW (iw<|qQ (GK j d<|gI 1)<|rR<|NZ IS (Qu d.units) gX (gI 1)<|gI 0)
def Cj:FnScope uv uO (g7 uo):=rm rfl rfl rfl ∅
def C2(F:Fun K "is_word" "is_word" uo f fd)(j:mg "len" = none)(J:mg "isinstance" = none)(L:mg "list" = none)(U:mg "all" = none)(Z:∃t,mg "MOST_NUMBERS" = some (.int 200 t))(WT:sR P w K mg base 2 "is_exchange" lH jt):FnOk P w K mg base rz 3 f fd uO (tu K 2 oF):=yH (m:=uR) F Cj λcdv B outer s H E d=>
 gM (jk (AW.at<|tF (kc<|j3<|iE EC J ki<|gO (gI 1)<|gO (EY L sN) gY)<|qt<|iT (Ci d.units) (iE mS j kg<|gO (gI 1) gY)<|mZ Z.choose_spec)
 (gW<|iw ow)
 iI)
 (gW<|iw<|iE (ym rfl) U uh<|gO (oS (N:=["part", "n"]) (cap:=[none,some 0]) rfl (rH ["n"] rfl ∅ ∅ ∅ ∅ ∅ (aJ.mpr ⟨by first|exact Or.inl rfl|exact Or.inr rfl,(nofun)⟩) ⟨rfl,by decide +kernel,trivial⟩) (mW<|gI 1) (λ_ _ _ _=>i9 (i:=0) (show(["part", "n"]:ar).Nodup by decide +kernel) rfl (Or.inl rfl)<|.inr rfl) (λ_ _ _ _=>lJ) λ_ _ _ _=>sG WT d (gI 1)<|gI 0) gY)
def tP:FnScope qu pY (g7 qP):=rm rfl rfl rfl ∅
def zU(F:Fun K "read_word" "read_word" qP f fd)(j:ExcK K U "NoText" C_NoText)(J:∃t,mg "MOST_THINGS_orders" = some (.int 20 t))(L:GD P w K mg base 2 "read_numbers" kO jy)(Z:sR P w K mg base 3 "is_word" uO oF):FnOk P w K mg base (vj P w) 4 f fd pY (zW K 1 kI):=fnX (m:=qK) F tP λcdv B outer s H E d=>
 gM (iH (i:=1) tP.nd<|Io (iT (sJ d.units) (gI 0) iC) (pI gY)<|SS L d<|gI 0)
 (gM (jk (kc<|j3<|sG Z d (mZ J.choose_spec)<|gI 1)
 (gW<|lA j.n j.q d.hd)
 iI)
 (gW<|iw<|gI 1))
def mq:FnScope ku kB (g7 kD):=rm rfl rfl rfl ∅
def rq(F:Fun K "exchanged_places" "exchanged_places" kD f fd)(j:mg "list" = none)(J:mg "tuple" = none):FnOk P w K mg base rz 1 f fd kB (tu K 3 jx):=yH (m:=kr) F mq λcdv B outer s H E d=>
 gM (iH (i:=3) mq.nd<|i_ (yZ rfl) j sN<|gO (gI 0) gY)
 (gM (nW (CZ<|gO (i6 (gI 3)<|g_ Ai (gI 2) gX)<|gO (i6 (gI 3)<|g_ Ai (gI 1) gX) gY)<|wz rfl<|kh (rK (gI 3)<|g_ Ai (gI 1) gX)<|kh (rK (gI 3)<|g_ Ai (gI 2) gX) s_)
 (gW<|iw<|i_ (tB rfl) J oB<|gO (gI 3) gY))
def zk:FnScope qN qE (g7 qF):=rm rfl rfl rfl ∅
def zq(F:Fun K "exchanged" "exchanged" qF f fd)(j:ExcK K U "NoWord" C_NoWord)(J:mg "len" = none)(L:sR P w K mg base 2 "is_exchange" lH jt)(Z:sR P w K mg base 1 "exchanged_places" kB jx):FnOk P w K mg base (vj P w) 3 f fd qE (zW K 2 kH):=fnX (m:=qy) F zk λcdv B outer s H E d=>
 gM (jk (kc<|j3<|sG L d (iE mS J kg<|gO (gI 0) gY)<|gI 1)
 (gW<|FE (ps:=[.inl "no exchange of ",.inr<|iA (f1 lu)<|gK (gJ 0) gR,.inl " things"]) j.n j.q d.hd<|.txt<|.val (iE mS J kg<|gO (gI 0) gY)<|.txt .nil)
 iI)
 (gW<|iw<|VW Z d (gI 0) (gI 1)<|g_ i8 (gI 1) gX)
def uG:FnScope wF xj (g7 xB):=rm rfl rfl rfl ∅
def FL(F:Fun K "led_on" "led_on" xB f fd)(j:GD P w K mg base 3 "exchanged" qE kH):FnOk P w K mg base (vj P w) 4 f fd xj (zW K 2 nI):=fnX (m:=vX) F uG λcdv B outer s H E d=>
 gM (qM PassesOwn.leaving rfl (mW<|gI 1) (i9 (i:=2) uG.nd)
 (gW<|iH (i:=0) uG.nd<|T4 j d (gI 0)<|gI 2))
 (gW<|iw<|gI 0)
def xK:FnScope oW mJ (g7 oK):=rm rfl rfl rfl ∅
def xW(F:Fun K "named" "Desk.named" oK f fd)(J:ClK K "Desk" C_Desk)(j:jK K C_Desk "orders")(L:ExcK K U "NoName" C_NoName):FnOk P w K mg base (vj P w) 1 f fd mJ (zW K 2 iz):=fnX (m:=pP) F xK λcdv B outer s H E d=>
 gM (jk (iT (Ax d.units) (gI 1)<|lz J j<|gI 0)
 (gW<|Ga L.n L.q d.hd<|Jy (ps:=[.inl "nothing is kept by ",.inr<|gJ 1])<|.txt<|.val (gI 1) .nil)
 iI)
 (gW<|iw<|B7 d.units (lz J j<|gI 0)<|gI 1)
def zm:FnScope pX qg (g7 p_):=rm rfl rfl rfl ∅
def zf(F:Fun K "drop" "Desk.drop" p_ f fd)(j:ClK K "Desk" C_Desk)(J:jK K C_Desk "orders")(L:Gw P w K mg base 1 C_Desk "named" mJ iz)(U:Gw P w K mg base 1 C_Desk "remember" kq iS):FnOk P w K mg base (vj P w) 2 f fd qg (zW K 2 jX):=fnX (m:=qH) F zm λcdv B outer s H E d=>
 gM (mH<|jL j L (d.mono ⋯) (gI 0) (gO (gI 1) gY)<|iY<|iB iV)
 (gM (mH<|jL j U (d.mono ⋯) (gI 0) (gO (gI 1) gY)<|iY<|iB iV)
 (gM (E5 (lz j J<|gI 0)<|gI 1)
 (gW<|iw iC)))
def vK:FnScope CY BV (g7 B3):=rm rfl rfl rfl ∅
def M_(F:Fun K "back" "back" B3 f fd)(j:mg "len" = none)(J:mg "enumerate" = none)(L:mg "tuple" = none):FnOk P w K mg base rz 1 f fd BV (tu K 1 qG):=yH (m:=C5) F vK λcdv B outer s H E d=>
 gM (iH (i:=1) vK.nd<|g_ xy (pI<|gO gX gY)<|iE mS j kg<|gO (gI 0) gY)
 (gM (qM cZ rfl (Pu J<|gI 0) (wz rfl<|kh (i9 (i:=2) vK.nd)<|kh (i9 (i:=3) vK.nd) s_)
 (gW<|nW (g_ i8 (gI 2) gX)<|rK (gI 1)<|g_ Ai (gI 3) gX))
 (gW<|iw<|i_ (tB rfl) L oB<|gO (gI 1) gY))
def vn:FnScope ng mY (g7 nA):=rm rfl rfl rfl ∅
def vz(F:Fun K "show_numbers" "show_numbers" nA f fd)(j:mg "str" = none):FnOk P w K mg base rz 1 f fd mY (tu K 1 jw):=yH (m:=nu) F vn λcdv B outer s H E d=>
 gW (iw<|Io (j3<|gI 0) (wD dY dZ yV iC<|gO (oS (N:=["number"]) (cap:=[none]) rfl (rH [] rfl ∅ ∅ ∅ ∅ ∅ (nofun) trivial) (mW<|gI 0) (λ_ _ _ _=>i9 (i:=0) (show(["number"]:ar).Nodup by decide +kernel) rfl (Or.inl rfl)<|.inr rfl) (λ_ _ _ _=>lJ) λ_ _ _ _=>i_ JX j J2<|gO (gI 0) gY) gY) iC)
def xP:FnScope oX o4 (g7 oM):=rm rfl rfl rfl ∅
def xS(F:Fun K "show_order" "show_order" oM f fd)(j:sR P w K mg base 1 "show_numbers" mY jw):FnOk P w K mg base rz 2 f fd o4 (tu K 1 kQ):=yH (m:=pH) F xP λcdv B outer s H E d=>
 gW (iw<|GK j d<|gI 0)
def vp:FnScope nE m7 (g7 nJ):=rm rfl rfl rfl ∅
def vG(F:Fun K "asked_of_one" "asked_of_one" nJ f fd)(j:sR P w K mg base 2 "show_order" o4 kQ):FnOk P w K mg base (vj P w) 3 f fd m7 (zW K 2 jG):=fnX (m:=nq) F vp λcdv B outer s H E d=>
 gM (jk (iT (sJ d.units) (gI 0) iC)
 (gW<|iw<|GK j d<|gI 1)
 iI)
 (gM (EF)
 (gM (EF)
 (gM (EF)
 (gW<|EF))))
def lO:FnScope sC nj (g7 r9):=rm rfl rfl rfl ∅
def AN(F:Fun K "say" "Desk.say" r9 f fd)(j:ClK K "Desk" C_Desk)(Z:ExcK K U "NoRow" C_NoRow)(Wv:mg "len" = none)(Xo:sR P w K mg base 2 "has_form" rZ jY)(Xp:Gw P w K mg base 1 C_Desk "undo" qD ji)(J:Gw P w K mg base 2 C_Desk "put" sf iM)(Xq:GD P w K mg base 3 "read_order" pq jh)(Xr:GD P w K mg base 4 "read_word" pY kI)(Xs:GD P w K mg base 4 "led_on" xj nI)(L:Gw P w K mg base 1 C_Desk "named" mJ iz)(Xu:Gw P w K mg base 2 C_Desk "drop" qg jX)(Xv:sR P w K mg base 1 "back" BV qG)(Xw:GD P w K mg base 3 "asked_of_one" m7 jG):FnOk P w K mg base (vj P w) 5 f fd nj (zW K 2 g8):=fnX (m:=sy) F lO λcdv B outer s H E d=>
 gM (iH (i:=2) lO.nd<|wD PySem.F.slot_str_split PySem.F.type_str_split m_split (gI 1)<|gO iC gY)
 (gM (jk (kc<|j3<|GK Xo d<|gI 2)
 (gW<|lA Z.n Z.q d.hd)
 iI)
 (gM (iH (i:=3) lO.nd<|i6 (gI 2) gX)
 (gM (jk (iT (sJ d.units) (gI 3) iC)
 (gW<|iw<|Mn j Xp (d.mono ⋯)<|gI 0)
 iI)
 (gM (jk (iT (sJ d.units) (gI 3) iC)
 (gW<|iw<|jL j J (d.mono ⋯) (gI 0) (gO (i6 (gI 2) gX)<|gO (SS Xq d<|wD dY dZ yV iC<|gO (u9 (gI 2) (nL gX) nK) gY) gY)<|iY<|iB<|iB iV)
 iI)
 (gM (jk (iT (sJ d.units) (gI 3) iC)
 (gM (iH (i:=4) lO.nd<|SS Xr d<|wD dY dZ yV iC<|gO (u9 (gI 2) (nL gX) nK) gY)
 (gW<|iw<|jL j J (d.mono ⋯) (gI 0) (gO (i6 (gI 2) gX)<|gO (T4 Xs d (jL j L (d.mono ⋯) (gI 0) (gO (i6 (gI 2) gX) gY)<|iY<|iB iV)<|gI 4) gY)<|iY<|iB<|iB iV))
 iI)
 (gM (jk (iT (sJ d.units) (gI 3) iC)
 (gW<|iw<|jL j Xu (d.mono ⋯) (gI 0) (gO (i6 (gI 2) gX) gY)<|iY<|iB iV)
 iI)
 (gM (jk (iT (sJ d.units) (gI 3) iC)
 (gW<|iw<|jL j J (d.mono ⋯) (gI 0) (gO (i6 (gI 2) gX)<|gO (GK Xv d<|jL j L (d.mono ⋯) (gI 0) (gO (i6 (gI 2) gX) gY)<|iY<|iB iV) gY)<|iY<|iB<|iB iV)
 iI)
 (gM (Jf (i:=5) (N:=["name", "self"]) (cap:=[none,some 0]) lO.nd rfl (rH ["self"] rfl ∅ ∅ ∅ ∅ ∅ (aJ.mpr ⟨by first|exact Or.inl rfl|exact Or.inr rfl,(nofun)⟩) ⟨rfl,by decide +kernel,trivial⟩) (mW<|u9 (gI 2) (nL gX) nK) (λ_ _ _ _=>i9 (i:=0) (show(["name", "self"]:ar).Nodup by decide +kernel) rfl (Or.inl rfl)<|.inr rfl) (λ_ _ _ _=>lJ) λ_ _ _ _ _ _=>jL j L (d.mono ⋯) (gI 1) (gO (gI 0) gY)<|iY<|iB iV)
 (gW<|iw<|Io (iT (sJ d.units) (iE mS Wv kg<|gO (gI 5) gY) gX) (T4 Xw d (gI 3)<|i6 (gI 5) gX)<|Se)))))))))
def Bs:FnScope se pC (g7 su):=rm rfl rfl rfl ∅
def Av(F:Fun K "_law_text" "_law_text" su f fd)(j:mg "str" = none):FnOk P w K mg base rz 1 f fd pC (tu K 1 jd):=yH (m:=sj) F Bs λcdv B outer s H E d=>
 gW (iw<|wD dY dZ yV iC<|gO (oS (N:=["_law_number"]) (cap:=[none]) rfl (rH [] rfl ∅ ∅ ∅ ∅ ∅ (nofun) trivial) (mW<|gI 0) (λ_ _ _ _=>i9 (i:=0) (show(["_law_number"]:ar).Nodup by decide +kernel) rfl (Or.inl rfl)<|.inr rfl) (λ_ _ _ _=>lJ) λ_ _ _ _=>i_ JX j J2<|gO (gI 0) gY) gY)
def l_:FnScope m8 mT (g7 mR):=rm rfl rfl rfl ∅
def vq(F:Fun K "_law_too_many" "_law_too_many" mR f fd)(c_Desk:ClK K "Desk" C_Desk)(hU:wV K "UnderError" U)(mU:L2.mroIn K U=some M1)(WA:ExcK K U "NoRow" C_NoRow)(Wz:ExcK K U "NoName" C_NoName)(Ww:ExcK K U "NoText" C_NoText)(Wx:ExcK K U "TooMany" C_TooMany)(WB:ExcK K U "NoNumber" C_NoNumber)(Wy:ExcK K U "NoWord" C_NoWord)(WC:ExcK K U "NoPair" C_NoPair)(Xx:mg "NoWord" = some (.ref C_NoWord))(Xy:mg "NoText" = some (.ref C_NoText))(Xz:mg "NoRow" = some (.ref C_NoRow))(XA:mg "NoName" = some (.ref C_NoName))(XC:mg "TooMany" = some (.ref C_TooMany))(k_NoRow_NoWord:PySem.W.kitOne K (.ref C_NoRow) (.ref C_NoWord)=some false)(k_NoName_NoWord:PySem.W.kitOne K (.ref C_NoName) (.ref C_NoWord)=some false)(k_NoText_NoWord:PySem.W.kitOne K (.ref C_NoText) (.ref C_NoWord)=some false)(k_TooMany_NoWord:PySem.W.kitOne K (.ref C_TooMany) (.ref C_NoWord)=some false)(J:PySem.W.kitOne K (.ref C_NoNumber) (.ref C_NoWord)=some false)(k_NoWord_NoWord:PySem.W.kitOne K (.ref C_NoWord) (.ref C_NoWord)=some true)(k_NoPair_NoWord:PySem.W.kitOne K (.ref C_NoPair) (.ref C_NoWord)=some false)(k_NoRow_NoText:PySem.W.kitOne K (.ref C_NoRow) (.ref C_NoText)=some false)(k_NoName_NoText:PySem.W.kitOne K (.ref C_NoName) (.ref C_NoText)=some false)(k_NoText_NoText:PySem.W.kitOne K (.ref C_NoText) (.ref C_NoText)=some true)(k_TooMany_NoText:PySem.W.kitOne K (.ref C_TooMany) (.ref C_NoText)=some false)(L:PySem.W.kitOne K (.ref C_NoNumber) (.ref C_NoText)=some false)(k_NoWord_NoText:PySem.W.kitOne K (.ref C_NoWord) (.ref C_NoText)=some false)(k_NoPair_NoText:PySem.W.kitOne K (.ref C_NoPair) (.ref C_NoText)=some false)(k_NoRow_NoRow:PySem.W.kitOne K (.ref C_NoRow) (.ref C_NoRow)=some true)(k_NoName_NoRow:PySem.W.kitOne K (.ref C_NoName) (.ref C_NoRow)=some false)(k_NoText_NoRow:PySem.W.kitOne K (.ref C_NoText) (.ref C_NoRow)=some false)(k_TooMany_NoRow:PySem.W.kitOne K (.ref C_TooMany) (.ref C_NoRow)=some false)(k_NoNumber_NoRow:PySem.W.kitOne K (.ref C_NoNumber) (.ref C_NoRow)=some false)(k_NoWord_NoRow:PySem.W.kitOne K (.ref C_NoWord) (.ref C_NoRow)=some false)(k_NoPair_NoRow:PySem.W.kitOne K (.ref C_NoPair) (.ref C_NoRow)=some false)(k_NoRow_NoName:PySem.W.kitOne K (.ref C_NoRow) (.ref C_NoName)=some false)(k_NoName_NoName:PySem.W.kitOne K (.ref C_NoName) (.ref C_NoName)=some true)(k_NoText_NoName:PySem.W.kitOne K (.ref C_NoText) (.ref C_NoName)=some false)(k_TooMany_NoName:PySem.W.kitOne K (.ref C_TooMany) (.ref C_NoName)=some false)(Z:PySem.W.kitOne K (.ref C_NoNumber) (.ref C_NoName)=some false)(k_NoWord_NoName:PySem.W.kitOne K (.ref C_NoWord) (.ref C_NoName)=some false)(k_NoPair_NoName:PySem.W.kitOne K (.ref C_NoPair) (.ref C_NoName)=some false)(k_NoRow_TooMany:PySem.W.kitOne K (.ref C_NoRow) (.ref C_TooMany)=some false)(k_NoName_TooMany:PySem.W.kitOne K (.ref C_NoName) (.ref C_TooMany)=some false)(k_NoText_TooMany:PySem.W.kitOne K (.ref C_NoText) (.ref C_TooMany)=some false)(k_TooMany_TooMany:PySem.W.kitOne K (.ref C_TooMany) (.ref C_TooMany)=some true)(j:PySem.W.kitOne K (.ref C_NoNumber) (.ref C_TooMany)=some false)(k_NoWord_TooMany:PySem.W.kitOne K (.ref C_NoWord) (.ref C_TooMany)=some false)(k_NoPair_TooMany:PySem.W.kitOne K (.ref C_NoPair) (.ref C_TooMany)=some false)(WI:mg "isinstance" = none)(XD:mg "any" = none)(XF:mg "ValueError" = none)(WK:Gw P w K mg base 5 C_Desk "say" nj g8):FnOk P w K mg base rz 6 f fd mT (tu K 2 iZ):=yH (m:=nG) F l_ λcdv B outer s H E g=>
 gM (by(refine QT (i:=2) (cs:=["NoPair", "NoWord", "NoNumber", "TooMany", "NoText", "NoName", "NoRow"]) ?hb ?hh l_.nd hU mU<|aJ.mpr ⟨⟨_,WC.n,WC.r⟩,(aJ.mpr ⟨⟨_,Wy.n,Wy.r⟩,(aJ.mpr ⟨⟨_,WB.n,WB.r⟩,(aJ.mpr ⟨⟨_,Wx.n,Wx.r⟩,(aJ.mpr ⟨⟨_,Ww.n,Ww.r⟩,(aJ.mpr ⟨⟨_,Wz.n,Wz.r⟩,(aJ.mpr ⟨⟨_,WA.n,WA.r⟩,(nofun)⟩)⟩)⟩)⟩)⟩)⟩)⟩;(case hb=>exact(λ_ _=>gW<|mH<|jL c_Desk WK (g.mono ⋯) (gI 0) (gO (gI 1) gY)<|iY<|iB iV));(case hh=>exact(λ_ _ _ _ d=>gM (iH (i:=3) l_.nd<|pI<|gO (wB XA (tb:=[("NoPair",false),("NoWord",false),("NoNumber",false),("TooMany",false),("NoText",false),("NoName",true),("NoRow",false)]) (aJ.mpr ⟨⟨_,WC.n,WC.x,WC.cl,k_NoPair_NoName⟩,(aJ.mpr ⟨⟨_,Wy.n,Wy.x,Wy.cl,k_NoWord_NoName⟩,(aJ.mpr ⟨⟨_,WB.n,WB.x,WB.cl,Z⟩,(aJ.mpr ⟨⟨_,Wx.n,Wx.x,Wx.cl,k_TooMany_NoName⟩,(aJ.mpr ⟨⟨_,Ww.n,Ww.x,Ww.cl,k_NoText_NoName⟩,(aJ.mpr ⟨⟨_,Wz.n,Wz.x,Wz.cl,k_NoName_NoName⟩,(aJ.mpr ⟨⟨_,WA.n,WA.x,WA.cl,k_NoRow_NoName⟩,(nofun)⟩)⟩)⟩)⟩)⟩)⟩)⟩) (gI 2) WI)<|gO (wB Xz (tb:=[("NoPair",false),("NoWord",false),("NoNumber",false),("TooMany",false),("NoText",false),("NoName",false),("NoRow",true)]) (aJ.mpr ⟨⟨_,WC.n,WC.x,WC.cl,k_NoPair_NoRow⟩,(aJ.mpr ⟨⟨_,Wy.n,Wy.x,Wy.cl,k_NoWord_NoRow⟩,(aJ.mpr ⟨⟨_,WB.n,WB.x,WB.cl,k_NoNumber_NoRow⟩,(aJ.mpr ⟨⟨_,Wx.n,Wx.x,Wx.cl,k_TooMany_NoRow⟩,(aJ.mpr ⟨⟨_,Ww.n,Ww.x,Ww.cl,k_NoText_NoRow⟩,(aJ.mpr ⟨⟨_,Wz.n,Wz.x,Wz.cl,k_NoName_NoRow⟩,(aJ.mpr ⟨⟨_,WA.n,WA.x,WA.cl,k_NoRow_NoRow⟩,(nofun)⟩)⟩)⟩)⟩)⟩)⟩)⟩) (gI 2) WI)<|gO (wB Xy (tb:=[("NoPair",false),("NoWord",false),("NoNumber",false),("TooMany",false),("NoText",true),("NoName",false),("NoRow",false)]) (aJ.mpr ⟨⟨_,WC.n,WC.x,WC.cl,k_NoPair_NoText⟩,(aJ.mpr ⟨⟨_,Wy.n,Wy.x,Wy.cl,k_NoWord_NoText⟩,(aJ.mpr ⟨⟨_,WB.n,WB.x,WB.cl,L⟩,(aJ.mpr ⟨⟨_,Wx.n,Wx.x,Wx.cl,k_TooMany_NoText⟩,(aJ.mpr ⟨⟨_,Ww.n,Ww.x,Ww.cl,k_NoText_NoText⟩,(aJ.mpr ⟨⟨_,Wz.n,Wz.x,Wz.cl,k_NoName_NoText⟩,(aJ.mpr ⟨⟨_,WA.n,WA.x,WA.cl,k_NoRow_NoText⟩,(nofun)⟩)⟩)⟩)⟩)⟩)⟩)⟩) (gI 2) WI)<|gO (wB Xx (tb:=[("NoPair",false),("NoWord",true),("NoNumber",false),("TooMany",false),("NoText",false),("NoName",false),("NoRow",false)]) (aJ.mpr ⟨⟨_,WC.n,WC.x,WC.cl,k_NoPair_NoWord⟩,(aJ.mpr ⟨⟨_,Wy.n,Wy.x,Wy.cl,k_NoWord_NoWord⟩,(aJ.mpr ⟨⟨_,WB.n,WB.x,WB.cl,J⟩,(aJ.mpr ⟨⟨_,Wx.n,Wx.x,Wx.cl,k_TooMany_NoWord⟩,(aJ.mpr ⟨⟨_,Ww.n,Ww.x,Ww.cl,k_NoText_NoWord⟩,(aJ.mpr ⟨⟨_,Wz.n,Wz.x,Wz.cl,k_NoName_NoWord⟩,(aJ.mpr ⟨⟨_,WA.n,WA.x,WA.cl,k_NoRow_NoWord⟩,(nofun)⟩)⟩)⟩)⟩)⟩)⟩)⟩) (gI 2) WI) gY)
 (gW<|iw<|qQ (wB XC (tb:=[("NoPair",false),("NoWord",false),("NoNumber",false),("TooMany",true),("NoText",false),("NoName",false),("NoRow",false)]) (aJ.mpr ⟨⟨_,WC.n,WC.x,WC.cl,k_NoPair_TooMany⟩,(aJ.mpr ⟨⟨_,Wy.n,Wy.x,Wy.cl,k_NoWord_TooMany⟩,(aJ.mpr ⟨⟨_,WB.n,WB.x,WB.cl,j⟩,(aJ.mpr ⟨⟨_,Wx.n,Wx.x,Wx.cl,k_TooMany_TooMany⟩,(aJ.mpr ⟨⟨_,Ww.n,Ww.x,Ww.cl,k_NoText_TooMany⟩,(aJ.mpr ⟨⟨_,Wz.n,Wz.x,Wz.cl,k_NoName_TooMany⟩,(aJ.mpr ⟨⟨_,WA.n,WA.x,WA.cl,k_NoRow_TooMany⟩,(nofun)⟩)⟩)⟩)⟩)⟩)⟩)⟩) (gI 2) WI)<|qQ (PC XF (tb:=[("NoPair",true),("NoWord",true),("NoNumber",true),("TooMany",true),("NoText",true),("NoName",true),("NoRow",true)]) (aJ.mpr ⟨⟨_,WC.n,WC.x,WC.cl,WC.v⟩,(aJ.mpr ⟨⟨_,Wy.n,Wy.x,Wy.cl,Wy.v⟩,(aJ.mpr ⟨⟨_,WB.n,WB.x,WB.cl,WB.v⟩,(aJ.mpr ⟨⟨_,Wx.n,Wx.x,Wx.cl,Wx.v⟩,(aJ.mpr ⟨⟨_,Ww.n,Ww.x,Ww.cl,Ww.v⟩,(aJ.mpr ⟨⟨_,Wz.n,Wz.x,Wz.cl,Wz.v⟩,(aJ.mpr ⟨⟨_,WA.n,WA.x,WA.cl,WA.v⟩,(nofun)⟩)⟩)⟩)⟩)⟩)⟩)⟩) (gI 2) WI)<|rR<|Jc<|iE (PL rfl iF d) XD Pc<|gO (gI 3) gY)))))
 (gW<|iw ow)
def zP:FnScope qd qJ (g7 qL):=rm rfl rfl rfl ∅
def zy(F:Fun K "_law_shows" "_law_shows" qL f fd)(j:ClK K "Desk" C_Desk)(J:mg "all" = none)(L:Gw P w K mg base 5 C_Desk "say" nj g8)(U:sR P w K mg base 1 "_law_text" pC jd):FnOk P w K mg base rz 6 f fd qJ (tu K 2 jZ):=yH (m:=qC) F zP λcdv B outer s H E d=>
 gW (iw<|iE (ym rfl) J uh<|gO (A6 (N:=["_law_name", "_law_order_here", "_law_desk"]) (cap:=[none,none,some 0]) rfl (rH ["_law_desk"] rfl ∅ ∅ ∅ ∅ ∅ (aJ.mpr ⟨by first|exact Or.inl rfl|exact Or.inr rfl,(nofun)⟩) ⟨rfl,by decide +kernel,trivial⟩) (FD<|gI 1) (λ_ _ _ _=>wz rfl<|kh (i9 (i:=0) (show(["_law_name", "_law_order_here", "_law_desk"]:ar).Nodup by decide +kernel) rfl (Or.inl rfl)<|.inr rfl)<|kh (i9 (i:=1) (show(["_law_name", "_law_order_here", "_law_desk"]:ar).Nodup by decide +kernel) rfl (Or.inl rfl)<|.inr rfl) s_) (λ_ _ _ _=>lJ) λ_ _ _ _ _ _=>qp (sJ d.units) (jL j L (d.mono ⋯) (gI 2) (gO (g_ i8 iC<|gI 0) gY)<|iY<|iB iV)<|GK U d<|gI 1) gY)
def j9:FnScope JL N4 (g7 GO):=rm rfl rfl rfl ∅
set_option smartUnfolding false in
theorem OJ(F:Fun K "law" "law" GO f fd)(j:ClK K "Desk" C_Desk)(J:mg "Desk" = some (.ref C_Desk))(WE:mg "range" = none)(WZ:mg "dict" = none)(XG:U4 P w K mg base 1 C_Desk jn)(W0:sR P w K mg base 1 "_law_bag" uX mQ)(XH:sR P w K mg base 2 "_law_names" p6 lP)(W5:sR P w K mg base 3 "_law_order" qA jB)(U:sR P w K mg base 1 "_law_digit" kJ h_)(L:Gw P w K mg base 5 C_Desk "say" nj g8)(WN:sR P w K mg base 1 "_law_text" pC jd)(Z:sR P w K mg base 6 "_law_too_many" mT iZ)(WX:sR P w K mg base 6 "_law_shows" qJ jZ):FnOk P w K mg base rz 7 f fd N4 (tu K 1 yl):=yH (m:=Lb) F j9 λcdv B outer s H E d=>
 gM (iH (i:=1) j9.nd<|Ng j XG (d.mono ⋯) J)
 (gM (iH (i:=2) j9.nd<|sG W0 d (gI 0) gX)
 (gM (iH (i:=3) j9.nd<|sG XH d (gI 2) gX)
 (gM (iH (i:=4) j9.nd<|Ab)
 (gM (qM cZ rfl (mW<|u9 (gI 3) nK<|nL gX) (i9 (i:=5) j9.nd)
 (gM (nW (sG W5 d (gI 2)<|g_ i8 gX<|sG U d (gI 2) gX)<|vS d.units (gI 4)<|gI 5)
 (gW (jk (iT (B4 d.units) (jL j L (d.mono ⋯) (gI 1) (gO (g_ i8 (g_ i8 (g_ i8 iC<|gI 5) iC)<|GK WN d<|B7 d.units (gI 4)<|gI 5) gY)<|iY<|iB iV) iC)
 (gW<|iw ow)
 iI))))
 (gM (jk (kc<|j3<|sG Z d (gI 1)<|g_ i8 (g_ i8 iC<|i6 (gI 3) gX) iC)
 (gW<|iw ow)
 iI)
 (gM (jk (kc<|j3<|sG Z d (gI 1)<|Jy (ps:=[.inl "back ",.inr<|gT jv (gJ 3)<|eC<|.int 0,.inl " ",.inr<|gT jv (gJ 3)<|eC<|.int 40])<|.txt<|.val (i6 (gI 3) gX)<|.txt<|.val (i6 (gI 3) gX) .nil)
 (gW<|iw ow)
 iI)
 (gM (iH (i:=2) j9.nd<|sG W0 d (gI 0) gX)
 (gM (iH (i:=6) j9.nd<|pI<|gO (gI 4) gY)
 (gM (qM cZ rfl (qY WE<|g_ i8 gX<|sG U d (gI 2) gX) (i9 (i:=7) j9.nd)
 (gM (iH (i:=5) j9.nd<|i6 (gI 3)<|sG U d (gI 2) gX)
 (gM (iH (i:=4) j9.nd<|i_ Fi WZ EA<|gO (gI 4) gY)
 (gM (iH (i:=8) j9.nd<|Jy (ps:=[.inl "lead ",.inr<|gJ 5,.inl " -"])<|.txt<|.val (gI 5)<|.txt .nil)
 (gM (jk (iT (Ci d.units) (sG U d (gI 2) gX) gX)
 (gM (nW (sG W5 d (gI 2)<|g_ i8 gX<|sG U d (gI 2) gX)<|vS d.units (gI 4)<|gI 5)
 (gW<|iH (i:=8) j9.nd<|g_ i8 (g_ i8 (g_ i8 iC<|gI 5) iC)<|GK WN d<|B7 d.units (gI 4)<|gI 5))
 iI)
 (gM (jk (iT (B4 d.units) (jL j L (d.mono ⋯) (gI 1) (gO (gI 8) gY)<|iY<|iB iV) iC)
 (gW<|iw ow)
 iI)
 (gW<|mH<|Fb dH dI tU (gI 6)<|gO (gI 4) gY)))))))
 (gM (iH (i:=4) j9.nd<|i_ Fi WZ EA<|gO (gI 4) gY)
 (gM (mH<|JU PySem.F.slot_dict_pop PySem.F.type_dict_pop Pz (gI 4)<|gO (i6 (gI 3) gX) gY)
 (gM (jk (AW.at<|tF (iT (B4 d.units) (jL j L (d.mono ⋯) (gI 1) (gO (g_ i8 iC<|i6 (gI 3) gX) gY)<|iY<|iB iV) iC)<|qt<|kc<|j3<|sG WX d (gI 1)<|gI 4)
 (gW<|iw ow)
 iI)
 (gM (qM cZ rfl (qY WE gX) (i9 (i:=7) j9.nd)
 (gM (iH (i:=4) j9.nd<|IJ PySem.F.slot_list_pop PySem.F.type_list_pop Nu<|gI 6)
 (gW (jk (AW.at<|tF (iT (B4 d.units) (jL j L (d.mono ⋯) (gI 1) (gO iC gY)<|iY<|iB iV) iC)<|qt<|AW.at<|Cd (iT (sJ d.units) (g_ vf (gI 7) gX) gX)<|zB<|kc<|j3<|sG WX d (gI 1)<|gI 4)
 (gW<|iw ow)
 iI))))
 (gM (jk (AW.at<|tF (kc<|j3<|sG WX d (gI 1)<|gI 4)<|qt<|kc<|j3<|sG Z d (gI 1) iC)
 (gW<|iw ow)
 iI)
 (gM (jk (AW.at<|tF (iT (B4 d.units) (jL j L (d.mono ⋯) (gI 1) (gO (g_ i8 iC<|i6 (gI 3) gX) gY)<|iY<|iB iV) iC)<|qt<|iT (B4 d.units) (jL j L (d.mono ⋯) (gI 1) (gO (g_ i8 (g_ i8 iC<|i6 (gI 3) gX) iC) gY)<|iY<|iB iV) iC)
 (gW<|iw ow)
 iI)
 (gW<|iw<|qQ (qp (sJ d.units) (jL j L (d.mono ⋯) (gI 1) (gO (g_ i8 iC<|i6 (gI 3) gX) gY)<|iY<|iB iV) iC)<|rR<|sG Z d (gI 1)<|g_ i8 (g_ i8 iC<|i6 (gI 3) gX) iC))))))))))))))))
end
end K87
namespace Tx
open PySem
def mz(a b:Str):(a++b).length=a.length+b.length:=by
 show(a.cps++b.cps).size=_;rw[Array.size_append];rfl
theorem pZ(j:Str):∀(l:ar),(∀x∈l,x.length<=B)->(Str.join j l).length<=l.length * (B+j.length)
 | [],_=>eZ _
 | [x],h=>by
  have:=h x<|bw ..;show x.length<=1 * _
  lia
 | x::y::l,h=>by
  have h1:=h x<|bw ..;have f:=pZ j (y::l) λz d=>h z<|bf _ d;show(x++j++Str.join j (y::l)).length<=_;rw[mz,mz,show(x::y::l).length * (B+j.length)=(y::l).length * (B+j.length)+(B+j.length)by rw[bq,succ_mul]]
  lia
def Bq(j:Str):∀(l:ar),l≠[]->(∀x∈l,0<x.length)->0<(Str.join j l).length
 | [],h,_=>absurd rfl h
 | [x],_,h=>h x (bw ..)
 | x::y::l,_,h=>by
  have h1:=h x<|bw ..;show 0<(x++j++Str.join j (y::l)).length;rw[mz,mz];lia
abbrev tx (i:Int):Str:=Str.ofString<|toString i
def HZ{i:Int}(h:0<=i):0<(tx i).length:=by
 obtain⟨m,rfl⟩:=Int.eq_ofNat_of_zero_le h;unfold tx;rw[show((m:Nat):Int)=Int.ofNat m from rfl,PyProof.Rows.text_ofNat];have:=PyProof.Rows.tDigits_len_ge 10 m;show 0<(List.toArray _).size;rw[aP,aK];lia
def Ge{i:Int}(h0:0<=i)(h:i<=1000000000):i.natAbs.log2<1920:=by
 have:i.natAbs<2 ^ 30:=()
 by_cases d:i.natAbs=0
 ·rw[d];decide
 ·rw[Nat.log2_lt d];exact bu ‹i.natAbs<2 ^ 30› (Nat.pow_le_pow_right ⋯ ⋯)
theorem CM:∀(l:ar),(∀x∈l,x.length<=B)->(l.map (·.length)).sum<=l.length * B
 | [],_=>eZ _
 | x::l,h=>by
  have h1:=h x<|bw ..;have f:=CM l λz d=>h z<|bf _ d;rw[aY,List.sum_cons,bq,succ_mul];lia
def ML{a:Str}:(a == (Str.ofString ""))=decide (a.length=0):=by
 have e0:Str.ofString "" = Str.empty:=by decide
 by_cases h:a.length=0
 ·have:a=Str.empty:=by
   obtain⟨c⟩:=a;show(⟨c⟩:Str)=⟨#[]⟩;have:c=#[]:=Array.eq_empty_of_size_eq_zero h;rw[this]
  rw[this,e0,show decide (Str.empty.length=0)=true from rfl];simp
 ·rw[bK h,b7];intro z;rw[z,e0]at h;exact h rfl
end Tx
namespace Sp
open PySem L2
open Builtin.Str (occurrences partsBetween strSub subAt)
open StrLaws (occBody partsFrom)
abbrev P (x:Str)(c i:Nat):Bool:=decide<|x.cps.toList[i]?=some c
def SE(x:Str)(c i:Nat):subAt x ⟨#[c]⟩ i=true ↔ x.cps.toList[i]?=some c:=by
 rw[StrLaws.subAt_eq];exact StrLaws.take1_drop
def Ad(c:Nat):(⟨#[c]⟩:Str).length=1:=rfl
def size_eq(x:Str):x.length=x.cps.toList.length:=by rw[cE];rfl
theorem Cp(x:Str)(c:Nat):∀(k a:Nat) (st:Array Nat×Nat),a+k=x.length+1->st.1.size<=a->st.2<=a ->
  (forIn (List.range' a k) st<|occBody x ⟨#[c]⟩ x.length<|x.length+1).run.fst.toList=st.1.toList++(List.range' a k).filter (P x c)
 | 0,a,st,_,_,_=>by
  show st.1.toList=st.1.toList++[];rw[bT]
 | k+1,a,st,h,h1,h2=>by
  rw[dN,List.forIn_cons];unfold occBody;by_cases q:x.cps.toList[a]?=some c
  ·have d:a<x.length:=by
    rw[size_eq];exact(aM.mp q).1
   have hp:P x c a=true:=bF q;rw[aT ⟨⟨⟨(),h2⟩,by rw[Ad];lia⟩,(SE x c a).mpr q⟩,cY hp];have:=Cp x c k (a+1) (st.1.push a,a+1) () (by dsimp[Array.size_push];lia)<|aO _;rw[Array.toList_push]at this;show(forIn (List.range' (a+1) k) (st.1.push a,a+(⟨#[c]⟩:Str).length)<|occBody x ⟨#[c]⟩ x.length<|x.length+1).run.fst.toList=_;rw[Ad,this,bW];rfl
  ·have hp:¬P x c a=true:=λz=>q<|d7 z;rw[aQ λz=>q<|(SE x c a).mp z.2,cN hp];exact Cp x c k (a+1) (st.1,st.2) () (show st.1.size<=a+1 by lia)<|show st.2<=a+1 by lia
def UC(x:Str)(c:Nat):occurrences x ⟨#[c]⟩ 0 x.length (x.length+1)=(List.range' 0<|x.length+1).filter (P x c):=by
 rw[StrLaws.occ_eq];exact Cp x c (x.length+1) 0 (#[],0) () (aO _)<|aO _
abbrev nF (c:Nat):am->am->List (am)
 | cur,[]=>[cur]
 | cur,d::ds=>if d=c then cur::nF c [] ds else nF c (cur++[d]) ds
abbrev mk (l:am):Str:=⟨l.toArray⟩
def Fw(x:Str):mk x.cps.toList=x:=rfl
def CI(x:Str)(i j:Nat):strSub x i j=mk ((x.cps.toList.drop i).take<|j-i):=by
 rw[<- StrLaws.strSub_toList];rfl
theorem wm(x:Str)(c:Nat):∀(k a i:Nat),i+k=x.length->a<=i->partsFrom x 1 a ((List.range' i<|k+1).filter<|P x c)=(nF c ((x.cps.toList.drop a).take<|i-a)<|x.cps.toList.drop i).map mk
 | 0,a,i,h,ha=>by
  have hp:¬P x c i=true:=λz=>by
   have:=(aM.mp<|d7 z).1;rw[<- size_eq]at this
   lia
  rw[dN,cN hp,List.drop_eq_nil_of_le<|show x.cps.toList.length<=i by rw[<- size_eq];lia];show[strSub x a x.length]=[mk _];rw[CI,show i=x.length by lia]
 | k+1,a,i,h,ha=>by
  have hi:i<x.cps.toList.length:=by rw[<- size_eq];lia
  rw[dN,List.drop_eq_getElem_cons hi];by_cases q:x.cps.toList[i]=c
  ·have hp:P x c i=true:=bF (by rw[aN hi,q]);rw[cY hp];show strSub x a i::partsFrom x 1 (i+1) ((List.range' (i+1)<|k+1).filter<|P x c)=(if x.cps.toList[i]=c then _ else _:List<|am).map mk;rw[aT q,wm x c k (i+1) (i+1) ()<|aO _,aY,CI,gC,List.take_zero]
  ·have hp:¬P x c i=true:=λz=>by
    have z:=d7 z;rw[aN hi]at z;exact q<|aR z
   rw[cN hp,wm x c k a (i+1) () ()];show _=(if x.cps.toList[i]=c then _ else nF c _ _:List<|am).map mk;rw[aQ q];congr 2;rw[show i+1-a=(i-a)+1 by lia,List.take_add_one,List.getElem?_drop,show a+(i-a)=i by lia,aN hi];rfl
def RY(x:Str){c:Nat}(h:c<256):¬Builtin.Str.strKind x<Builtin.Str.strKind ⟨#[c]⟩:=by
 have:Builtin.Str.strKind ⟨#[c]⟩=1:=by
  unfold Builtin.Str.strKind;rw[aT<|by simp;exact h]
 rw[this];unfold Builtin.Str.strKind;split
 ·lia
 ·split<;>lia
def Ko(x:Str){c:Nat}(hc:c<256)(h:1<=x.length):Txt.split x ⟨#[c]⟩=(nF c [] x.cps.toList).map mk:=by
 have e0:=wm x c x.length 0 0 ()<|aO _;rw[fE,gC,List.take_zero]at e0;unfold Txt.split;rw[aQ<|by rw[Bool.or_eq_true,gu,gu];exact λz=>z.elim (λz=>by rw[Ad]at z;lia)<|RY x hc,UC,<- e0,StrLaws.partsBetween_eq,Ad];split
 ·rename_i z;rw[List.isEmpty_iff]at z;rw[z];show[x]=[strSub x 0 x.length];rw[CI,fE,cQ<|by rw[<- size_eq];lia,Fw]
 ·rfl
theorem rJ(c:Nat):∀(a cur r:am),c∉a->nF c cur (a++r)=nF c (cur++a) r
 | [],cur,r,_=>by rw[bT];rfl
 | d::a,cur,r,h=>by
  show(if d=c then _ else nF c (cur++[d]) (a++r))=_;rw[aQ λz=>h<|by rw[z];exact bw ..,rJ c a _ r λz=>h<|bf _ z,bW];rfl
def uN(a b:Str):(a++b).cps.toList=a.cps.toList++b.cps.toList:=Array.toList_append
theorem lD(c:Nat):∀(a:Str) (rest:ar),(Str.join ⟨#[c]⟩ (a::rest)).cps.toList=a.cps.toList++rest.flatMap λt=>c::t.cps.toList
 | a,[]=>(bT _).symm
 | a,b::rest=>by
  show(a++⟨#[c]⟩++Str.join ⟨#[c]⟩ (b::rest)).cps.toList=_;rw[uN,uN,lD c b rest,bW];rfl
theorem vc(c:Nat):∀(a:Str) (rest:ar),c∉a.cps.toList->(∀t∈rest,c∉t.cps.toList)->nF c [] (a.cps.toList++rest.flatMap λt=>c::t.cps.toList)=(a::rest).map λt=>t.cps.toList
 | a,[],h,_=>by
  rw[rJ c _ _ _ h];rfl
 | a,b::rest,h,h'=>by
  rw[rJ c _ _ _ h];show nF c ([]++a.cps.toList) (c::(b.cps.toList++rest.flatMap λt=>c::t.cps.toList))=_;show(if c=c then([]++a.cps.toList)::nF c [] _ else _)=_;rw[aT rfl,vc c b rest (h' b<|bw ..) λt d=>h' t<|bf _ d];rfl
def wo{l:ar}{c:Nat}(hc:c<256)(j:l≠[])(h:∀t∈l,c∉t.cps.toList)(J:1<=(Str.join ⟨#[c]⟩ l).length):Txt.split (Str.join ⟨#[c]⟩ l) ⟨#[c]⟩=l:=by
 rw[Ko _ hc J]
 cases l with
 | nil=>exact absurd rfl j
 | cons a rest=>
  rw[lD,vc c a rest (h a<|bw ..) λt d=>h t<|bf _ d,cV];exact List.map_id _
def small:∀i:Nat,i<21->((Tx.tx (i:Int)).cps.toList.all λc=>decide (48<=c) && decide (c<=57))=true/\1<=(Tx.tx (i:Int)).length/\(Tx.tx (i:Int)).length<=2/\(0<i->subAt (Tx.tx (i:Int)) "0" 0=false):=by decide +kernel
def Ue:∀c:Nat,c<58->48<=c->(occurrences (Str.ofString "0123456789") ⟨#[c]⟩ 0 (Str.ofString "0123456789").length 1).isEmpty=false:=by decide +kernel
end Sp
namespace Sy
open Tb
abbrev hd (T:List<|ag)(y:Int):ag:=match T with
 | []=>[y]
 | u::_=>if fg u y=u.length then u++[y]else u.set (fg u y) y
abbrev plain (T:List<|ag):ag:=T.reverse.flatten
end Sy
namespace K87
open PySem L2 Am
abbrev rj (S:gS)(b:Nat):Prop:=∃g st:Int,gQ S b=some [.int g,.int st]/\0<=g/\0<=st/\st<4294967296
def rj.kp{c:Nat->Prop}(h:rj S b)(k:Kp c S S')(hb:¬c b):rj S' b:=by
 obtain⟨g,st,e,q⟩:=h;exact⟨g,st,k.lst b _ hb e,q⟩
def Dy{S:gS}{ns:ag}{k:Int}(h0:0<=k)(h1:k<=100):∃S',mQ [.frz<|ns.map .int,.int k] S=.ok (.ref S.length) S'/\rj S' S.length/\jH S S':=by
 have e3:Mq (.int 10) (.int 18)=λS=>R.ok (.int 1000000000000000000) S:=by
  funext S;exact jP ⟨by decide,by decide,by decide⟩
 have g:∀d:Int,0<=d->∃S',((RS.seq (.nx [A.frz<|ns.map .int,.int k,.int d,.unb] S) (ir (iO (gT iK (eC<|.int 1)<|gT rg (gT iK (gT iK (gT iK (gT rg (gJ 2)<|eC<|.int 2147483647)<|gT pO (gT pO (eC<|.int 7919)<|gJ 1)<|gJ 1)<|gT pO (eC<|.int 17)<|gJ 1)<|eC<|.int 3)<|eC<|.int 2147483646)<|jc 3)
   (iN<|oQ<|gK (gT pO (gJ 2)<|iA (f1 wQ)<|gK (gT Mt (gJ 2)<|gT Mq (eC<|.int 10)<|eC<|.int 18)<|gR)<|gK (gJ 3)<|gR))).end=.ok (.ref S.length) S')/\rj S' S.length/\jH S S':=by
  intro d hc;have L:rg (.int d) (.int 2147483647)=λS=>R.ok (.int<|d % 2147483647) S:=by funext S;exact vg ⋯
  have B:∀x:Int,rg (.int x) (.int 2147483646)=λS=>R.ok (.int<|x % 2147483646) S:=λx=>by funext S;exact vg ⋯
  have F:∀x:Int,pO (.int 7919) (.int x)=λS=>R.ok (.int<|7919 * x) S:=λx=>by funext S;exact El ⋯ ⋯
  have p:pO (.int<|7919 * k) (.int k)=λS=>R.ok (.int<|7919 * k * k) S:=by funext S;exact mul_r (by omega) (by omega)
  have G:∀x:Int,pO (.int 17) (.int x)=λS=>R.ok (.int<|17 * x) S:=λx=>by funext S;exact El ⋯ ⋯
  have K:∀b:Bool,pO (.int d) (.int<|if b=true then 1 else 0)=λS=>R.ok (.int<|d * (if b=true then 1 else 0)) S:=λb=>by
   funext S
   refine mul_r ?_ ?_<;>cases b<;>decide
  have j:0<=1+(d % 2147483647+7919 * k * k+17 * k+3) % 2147483646:=by
   have:=fV (d % 2147483647+7919 * k * k+17 * k+3) (show(2147483646:Int)≠0 by decide);omega
  have C:1+(d % 2147483647+7919 * k * k+17 * k+3) % 2147483646<4294967296:=by
   have:=eY (d % 2147483647+7919 * k * k+17 * k+3) (show(0:Int)<2147483646 by decide);omega
  refine⟨S++[.lst [.int<|d * (if decide (1000000000000000000<=d)=true then 1 else 0),.int<|1+(d % 2147483647+7919 * k * k+17 * k+3) % 2147483646]],?_,⟨_,_,iu,?_,j,C⟩,Kp.refl.lay⟩
  ·dsimp[iG,bools,L,B,F,p,G,e3,K]
  ·refine Int.mul_nonneg hc ?_;split<;>decide
 have m:∀x:Int,0<=(if x<0 then -x else x):=by intro x;split<;>omega
 unfold mQ uS t7;dsimp[iG,bools,jD,Nat.reduceAdd,Nat.reduceSub,aK];by_cases f:k<(ns.length:Int)
 ·have hn:k.toNat<ns.length:=by omega
  have J:oA (ns.map A.int) k=some (.int ns[k.toNat]):=tY (k:=k.toNat) (by omega)<|aN hn;rw[bF f];dsimp[iG,bools,J];exact g _<|m _
 ·rw[bK f];dsimp[iG,bools];exact g 0<|Int.le_refl 0
def digit{m:Int}(h:rj S b)(h1:1<=m)(U:m<1073741824):∃d S',h_ [.ref b,.int m] S=.ok (.int d) S'/\0<=d/\d<m/\rj S' b/\Kp (·=b) S S':=by
 obtain⟨g,st,p,hg,hs,B⟩:=h;have F:=iP p;have C:zj 2 0=some 0:=oJ rfl ⋯;have L:zj 2 1=some 1:=oJ rfl ⋯;have j:∀d g' f:Int,0<=d->d<m->0<=g'->0<=f->f<4294967296->h_ [.ref b,.int m] S=.ok (.int d) (S.set b<|.lst [.int g',.int f])->∃d S',h_ [.ref b,.int m] S=.ok (.int d) S'/\0<=d/\d<m/\rj S' b/\Kp (·=b) S S':=
  λd g' f O K G J N e=>⟨d,_,e,O,K,⟨g',f,j4 F,G,J,N⟩,Kp.refl.set<|.inl rfl⟩
 by_cases k:0<g
 ·refine j (g % m) (g / m) st (fV _<|by omega) (eY _<|by omega) (Int.ediv_nonneg hg<|by omega) hs B ?_;unfold h_ nO nM;rw[vL];simp[p,JN,KU,k,vg<|show 0<m by omega,zQ (show 0<m by omega) U,C]
 ·have:g=0:=by omega
  subst this;have e1:0<=st * 48271 % 2147483647:=fV _ ⋯;have e2:st * 48271 % 2147483647<2147483647:=eY _ ⋯;refine j ((st * 48271 % 2147483647) * ((st * 48271 % 2147483647) / 65536+9) % 2147483629 / 32 % m) 0 (st * 48271 % 2147483647) (fV _<|by omega) (eY _<|by omega) ⋯ e1 (by omega) ?_;unfold h_ nO nM;rw[vL];simp[p,JN,KU,vg<|show 0<m by omega,C,L,El (show -18446744073709551616<st by omega)<|by omega,vg<|show(0:Int)<2147483647 by decide,j4 F,zQ (show(0:Int)<65536 by decide) ⋯,El (show -18446744073709551616<st * 48271 % 2147483647 by omega)<|by omega,vg<|show(0:Int)<2147483629 by decide,zQ (show(0:Int)<32 by decide) ⋯]
theorem v8:∀(l:ag) (j:Nat) (h:j<l.length),(l[j]::l.eraseIdx j).Perm l
 | x::l,0,_=>fD _
 | x::l,j+1,h=>(List.Perm.swap x _ _).trans<|List.Perm.cons x<|v8 l j<|Nat.lt_of_succ_lt_succ h
def F4{J fs:ag}{j:Nat}(h:j<J.length):((fs++[J[j]])++J.eraseIdx j).Perm (fs++J):=by
 rw[bW];refine List.Perm.append_left fs ?_
 skip
 exact v8 J j h
def ON{n:Int}(h:rj S b)(h1:1<=n)(h2:n<=20):∃(xs:ag) (S':gS),oH [.ref b,.int n] S=.ok (.tup<|xs.map .int) S'/\xs.Perm (jj 1<|n+1)/\rj S' b/\Kp (·=b) S S':=by
 have hbS:b<S.length:=by obtain⟨_,_,e,_⟩:=h;exact iP e
 unfold oH uK uT;dsimp[iG,bools,jD,Nat.reduceAdd,Nat.reduceSub,uA<|xC (show(-1000000:Int)<=1 by decide) ⋯ (show -1000000<=n+1 by omega) (by omega) (by omega),aZ];have V:=wN (t:=qz) (c:=p8)
  (λτ S1=>∃(L:Nat) (x4:A) (f fs:ag),τ=[.ref b,.int n,.ref L,.ref<|S.length+1,x4]/\gQ S1 L=some (f.map .int)/\gQ S1 (S.length+1)=some (fs.map .int)/\L≠S.length+1/\S.length<=L/\(fs++f).Perm (jj 1<|n+1)/\rj S1 b/\Kp (·=b) S S1)
  (λτ S1=>match τ with
   | [_,_,.ref L,_,_]=>((gQ S1 L).getD []).length
   | _=>0)
  (λr=>∃(xs:ag) (S':gS),RS.end (RS.seq r<|iN<|iA (f1 n9)<|gK (gJ 3) gR)=.ok (.tup<|xs.map .int) S'/\xs.Perm (jj 1<|n+1)/\rj S' b/\Kp (·=b) S S') ?_ 1000000
 ·refine V _ _ ⟨S.length,.unb,jj 1<|n+1,[],rfl,?_,?_,by omega,aO _,fD _,h.kp (c:=λ_=>False) (Kp.refl.lay.lay) λz=>z,Kp.refl.lay.lay⟩ ?_
  ·exact kR iu
  ·have:gQ (S++[.lst<|(jj 1<|n+1).map .int]++[.lst []]) (S++[O.lst<|(jj 1<|n+1).map .int]).length=some []:=iu;simpa using this
  ·show((gQ _ S.length).getD []).length<_;rw[kR iu,cS,aK,lW];omega
 ·rintro τ S1 ⟨L,x4,f,fs,rfl,Z,hF,P,hLS,hp,hb,hk⟩;have hlen:f.length<=20:=by
   have:=hp.length_eq;rw[aZ,lW]at this;omega
  unfold qz p8;dsimp[iG,bools,Z,aK];by_cases h0:f=[]
  ·subst h0;left;refine⟨S1,rfl,fs,S1,?_,by simpa using hp,hb,hk⟩;dsimp[iG,bools,hF]
  ·right;have hpos:0<f.length:=List.length_pos_iff.mpr h0;refine⟨S1,by rw[bF<|by omega],.inl ?_⟩;obtain⟨d,p,e2,d0,d1,T,C⟩:=digit (m:=(f.length:Int)) hb (by omega) (by omega);have U:¬L=b:=by omega
   have B:=C.lst L _ U Z;have J:=C.lst (S.length+1) _ (by omega) hF;have hd:d.toNat<f.length:=by omega
   have ha:oA (f.map A.int) d=some (.int f[d.toNat]):=tY (k:=d.toNat) (by omega)<|aN hd;have lF:=iP J;have lL:=iP B;have hfl:fs.length<=20:=by
    have:=hp.length_eq;rw[aZ,lW]at this;omega
   have G:gQ (p.set (S.length+1)<|.lst<|fs.map .int++[.int f[d.toNat]]) L=some (f.map .int):=by rw[mV<|bP P];exact B
   have Y:nH (f.map A.int) none (some d)=(f.take d.toNat).map .int:=by
    have:=Gv (f.map A.int) d.toNat (by rw[aK];exact hd);rw[show((d.toNat:Nat):Int)=d by omega]at this;rw[this,map_take]
   have K:nH (f.map A.int) (some<|d+1) none=(f.drop<|d.toNat+1).map .int:=by
    have:=qS (f.map A.int) d.toNat (by rw[aK];exact hd);rw[show((d.toNat:Nat):Int)=d by omega]at this;rw[this,map_drop]
   dsimp[iG,bools,Z,aK,e2,J,B,ha,Rt<|show(fs.length)<16777216 by omega,G,Y,K];have g1:gQ (p.set (S.length+1) (.lst<|fs.map .int++[.int f[d.toNat]])++[.lst<|(f.take d.toNat).map .int]) L=some (f.map .int):=kR G;dsimp[iG,bools,g1,K];have F:=Rr (S:=p.set (S.length+1) (.lst<|fs.map .int++[.int f[d.toNat]])++[.lst<|(f.take d.toNat).map .int]++[.lst<|(f.drop<|d.toNat+1).map .int]) (kR iu) iu (by rw[aK,aK,cM,cR];omega);rw[F];dsimp[iG,bools];have N:(f.take d.toNat).map A.int++(f.drop<|d.toNat+1).map A.int=(f.eraseIdx d.toNat).map .int:=by rw[<- bV,<- List.eraseIdx_eq_take_drop_succ]
   rw[N];have j:(p.set (S.length+1) (.lst<|fs.map .int++[.int f[d.toNat]])++[O.lst<|(f.take d.toNat).map .int]++[O.lst<|(f.drop<|d.toNat+1).map .int]).length=p.length+2:=by simp
   have k3:Kp (·=b) S (p.set (S.length+1)<|.lst<|fs.map .int++[.int f[d.toNat]]):=(hk.trans C).set (.inr<|by omega);have b3:rj (p.set (S.length+1)<|.lst<|fs.map .int++[.int f[d.toNat]]) b:=by
    obtain⟨g,st,e,q⟩:=T;exact⟨g,st,by rw[mV<|by omega];exact e,q⟩
   refine⟨_,_,rfl,⟨_,_,f.eraseIdx d.toNat,fs++[f[d.toNat]],rfl,iu,?_,?_,?_,?_,b3.kp (c:=λ_=>False) Kp.refl.lay.lay.lay λz=>z,k3.lay.lay.lay⟩,?_⟩
   ·rw[bV];exact kR (kR<|kR<|j4<|by omega)
   ·rw[j];omega
   ·rw[j];omega
   ·exact(F4 hd).trans hp
   ·dsimp[iu,cS,aK,List.length_eraseIdx_of_lt hd];omega
def KD{xs:ag}{i j:Nat}{x y:Int}(hi:xs[i]?=some x)(J:xs[j]?=some y):((xs.set i y).set j x).Perm xs:=by
 obtain⟨f,g⟩:=aM.mp hi;obtain⟨k,d⟩:=aM.mp J;subst g d;exact List.set_set_perm f k
def Jv{n:Int}(h:rj S b)(h1:1<=n)(h2:n<=20):∃(xs:ag) (S':gS),jB [.ref b,.int n] S=.ok (.tup<|xs.map .int) S'/\xs.Perm (jj 1<|n+1)/\rj S' b/\Kp (·=b) S S':=by
 unfold jB p7 p9;obtain⟨d,S1,e1,d0,d1,hb1,f⟩:=digit (m:=4) h ⋯ ⋯;dsimp[iG,bools,jD,Nat.reduceAdd,Nat.reduceSub,e1];by_cases hw:1<d
 ·obtain⟨xs,B,e2,hp,F,P⟩:=ON hb1 h1 h2;rw[bF hw];dsimp[iG,bools,e2];exact⟨xs,B,rfl,hp,F,f.trans P⟩
 ·rw[bK hw];have hbS:b<S.length:=by obtain⟨_,_,e,_⟩:=h;exact iP e
  have hl1:=f.len;dsimp[iG,bools,uA<|xC (show(-1000000:Int)<=1 by decide) ⋯ (show -1000000<=n+1 by omega) (by omega) (by omega)];have go:∀(L:Nat) (fs:ag) (B:gS),gQ B L=some (fs.map .int)->fs.Perm (jj 1<|n+1)->rj B b->Kp (·=b) S B->S.length<=L ->
    ∃(xs:ag) (S':gS),RS.end (RS.seq (oY rD (jc 4) n_ [.ref b,.int n,.int d,.ref L,.unb,.unb,.unb] B)<|iN<|iA (f1 n9)<|gK (gJ 3)<|gR)=.ok (.tup<|xs.map .int) S'/\xs.Perm (jj 1<|n+1)/\rj S' b/\Kp (·=b) S S':=by
   intro L fs B hL hp F P Z;obtain⟨m,S3,e3,m0,m1,hb3,V⟩:=digit (m:=7) F ⋯ ⋯;refine tW (lo:=0) (hi:=m) (S1:=S3) ?_ (λ_ τ T=>∃(x4 x5 x6:A) (fs:ag),τ=[.ref b,.int n,.int d,.ref L,x4,x5,x6]/\gQ T L=some (fs.map .int)/\fs.Perm (jj 1<|n+1)/\rj T b/\Kp (·=b) S T) (λr=>∃(xs:ag) (S':gS),RS.end (RS.seq r _)=.ok (.tup<|xs.map .int) S'/\xs.Perm (jj 1<|n+1)/\rj S' b/\Kp (·=b) S S') ⟨_,_,_,fs,rfl,V.lst L _ (by omega) hL,hp,hb3,P.trans V⟩ ?_ ?_
   ·refine tR ?_ (yM (by omega)<|by omega);dsimp[iG,bools,e3]
   ·rintro i τ T hi ⟨x4,x5,x6,fs,rfl,J,j,G,N⟩;left;obtain⟨p,S5,e5,p0,p1,hb5,Y⟩:=digit (m:=n) G h1 (by omega);obtain⟨q,S6,e6,q0,q1,hb6,U⟩:=digit (m:=n) hb5 h1 (by omega);have hL6:=U.lst L _ (by omega) (Y.lst L _ (by omega) J);have hlen:(fs.length:Int)=n:=by rw[j.length_eq,lW];omega
    have K:p.toNat<fs.length:=by omega
    have C:q.toNat<fs.length:=by omega
    have ap:oA (fs.map A.int) p=some (.int fs[p.toNat]):=tY (k:=p.toNat) (by omega)<|aN K;have aq:oA (fs.map A.int) q=some (.int fs[q.toNat]):=tY (k:=q.toNat) (by omega)<|aN C;have ip:zj fs.length p=some p.toNat:=oJ (by omega) K;have iq:zj fs.length q=some q.toNat:=oJ (by omega) C;have lL6:=iP hL6;unfold n_;dsimp[iG,bools,e5,e6,hL6,ap,aq,PK<|show([_,_]:ae).length<=16777216 by simp,jP<|show([_,_]:ae).length=2 from rfl,aK,ip,iq,j4 lL6,bL];refine⟨_,_,rfl,_,_,_,(fs.set p.toNat fs[q.toNat]).set q.toNat fs[p.toNat],rfl,?_,?_,?_,?_⟩
    ·rw[j4<|by rw[bL];exact lL6,fZ,fZ]
    ·exact(KD (aN K)<|aN C).trans j
    ·obtain⟨g,st,e,z⟩:=hb6;exact⟨g,st,by rw[mV<|by omega,mV<|by omega];exact e,z⟩
    ·exact((((N.trans Y).trans U).set<|.inr Z).set<|.inr Z)
   ·rintro τ T ⟨x4,x5,x6,fs,rfl,J,j,G,N⟩;refine⟨fs,T,?_,j,G,N⟩;dsimp[iG,bools,J]
  have b2:rj (S1++[O.lst<|(jj 1<|n+1).map .int]) b:=hb1.kp (c:=λ_=>False) Kp.refl.lay λz=>z;by_cases h1':d=1
  ·subst h1';dsimp[iG,bools,cB];exact go _ (jj 1<|n+1).reverse _ (by rw[List.map_reverse];exact iu) (List.reverse_perm _) (b2.kp (c:=λ_=>False) Kp.refl.lay λz=>z) f.lay.lay (by simp;omega)
  ·rw[show(d == 1)=false by simpa using h1'];dsimp[iG,bools];exact go _ (jj 1<|n+1) _ iu (fD _) b2 f.lay hl1
theorem yK:∀(ts:ar),A.strs (ts.map .str)=some ts
 | []=>rfl
 | t::ts=>by show(A.strs<|ts.map .str).map (t::·)=_;rw[yK ts];rfl
def zR{z:Str}{n:Nat}{ts:ar}(h:gQ S n=some (ts.map .str))(j:(ts.map (·.length)).sum+ts.length * z.length<=16777216):nP (.str z) [.ref n] S=.ok (.str<|Str.join z ts) S:=by
 show opt (gQ S n) _=_;rw[h,ie,yK,ie,jP j];show R.ok (A.str<|Builtin.Str.glued z ts) S=_;rw[StrLaws.glued_eq_join]
def uW{f:A->ae->gS->Am.R A}{co:Ex}{d:mK}:BR f co d τ S=(co τ S).bind λo S1=>gd (o.isStr=true) ((d τ S1).bind λas S2=>f o as S2):=rfl
def L_{x:Str}:A.isStr (.str x)=true:=rfl
abbrev vA (xs:ag):Prop:=∀x∈xs,1<=x/\x<=20
def ye{x:Int}(h:1<=x/\x<=20):((Tx.tx x).cps.toList.all λc=>decide (48<=c) && decide (c<=57))=true/\1<=(Tx.tx x).length/\(Tx.tx x).length<=2/\Builtin.Str.subAt (Tx.tx x) "0" 0=false:=by
 obtain⟨a,b,c,d⟩:=Sp.small x.toNat (by omega);rw[show((x.toNat:Nat):Int)=x by omega]at a b c d;exact⟨a,b,c,d<|by omega⟩
def no_space{x:Int}(h:1<=x/\x<=20):32∉(Tx.tx x).cps.toList:=λz=>by
 have:=cg.mp (ye h).1 32 z;simp at this
abbrev jW (xs:ag):Str:=Str.join ⟨#[32]⟩<|xs.map Tx.tx
def Jz{xs:ag}(h:vA xs):∀t∈xs.map Tx.tx,t.length<=2:=λt d=>by
 obtain⟨x,f,rfl⟩:=bJ.mp d;exact(ye<|h x f).2.2.1
def HA{xs:ag}(h:vA xs)(j:xs.length<=200):((xs.map Tx.tx).map (·.length)).sum+(xs.map Tx.tx).length * (⟨#[32]⟩:Str).length<=16777216:=by
 have:=Tx.CM (B:=2) (xs.map Tx.tx)<|Jz h;rw[aK]at this;rw[aK,Sp.Ad];omega
def Nz{xs:ag}(h:vA xs)(j:xs.length<=200):(jW xs).length<=600:=by
 have:=Tx.pZ ⟨#[32]⟩ (B:=2) (xs.map Tx.tx)<|Jz h;rw[aK,Sp.Ad]at this;exact bN this<|by omega
def HZ(h:vA xs)(j:xs≠[]):1<=(jW xs).length:=
 Tx.Bq ⟨#[32]⟩ (xs.map Tx.tx) (by simpa using j) λt d=>by
  obtain⟨x,f,rfl⟩:=bJ.mp d;exact(ye<|h x f).2.1
def JS{x:Int}(h:1<=x/\x<=20):yE (.int x) S=.ok (.str<|Tx.tx x) S:=jP<|Tx.Ge (by omega)<|by omega
def O1(xs:ag):(xs.map A.int).map (λx=>match x with | .int i=>A.str (Tx.tx i)|_=>.unb)=(xs.map Tx.tx).map .str:=by
 rw[cV,cV];rfl
def K7{S:gS}{v:A}{xs:ag}(h:vA xs)(L:xs.length<=200)(hv:v.jJ=false)(J:A.Oc v S=some (!(xs.map A.int).isEmpty))(hc:kF [none] (lq<|gJ 0) (jc 0) lg (iA (f1 yE)<|gK (gJ 0)<|gR) [v] S=.ok (.ref S.length) (S++[.lst<|(xs.map Tx.tx).map .str])) :
  ∃S',jw [v] S=.ok (.str<|if xs=[]then Str.ofString "-" else jW xs) S'/\jH S S':=by
 unfold jw nu ng;by_cases c:xs=[]
 ·subst c;dsimp[iG,bools,jD,Nat.reduceAdd,Nat.reduceSub,u5 hv,J,gA,List.isEmpty_nil,cj,dD];exact⟨_,rfl,Kp.refl⟩
 ·have e:(!(xs.map A.int).isEmpty)=true:=by cases xs with|nil=>exact absurd rfl c|cons _ _=>rfl
  rw[e]at J;have j:nP (.str<|PySem.Str.ofString " ") [.ref S.length] (S++[.lst<|(xs.map Tx.tx).map .str])=.ok (.str<|jW xs) (S++[.lst<|(xs.map Tx.tx).map .str]):=zR (z:=⟨#[32]⟩) iu<|HA h L;dsimp[iG,bools,jD,Nat.reduceAdd,Nat.reduceSub,u5 hv,J,uW,L_,hc,j,k_<|show A.isStr (.str<|PySem.Str.ofString " ")=true from rfl];rw[aQ c];exact⟨_,rfl,Kp.refl.lay⟩
def QU{xs:ag}(h:vA xs)(j:xs.length<=200):∃S',jw [.tup<|xs.map .int] S=.ok (.str<|if xs=[]then Str.ofString "-" else jW xs) S'/\jH S S':=by
 refine K7 h j rfl rfl ?_;rw[qo (cap:=[]) (S1:=S) (xs:=xs.map .int) (CF<|by dsimp[iG,bools]) (λx=>match x with | .int i=>.str (Tx.tx i)|_=>.unb) (λx d=>by
  obtain⟨i,hi,rfl⟩:=bJ.mp d;dsimp[iG,bools,JS<|h i hi])<|by rw[aK];omega,O1]
def yN{n:Nat}{bs:List Bool}(h:gQ S n=some xs)(hb:A.BN xs=some bs):tZ (.ref n) S=.ok (.bl<|bs.all λb=>b) S:=by
 show opt (gQ S n) _=_;rw[h];show opt (A.BN xs) _=_;rw[hb];rfl
theorem Ew:∀(xs:ae),A.BN (xs.map λ_=>.bl true)=some (xs.map λ_=>true)
 | []=>rfl
 | x::xs=>by rw[aY,uz,Ew xs];rfl
theorem DK:∀(xs:ae),((xs.map λ_=>true).all λb=>b)=true
 | []=>rfl
 | _::xs=>DK xs
def HJ{c:Ex}{x:Str}(h:c τ S=.ok (.str x) S1)(j:x.cps.all (· < 128)=true):lq c τ S=.ok (j_<|x.cps.toList.map λc=>.str ⟨#[c]⟩) S1:=by
 unfold lq;rw[h];exact k_ j
def P7{f g:A->A->gS->R A}{ca J j:Ex}{a c:A}(h1:ca τ S=.ok a S)(L:J τ S=.ok b S)(U:f a b S=.ok (.bl true) S)(Z:j τ S=.ok c S):JB f g ca J j τ S=g b c S:=by
 unfold JB;rw[h1,R.jl,L,R.jl,U,R.jl];unfold VA;show(j τ S).bind _=_;rw[Z];rfl
def Qi{x:Int}(h:1<=x/\x<=20):∃S',jQ [.str<|Tx.tx x] S=.ok (.int x) S'/\jH S S':=by
 obtain⟨h1,C,F,B⟩:=ye h;have d:(Tx.tx x).cps.all (· < 128)=true:=by
  rw[<- all_toList,cg];intro c hc;have:=cg.mp h1 c hc;simp at this;exact bF<|by omega
 have p:lu (.str<|Tx.tx x) S=.ok (.int (Tx.tx x).length) S:=jP (by rw[bD];omega);have m:JB GH GH (eC<|.int 1) (iA (f1 lu)<|gK (gJ 0)<|gR) (eC<|.int 30) [.str<|Tx.tx x] S=.ok (.bl true) S:=by
  rw[P7 (a:=.int 1) (b:=.int (Tx.tx x).length) (c:=.int 30) rfl (by dsimp[iG,bools,p]) (by dsimp[iG,bF<|show(1:Int)<=((Tx.tx x).length:Int)by omega]) rfl];dsimp[iG,bF<|show((Tx.tx x).length:Int)<=30 by omega]
 have g:=qo (cap:=[]) (src:=lq<|gJ 0) (e:=gT Cf (gJ 0)<|eC<|.str<|PySem.Str.ofString "0123456789") (τ:=[.str<|Tx.tx x]) (S:=S) (S1:=S) (xs:=(Tx.tx x).cps.toList.map λc=>A.str ⟨#[c]⟩) (HJ (by dsimp[iG,bools]) d) (λ_=>.bl true) (λy hy=>by
  obtain⟨c,hc,rfl⟩:=bJ.mp hy;have:=cg.mp h1 c hc;simp at this;have e:Cf (.str ⟨#[c]⟩) (.str<|PySem.Str.ofString "0123456789") S=.ok (.bl true) S:=by
   show R.ok (A.bl<|!(Builtin.Str.occurrences (Str.ofString "0123456789") ⟨#[c]⟩ 0 (Str.ofString "0123456789").length 1).isEmpty) S=_;rw[Sp.Ue c (by omega)<|by omega];rfl
  dsimp[iG,bools,e])<|by rw[aK,cE];show(Tx.tx x).length<=_;omega
 have f:tZ (.ref S.length) (S++[O.lst<|((Tx.tx x).cps.toList.map λc=>A.str ⟨#[c]⟩).map λ_=>A.bl true])=.ok (.bl true) (S++[O.lst<|((Tx.tx x).cps.toList.map λc=>A.str ⟨#[c]⟩).map λ_=>A.bl true]):=by
  rw[yN iu<|Ew _,DK]
 obtain⟨T,j⟩:∃T,T=S++[O.lst<|((Tx.tx x).cps.toList.map λc=>A.str ⟨#[c]⟩).map λ_=>A.bl true]:=⟨_,rfl⟩;have k:jH S T:=by rw[j];exact Kp.refl.lay
 rw[<- j]at g f;have st:yT (.str<|Tx.tx x) [.str<|PySem.Str.ofString "0"] T=.ok (.bl false) T:=by
  show R.ok (A.bl<|decide (0+_<=_) && Builtin.Str.subAt (Tx.tx x) (PySem.Str.ofString "0") 0) T=_;rw[show Builtin.Str.subAt (Tx.tx x) (PySem.Str.ofString "0") 0=false from B,gH]
 have it:wQ (.str<|Tx.tx x) T=.ok (.int x) T:=by
  show opt (PySem.intText?<|Tx.tx x) _=_;rw[show PySem.intText? (Tx.tx x)=some x from fK (by omega)<|by omega,ie];exact k_<|by omega
 unfold jQ n5 nS;dsimp[iG,bools,jD,Nat.reduceAdd,Nat.reduceSub,m,cj,g,f,uW,k_<|show A.isStr (.str<|Tx.tx x)=true from rfl,st,it];exact⟨_,rfl,k⟩
def Tf{i:Int}:jV [.int i] S=.ok (.bl true) S:=by
 unfold jV sD sA;dsimp[iG,bools,jD,Nat.reduceAdd,Nat.reduceSub,show A_ .int "int" = some true from rfl,show A_ .int "bool" = some false from rfl,fF]
def Lv{S:gS}{ys:ag}(h:ys.length<64):Cu (.tup<|ys.map .int) S=.ok (.ref S.length) (S++[.lst<|(sortI ys).map .int]):=by
 show opt (A.seq S<|.tup<|ys.map .int) _=_;show opt (A.ints<|ys.map .int) _=_;rw[ints_map,ie];exact k_ h
def V0{S:gS}{xs:ag}{F:ae->gS->R A}(j:∀(S:gS) (i:Int),F [.int i] S=.ok (.bl true) S){src:Ic}(hs:src τ S=.ok (j_<|xs.map .int) S)(J:xs.length<=200) :
  kF [none] src (jc 0) lg (eFn F<|gK (gJ 0)<|gR) τ S=.ok (.ref S.length) (S++[O.lst<|(xs.map A.int).map λ_=>A.bl true]):=
 qo (cap:=[]) hs (λ_=>.bl true) (λy hy=>by
  obtain⟨c,hc,rfl⟩:=bJ.mp hy;dsimp[iG,bools,j]) (by rw[aK];omega)
def yU{S:gS}{L:ae}:tZ (.ref S.length) (S++[O.lst<|L.map λ_=>A.bl true])=.ok (.bl true) (S++[O.lst<|L.map λ_=>A.bl true]):=by
 rw[yN iu<|Ew _,DK]
def Tn{xs:ag}{n:Nat}(J:xs.Perm<|jj 1<|(n:Int)+1)(h1:1<=n)(L:n<=20):∃S',nB [.tup<|xs.map .int] S=.ok (.bl true) S'/\jH S S':=by
 have m:xs.length=n:=by rw[J.length_eq,lW];omega
 have w:=V0 (S:=S) (xs:=xs) (F:=jV) (λS i=>Tf) (τ:=[.tup<|xs.map .int]) (src:=lq<|gJ 0) (CF<|by dsimp[iG,bools]) (by omega);obtain⟨T,d⟩:∃T,T=S++[O.lst<|(xs.map A.int).map λ_=>A.bl true]:=⟨_,rfl⟩;have k:tZ (.ref S.length) T=.ok (.bl true) T:=by rw[d];exact yU
 rw[<- d]at w;have j:jH S T:=by rw[d];exact Kp.refl.lay
 have es:sortI xs=jj 1 ((n:Int)+1):=List.Perm.eq_of_pairwise (λx y _ _ h1 L=>Int.le_antisymm h1 L) (wj xs) (L4 _ _)<|(sortI_perm xs).trans J;have f:=Lv (S:=T) (ys:=xs) (by omega);rw[es]at f;have g:l7 false (.ref T.length) (.ref (T++[O.lst<|(jj 1<|(n:Int)+1).map A.int]).length) (T++[O.lst<|(jj 1<|(n:Int)+1).map A.int]++[O.lst<|(jj 1<|(n:Int)+1).map A.int])=.ok (.bl true) (T++[O.lst<|(jj 1<|(n:Int)+1).map A.int]++[O.lst<|(jj 1<|(n:Int)+1).map A.int]):=by
  rw[xA<|Sk (S:=T++[O.lst<|(jj 1<|(n:Int)+1).map A.int]++[O.lst<|(jj 1<|(n:Int)+1).map A.int]) (kR iu) iu,bF rfl]
 unfold nB r_ rL;dsimp[iG,bools,jD,Nat.reduceAdd,Nat.reduceSub,show A_ Kd.tup "tuple" = some true from rfl,cj,aK,m,bK<|show ¬(n:Int)<1 by omega,bK<|show ¬(20:Int)<(n:Int)by omega,w,k,f,uA<|xC (show(-1000000:Int)<=1 by decide) ⋯ (show -1000000<=(n:Int)+1 by omega) (by omega) (by omega),g];exact⟨_,rfl,j.lay.lay⟩
def RU{n k:Int}(h1:1<=k)(j:k<n):jt [.int n,.int k] S=.ok (.bl true) S:=by
 unfold jt nY nU;have c:JB GH Q4 (eC<|.int 1) (gJ 1) (gJ 0) [.int n,.int k] S=.ok (.bl true) S:=by
  rw[P7 (a:=.int 1) (b:=.int k) (c:=.int n) rfl rfl (by dsimp[iG,bF h1]) rfl];dsimp[iG,bF j]
 dsimp[iG,bools,jD,Nat.reduceAdd,Nat.reduceSub,Tf,c]
def Vf{xs:ag}(j:gQ S W=some (xs.map .int))(h:∀x∈xs,1<=x/\x<20)(J:xs.length<=200):∃S',oF [.int 20,.ref W] S=.ok (.bl true) S'/\jH S S':=by
 have d:=Lc (cap:=[some 0]) (src:=lq<|gJ 1) (t:=lg) (e:=eFn jt<|gK (gJ 1)<|gK (gJ 0)<|gR) (τ:=[.int 20,.ref W]) (S:=S) (ud (by dsimp[iG,bools]) j) j (λ_=>true) (λ_=>.bl true) (λ_ _=>rfl) (λx f _=>by
  obtain⟨i,hi,rfl⟩:=bJ.mp f;dsimp[iG,bools,RU (h i hi).1 (h i hi).2])<|by rw[aK];omega
 rw[fY.mpr λ_ _=>rfl]at d;unfold oF uR uv;dsimp[iG,bools,jD,Nat.reduceAdd,Nat.reduceSub,j,Option.map_some,show A_ .lst "list" = some true from rfl,cj,aK,bK<|show ¬((200:Int)<(xs.length:Int))by omega,d,yU];exact⟨_,rfl,Kp.refl.lay⟩
end K87
namespace K87
open PySem L2 Am
theorem wM{s:Src}{g:Tg}{e:Ex}{T:ae->Prop}{cl:Str}(it:Nat->A)(p:Nat->Bool)(f:Nat->A)(J:∀i S,i<s.k->jH S1 S->s.get i S=some (it i))(L:∀S,jH S1 S->s.fin S=true)
  (step:∀i τ S,i<s.k->T τ->jH S1 S->∃τ1,g (it i) τ S=.ok τ1 S/\T τ1/\(p i=true->∃S',e τ1 S=.ok (f i) S'/\jH S S')/\(p i=false->∃S',e τ1 S=.ex cl S'/\jH S S')) :
  ∀k i τ S,k+i=s.k->T τ->jH S1 S->((List.range' i k).all p=true->∃S',jR s g lg e k i τ S=.ok ((List.range' i k).map f) S'/\jH S1 S')/\((List.range' i k).all p=false->∃S',jR s g lg e k i τ S=.ex cl S'/\jH S1 S')
 | 0,i,τ,S,hk,hT,hP=>⟨λ_=>⟨S,by unfold jR;rw[aT<|L S hP];rfl,hP⟩,λh=>by cases h⟩
 | k+1,i,τ,S,hk,hT,hP=>by
  obtain⟨τ1,hg,m,h1,C⟩:=step i τ S (by omega) hT hP;have e0:jR s g lg e (k+1) i τ S=(e τ1 S).bind λy F=>(jR s g lg e k (i+1) τ1 F).bind λys d=>.ok (y::ys) d:=by
   conv=>lhs;unfold jR
   rw[J i S (by omega) hP,ie,hg,R.kG];rfl
  rw[e0,dN,all_cons,aY]
  cases hp:p i with
  | false=>
   obtain⟨S',e1,k1⟩:=C hp;refine⟨λz=>(by cases z),λ_=>⟨S',by rw[e1];rfl,hP.trans k1⟩⟩
  | true=>
   obtain⟨S',e1,k1⟩:=h1 hp;obtain⟨r1,r2⟩:=wM it p f J L step k (i+1) τ1 S' (by omega) m<|hP.trans k1;rw[Bool.true_and];refine⟨λz=>?_,λz=>?_⟩
   ·obtain⟨d,B,j⟩:=r1 z;exact⟨d,by rw[e1,R.jl,B];rfl,j⟩
   ·obtain⟨d,B,j⟩:=r2 z;exact⟨d,by rw[e1,R.jl,B];rfl,j⟩
def yI{n:Nat}{xs:ae}{src:Ic}{e:Ex}{cl:Str}(hs:src τ S=.ok (kM n xs.length) S1)(J:gQ S1 n=some xs)(p:A->Bool)(f:A->A)
  (step:∀x∈xs,∀T,jH S1 T->(p x=true->∃T',e (x::jT cap τ) T=.ok (f x) T'/\jH T T')/\(p x=false->∃T',e (x::jT cap τ) T=.ex cl T'/\jH T T')) (L:xs.length<=16777216) :
  (xs.all p=true->∃S',lE (none::cap) src (jc 0) lg e τ S=.ok (.ref S'.length) (S'++[.lst<|xs.map f])/\jH S1 S')/\(xs.all p=false->∃S',lE (none::cap) src (jc 0) lg e τ S=.ex cl S'/\jH S1 S'):=by
 have B:∀i,i<xs.length->xs.getD i .unb∈xs:=λi hi=>by
  rw[aX,aN hi];exact c7 hi
 obtain⟨r1,r2⟩:=wM (s:=kM n xs.length) (g:=jc 0) (e:=e) (cl:=cl) (S1:=S1) (T:=λd=>∃y,d=y::jT cap τ) (λi=>xs.getD i .unb) (λi=>p<|xs.getD i .unb) (λi=>f<|xs.getD i .unb)
  (λi T hi k=>by
   have hi:i<xs.length:=hi;show(gQ T n).bind _=_;rw[k.lst _ _ (λz=>z) J,c8,aX,aN hi];rfl)
  (λT k=>by
   show(match gQ T n with
    | some ys=>decide (ys.length<=xs.length)
    | none=>false)=true
   rw[k.lst _ _ (λz=>z) J];exact bF<|aO _)
  (λi d T hi ⟨y,hy⟩ k=>by
   subst hy;exact⟨xs.getD i .unb::jT cap τ,rfl,⟨_,rfl⟩,step _ (B i hi) T k⟩) xs.length 0 (jT (none::cap) τ) S1 rfl ⟨_,rfl⟩ Kp.refl
 have e0:lE (none::cap) src (jc 0) lg e τ S=gd (xs.length<=sizeLine) ((jR (kM n xs.length) (jc 0) lg e xs.length 0 (jT (none::cap) τ) S1).bind λys m=>.ok (.ref m.length)<|m++[.lst ys]):=by
  unfold lE;rw[hs,R.jl];rfl
 have C:(List.range' 0 xs.length).all (λi=>p<|xs.getD i .unb)=xs.all p:=by
  rw[<- dF];have:=j7 xs (λ_=>true) id .unb;rw[Bool.eq_iff_iff,cg,cg];constructor
  ·intro h x j;obtain⟨i,hi,rfl⟩:=dG.1 j;have:=h i<|fh.2 hi;rw[aX,aN hi]at this;exact this
  ·intro h i hi;exact h _<|B i<|fh.1 hi
 have F:(List.range' 0 xs.length).map (λi=>f<|xs.getD i .unb)=xs.map f:=by
  rw[<- dF];refine List.ext_getElem (by simp) λi h1 G=>?_;have hi:i<xs.length:=by simpa using h1
  simp[aX,aN hi]
 rw[C]at r1 r2;rw[F]at r1;rw[e0,jP<|show xs.length<=sizeLine by rw[bD];exact L];refine⟨λz=>?_,λz=>?_⟩
 ·obtain⟨S',e1,k1⟩:=r1 z;exact⟨S',by rw[e1];rfl,k1⟩
 ·obtain⟨S',e1,k1⟩:=r2 z;exact⟨S',by rw[e1];rfl,k1⟩
def GV{S:gS}{xs:ag}(h:vA xs)(L:xs.length<=200)(J:xs≠[]):∃(W:Nat) (S':gS),jy [.str<|jW xs] S=.ok (.ref W) S'/\gQ S' W=some (xs.map .int)/\S.length<=W/\jH S S':=by
 have sp:Txt.split (jW xs) ⟨#[32]⟩=xs.map Tx.tx:=Sp.wo ⋯ (by simpa using J) (λt g=>by
  obtain⟨x,d,rfl⟩:=bJ.mp g;exact no_space<|h x d) (HZ h J)
 have B:=Nz h L;have m:rT (.str<|jW xs) [.str<|PySem.Str.ofString " "] S=.ok (.ref S.length) (S++[.lst<|(xs.map Tx.tx).map .str]):=by
  rw[<- sp];exact k_ ⟨rfl,by rw[bD];omega,by rw[show Txt.split (jW xs) (PySem.Str.ofString " ")=xs.map Tx.tx from sp,bD,aK];omega⟩
 have hs:lq (BR rT (gJ 0)<|gK (eC<|.str<|PySem.Str.ofString " ") gR) [.str<|jW xs] S=.ok (kM S.length ((xs.map Tx.tx).map A.str).length) (S++[.lst<|(xs.map Tx.tx).map .str]):=
  ud (by dsimp[iG,bools,uW,k_<|show A.isStr (.str<|jW xs)=true from rfl,m]) iu
 have k0:jH S (S++[O.lst<|(xs.map Tx.tx).map .str]):=Kp.refl.lay;obtain⟨r1,_⟩:=yI (cl := "NoText") (cap:=[]) (e:=oG jQ<|gK (gJ 0) gR) (τ:=[.str<|jW xs]) hs iu (λ_=>true) (λy=>match y with
  | .str t=>.int ((PySem.intText? t).getD 0)
  | _=>.non) (λy hy T k=>by
  obtain⟨t,g,rfl⟩:=bJ.1 hy;obtain⟨x,d,rfl⟩:=bJ.1 g;have j:=h x d;obtain⟨p,e,f⟩:=Qi (S:=T) j;refine⟨λ_=>⟨p,?_,f⟩,λz=>(by cases z)⟩;have:(PySem.intText?<|Tx.tx x)=some x:=fK (by omega) (by omega);dsimp[iG,mL,bools,e,this,cS])<|by rw[aK,aK];omega
 obtain⟨S',e,k⟩:=r1 (by rw[cg];intro _ _;rfl);have mp:((xs.map Tx.tx).map A.str).map (λy=>match y with
  | .str t=>A.int ((PySem.intText? t).getD 0)
  | _=>.non)=xs.map .int:=by
  rw[cV,cV];refine List.map_congr_left λx d=>?_;have j:=h x d;have:(PySem.intText?<|Tx.tx x)=some x:=fK (by omega) (by omega);show A.int ((PySem.intText?<|Tx.tx x).getD 0)=_;rw[this];rfl
 rw[mp]at e;have f:=k0.trans k;unfold jy mX nc;exact⟨S'.length,S'++[O.lst<|xs.map .int],by dsimp[iG,mL,bools,jD,Nat.reduceAdd,Nat.reduceSub,e],iu,f.len,f.lay⟩
def we{xs:ag}{n:Nat}(j:xs.Perm<|jj 1<|(n:Int)+1)(J:n<=20):vA xs:=λx d=>by have:=A0.mp<|j.mem_iff.mp d;omega
def lR{xs:ag}{n:Nat}(j:xs.Perm<|jj 1<|(n:Int)+1)(h1:1<=n):xs.length=n/\xs≠[]:=by
 have d:xs.length=n:=by rw[j.length_eq,lW];omega
 exact⟨d,λz=>by rw[z]at d;simp at d;omega⟩
def Kg{xs:ag}{n:Nat}(J:xs.Perm<|jj 1<|(n:Int)+1)(h1:1<=n)(L:n<=20):∃S',jh [.str<|jW xs] S=.ok (.tup<|xs.map .int) S'/\jH S S':=by
 obtain⟨j,ne⟩:=lR J h1;obtain⟨W,S1,e1,d,f,k1⟩:=GV (S:=S) (we J L) (by omega) ne;obtain⟨g,e2,k2⟩:=Tn (S:=S1) J h1 L;unfold jh oN o_;dsimp[iG,mL,bools,jD,Nat.reduceAdd,Nat.reduceSub,e1,d,e2,cj];exact⟨_,rfl,k1.trans k2⟩
def O9{S:gS}{xs:ag}(h:∀x∈xs,1<=x/\x<20)(J:xs.length<=200):∃(W:Nat) (S':gS),kI [.str<|if xs=[]then Str.ofString "-" else jW xs] S=.ok (.ref W) S'/\gQ S' W=some (xs.map .int)/\S.length<=W/\jH S S':=by
 have k:vA xs:=λx g=>by have:=h x g;omega
 unfold kI qK qu;by_cases c:xs=[]
 ·subst c;have q:l7 false (.str<|Str.ofString "-") (.str<|PySem.Str.ofString "-") S=.ok (.bl true) S:=rfl;obtain⟨j,e2,k2⟩:=Vf (S:=S++[.lst []]) (W:=S.length) (xs:=[]) iu h J;rw[aT rfl];dsimp[iG,mL,bools,jD,Nat.reduceAdd,Nat.reduceSub,q,e2,cj];have k0:jH S (S++[.lst []]):=Kp.refl.lay;exact⟨_,_,rfl,k2.lst _ _ (λz=>z) iu,aO _,k0.trans k2⟩
 ·rw[aQ c];have q:l7 false (.str<|jW xs) (.str<|PySem.Str.ofString "-") S=.ok (.bl false) S:=by
   have:yy S 12 (.str<|jW xs) (.str<|PySem.Str.ofString "-")=some false:=by
    show some (jW xs == PySem.Str.ofString "-")=_;congr 1;rw[b7];intro z
    cases xs with
    | nil=>exact c rfl
    | cons x xs=>
     have e:=Sp.lD 32 (Tx.tx x)<|xs.map Tx.tx;rw[show Str.join ⟨#[32]⟩ (Tx.tx x::xs.map Tx.tx)=PySem.Str.ofString "-" from z]at e;have g:=ye<|k x<|bw ..;have f:=g.2.1;rw[Sp.size_eq]at f
     cases e2:(Tx.tx x).cps.toList with
     | nil=>rw[e2]at f;simp at f
     | cons d ds=>
      rw[e2]at e;have e3:(45:Nat)::[]=d::(ds++_):=e;have:d=45:=(List.cons.inj e3).1.symm;have:=cg.mp g.1 d (by rw[e2];exact bw ..);simp at this;omega
   rw[xA this]
  obtain⟨W,j,e2,m,p,k2⟩:=GV (S:=S) k J c;obtain⟨B,e3,k3⟩:=Vf (S:=j) m h J;dsimp[iG,mL,bools,jD,Nat.reduceAdd,Nat.reduceSub,q,e2,e3,cj];exact⟨_,_,rfl,k3.lst _ _ (λz=>z) m,p,k2.trans k3⟩
end K87
namespace K87
open PySem L2 Am
def MM{s:Src}{xs:ae}{src:Ic}{t:Te}{e:Ex}(hs:src τ S=.ok s S1)(L:s.k=xs.length)(b:Nat->Prop)(hg:∀T,Kp b S1 T->∀i:Nat,i<xs.length->s.get i T=xs[i]?)(J:∀T,Kp b S1 T->s.fin T=true)(p:A->Bool)(f:A->A)
  (step:∀x∈xs,∀T,Kp b S1 T->∃T1,t (x::jT cap τ) T=.ok (p x) T1/\Kp b T T1/\(p x=true->∃T2,e (x::jT cap τ) T1=.ok (f x) T2/\Kp b T1 T2)) (U:xs.length<=16777216) :
  ∃S',kF (none::cap) src (jc 0) t e τ S=.ok (.ref S'.length) (S'++[.lst<|(xs.filter p).map f])/\Kp b S1 S':=by
 have m:∀i,i<xs.length->xs.getD i .unb∈xs:=λi hi=>by
  rw[aX,aN hi];exact c7 hi
 obtain⟨S',h1,j⟩:=vR (s:=s) (g:=jc 0) (t:=t) (e:=e) (P:=λT=>Kp b S1 T) (T:=λd=>∃y,d=y::jT cap τ) (λi=>xs.getD i .unb) (λi=>p<|xs.getD i .unb) (λi=>f<|xs.getD i .unb) (λi T hi h=>by
   rw[L]at hi;rw[hg T h i hi,aX,aN hi];rfl) J
  (λi d T hi hy h=>by
   obtain⟨y,rfl⟩:=hy;rw[L]at hi;obtain⟨T1,e1,k1,q⟩:=step _ (m i hi) T h;refine⟨xs.getD i .unb::jT cap τ,T,T1,rfl,e1,⟨_,rfl⟩,λ_=>h.trans k1,λhp=>?_⟩;obtain⟨T2,e2,k2⟩:=q hp;exact⟨T2,e2,(h.trans k1).trans k2⟩) s.k 0 (jT (none::cap) τ) S1 rfl ⟨_,rfl⟩ Kp.refl
 refine⟨S',?_,j⟩;unfold kF;rw[hs,R.jl,h1,R.kG,L,<- dF,j7 xs p f .unb];refine j8 ?_;rw[aK];exact bN (fH _ _) U
def MB{n:Nat}{xs:ae}{src:Ic}{t:Te}{e:Ex}(hs:src τ S=.ok (kM n xs.length) S1)(j:gQ S1 n=some xs)(p:A->Bool)(f:A->A)
  (step:∀x∈xs,∀T,jH S1 T->∃T1,t (x::jT cap τ) T=.ok (p x) T1/\jH T T1/\(p x=true->∃T2,e (x::jT cap τ) T1=.ok (f x) T2/\jH T1 T2)) (J:xs.length<=16777216) :
  ∃S',kF (none::cap) src (jc 0) t e τ S=.ok (.ref S'.length) (S'++[.lst<|(xs.filter p).map f])/\jH S1 S':=
 MM hs rfl _ (λT k i _=>by show(gQ T n).bind _=_;rw[k.lst _ _ (λz=>z) j];rfl) (λT k=>by
  show(match gQ T n with
   | some ys=>decide (ys.length<=xs.length)
   | none=>false)=true
  rw[k.lst _ _ (λz=>z) j];exact bF<|aO _) p f step J
meta abbrev C (x:Str):am:=x.cps.toList
abbrev j6 (x:Str):Prop:=1<=x.length/\x.length<=8/\∀c∈C x,97<=c/\c<=122
def lets:∀c:Nat,c<123->97<=c->(Builtin.Str.occurrences (Str.ofString "abcdefghijklmnopqrstuvwxyz") ⟨#[c]⟩ 0 (Str.ofString "abcdefghijklmnopqrstuvwxyz").length 1).isEmpty=false:=by decide +kernel
def Dl{x:Str}(h:j6 x):∃S',lB [.str x] S=.ok (.bl true) S'/\jH S S':=by
 obtain⟨h1,p,f⟩:=h;have d:x.cps.all (· < 128)=true:=by
  rw[<- all_toList,cg];intro c hc;have:=f c hc;exact bF<|by omega
 have k:lu (.str x) S=.ok (.int x.length) S:=jP (by rw[bD];omega);have g:JB GH GH (eC<|.int 1) (iA (f1 lu)<|gK (gJ 0) gR) (eC<|.int 8) [.str x] S=.ok (.bl true) S:=by
  rw[P7 (a:=.int 1) (b:=.int x.length) (c:=.int 8) rfl (by dsimp[iG,bools,k]) (by dsimp[iG,bF<|show(1:Int)<=(x.length:Int)by omega]) rfl];dsimp[iG,bF<|show(x.length:Int)<=8 by omega]
 have m:=qo (cap:=[]) (src:=lq<|gJ 0) (e:=gT Cf (gJ 0)<|eC<|.str<|PySem.Str.ofString "abcdefghijklmnopqrstuvwxyz") (τ:=[.str x]) (S:=S) (S1:=S) (xs:=x.cps.toList.map λc=>A.str ⟨#[c]⟩) (HJ (by dsimp[iG,bools]) d) (λ_=>.bl true) (λy hy=>by
  obtain⟨c,hc,rfl⟩:=bJ.mp hy;have:=f c hc;have e:Cf (.str ⟨#[c]⟩) (.str<|PySem.Str.ofString "abcdefghijklmnopqrstuvwxyz") S=.ok (.bl true) S:=by
   show R.ok (A.bl<|!(Builtin.Str.occurrences (Str.ofString "abcdefghijklmnopqrstuvwxyz") ⟨#[c]⟩ 0 (Str.ofString "abcdefghijklmnopqrstuvwxyz").length 1).isEmpty) S=_;rw[lets c (by omega)<|by omega];rfl
  dsimp[iG,bools,e])<|by rw[aK,cE];show x.length<=_;omega
 have j:tZ (.ref S.length) (S++[O.lst<|(x.cps.toList.map λc=>A.str ⟨#[c]⟩).map λ_=>A.bl true])=.ok (.bl true) (S++[O.lst<|(x.cps.toList.map λc=>A.str ⟨#[c]⟩).map λ_=>A.bl true]):=by
  rw[yN iu<|Ew _,DK]
 unfold lB uD uw;dsimp[iG,bools,jD,Nat.reduceAdd,Nat.reduceSub,g,m,j];exact⟨_,rfl,Kp.refl.lay⟩
theorem zw{x:Str}:∀(ys:ar),RB S (.str x) (ys.map .str)=some (ys.any λy=>y == x)
 | []=>rfl
 | y::ys=>by
  show(some<|y == x).bind _=_;rw[c8,zw ys];rfl
def Fe{x:Str}{ys:ar}(h:gQ S W=some (ys.map .str)):Qq false (.str x) (.ref W) S=.ok (.bl<|ys.any λy=>y == x) S:=by
 show opt (gQ S W) _=_;rw[h,ie,zw];rfl
def Ds{x:Str}{ys:ar}:Qq false (.str x) (.ktu<|ys.map .str) S=.ok (.bl<|ys.any λy=>y == x) S:=by
 show opt (RB S (.str x)<|ys.map .str) _=_;rw[zw];rfl
abbrev yS (ws:ar):Prop:=∀w∈ws,1<=w.length/\w.length<=100/\32∉C w
def IY{ws:ar}(h:yS ws):(ws.any λy=>y == (Str.ofString ""))=false:=by
 rw[Bool.eq_false_iff];intro z;obtain⟨w,hw,e⟩:=List.any_eq_true.mp z;rw[Tx.ML]at e;have:=(h w hw).1;have:w.length=0:=by simpa using e
 omega
def Rg{x:A}:oA (x::xs) 0=some x:=JN
def QE{x:A}:oA (x::y::xs) 1=some y:=KU
def CC{x:Str}(J:gQ S W=some ((kw::x::t::ts).map .str))(L:kw = "keep" \/ kw = "lead")(U:j6 x)(hw:yS (kw::x::t::ts)):∃S',jY [.ref W] S=.ok (.bl true) S'/\jH S S':=by
 obtain⟨F,e2,k2⟩:=Dl (S:=S) U;have hn:jI iU kw=some 1:=by rcases L with rfl|rfl<;>decide +kernel
 have d:(["keep", "lead"]:ar).any (λy=>y == kw)=true:=by rcases L with rfl|rfl<;>decide +kernel
 have B:Iv iU true (.str kw) S=.ok (.bl false) S:=by show R.ok (A.bl<|!(jI iU kw).isSome) S=_;rw[hn];rfl
 have g:Mp iU (.str kw) S=.ok (.int 1) S:=by show opt (jI iU kw) _=_;rw[hn];rfl
 have j:jv (.ref W) (.int 0) S=.ok (.str kw) S:=by show opt (gQ S W) _=_;rw[J,ie,aY,Rg];rfl
 have k:jv (.ref W) (.int 1) S=.ok (.str x) S:=by show opt (gQ S W) _=_;rw[J,ie,aY,aY,QE];rfl
 have p:lu (.ref W) S=.ok (.int<|(ts.length:Int)+3) S:=by show opt (gQ S W) _=_;rw[J,ie];simp;omega
 have f:=Fe (x:=Str.ofString "") J;rw[IY hw]at f;have m:Qq false (.str kw) (.ktu<|(["keep", "lead"]:ar).map .str) S=.ok (.bl true) S:=by rw[Ds,d]
 have C:GI (.int<|(ts.length:Int)+3) (.int<|1+1) S=.ok (.bl true) S:=by dsimp[iG,bF<|show(1+1:Int)<(ts.length:Int)+3 by omega]
 unfold jY oO pN;dsimp[iG,bools,jD,Nat.reduceAdd,Nat.reduceSub,j,B,f,g,m,p,C,k,e2];exact⟨_,rfl,k2⟩
def xh{xs:ar}(U:gQ S W=some ((kw::xs).map .str))(hn:jI iU kw=some (xs.length:Int))(Z:(["keep", "lead"]:ar).any (λy=>y == kw)=false)(hx:∀x∈xs,j6 x)(hl:xs.length<=2)(hw:yS (kw::xs)):∃S',jY [.ref W] S=.ok (.bl true) S'/\jH S S':=by
 have F:Iv iU true (.str kw) S=.ok (.bl false) S:=by show R.ok (A.bl<|!(jI iU kw).isSome) S=_;rw[hn];rfl
 have K:Mp iU (.str kw) S=.ok (.int xs.length) S:=by show opt (jI iU kw) _=_;rw[hn];rfl
 have G:jv (.ref W) (.int 0) S=.ok (.str kw) S:=by show opt (gQ S W) _=_;rw[U,ie,aY,Rg];rfl
 have B:lu (.ref W) S=.ok (.int<|(xs.length:Int)+1) S:=by show opt (gQ S W) _=_;rw[U,ie];simp
 have j:=Fe (x:=Str.ofString "") U;rw[IY hw]at j;have J:Qq false (.str kw) (.ktu<|(["keep", "lead"]:ar).map .str) S=.ok (.bl false) S:=by rw[Ds,Z]
 have cut:nH ((kw::xs).map A.str) (some 1) none=xs.map .str:=by
  have:=qS ((kw::xs).map A.str) 0 (by simp);rw[show((0:Nat):Int)+1=1 from rfl]at this;rw[this];rfl
 obtain⟨T,d⟩:∃T,T=S++[O.lst<|xs.map A.str]:=⟨_,rfl⟩;have p:jH S T:=by rw[d];exact Kp.refl.lay
 have hs:lq (zl (gJ 0) (kL<|eC<|.int 1) kW) [.ref W,.int<|(xs.length:Int)+1] S=.ok (kM S.length (xs.map A.str).length) T:=by
  refine ud ?_ (by rw[d];exact iu);dsimp[iG,bools,U,cut];rw[d]
 obtain⟨f,e2,k2⟩:=MB (cap:=[]) (t:=lg) (e:=eFn lB<|gK (gJ 0) gR) hs (by rw[d];exact iu) (λ_=>true) (λ_=>A.bl true) (λy hy m k=>by
  obtain⟨x,g,rfl⟩:=bJ.1 hy;obtain⟨T2,e,k2⟩:=Dl (S:=m)<|hx x g;exact⟨m,rfl,Kp.refl,λ_=>⟨T2,by dsimp[iG,bools,e],k2⟩⟩)<|by rw[aK];omega
 rw[fY.mpr λ_ _=>rfl]at e2;have C:tZ (.ref f.length) (f++[O.lst<|(xs.map A.str).map λ_=>A.bl true])=.ok (.bl true) (f++[O.lst<|(xs.map A.str).map λ_=>A.bl true]):=yU;have L:l7 false (.int<|(xs.length:Int)+1) (.int<|(xs.length:Int)+1) S=.ok (.bl true) S:=by
  have:yy S 12 (.int<|(xs.length:Int)+1) (.int<|(xs.length:Int)+1)=some true:=by
   show some (((xs.length:Int)+1) == ((xs.length:Int)+1))=_;rw[cB]
  rw[xA this]
 unfold jY oO pN;dsimp[iG,bools,jD,Nat.reduceAdd,Nat.reduceSub,G,F,j,K,J,B,L,e2,C];exact⟨_,rfl,(p.trans k2).lay⟩
end K87
namespace K87
open PySem L2 Am
abbrev tI (xs:ag):A:=.tup<|xs.map .int
abbrev tO:Option (ag)->A
 | some xs=>tI xs
 | none=>.non
meta abbrev Hi:=List<|Str×Option (ag)
abbrev mj (q:Str×Option (ag)):A:=.tup [.str q.1,tO q.2]
abbrev kY (f:Str->Option (ag))(k:Str)(v:Option<|ag):Str->Option (ag):=λj=>if j=k then v else f j
theorem qZ:∀{kvs:List<|Str×A}{k:Str},(iL kvs k).isSome=true ↔ k∈kvs.map (·.1)
 | [],k=>by simp[iL]
 | p::r,k=>by
  by_cases c:p.1=k
  ·rw[jA c];simp[c]
  ·rw[jC c,qZ];simp[bP c]
theorem yt:∀{kvs:List<|Str×A}{k j:Str}{v:A},iL (kvs++[(k,v)]) j=if (iL kvs j).isSome=true then iL kvs j else if k=j then some v else none
 | [],k,j,v=>by
  by_cases c:k=j
  ·rw[aQ<|by simp[iL],aT c];exact jA (r:=[]) c
  ·rw[aQ<|by simp[iL],aQ c];exact jC (r:=[]) c
 | p::r,k,j,v=>by
  by_cases c:p.1=j
  ·rw[gx,jA c,jA c];rfl
  ·rw[gx,jC c,jC c];exact yt
theorem yz:∀{kvs:List<|Str×A}{k j:Str}{v:A},iL (kvs.map λkv=>if kv.1=k then(kv.1,v)else kv) j=if k=j/\(iL kvs j).isSome=true then some v else iL kvs j
 | [],k,j,v=>by rw[aQ<|by simp[iL]];rfl
 | p::r,k,j,v=>by
  rw[aY];by_cases c:p.1=j
  ·by_cases d:p.1=k
   ·rw[aT d,jA (p:=(p.1,v)) c,jA c,aT ⟨d.symm.trans c,rfl⟩]
   ·rw[aQ d,jA c,jA c,aQ λz=>d<|c.trans z.1.symm]
  ·have:¬(if p.1=k then(p.1,v)else p).1=j:=by split<;>exact c
   rw[jC this,jC c];exact yz
def uc{k:Str}{v:A}:iL (nX kvs k v) j=if j=k then some v else iL kvs j:=by
 unfold nX;by_cases c:(iL kvs k).isSome=true
 ·rw[aT c,yz];by_cases d:j=k
  ·subst d;rw[aT ⟨rfl,c⟩,aT rfl]
  ·rw[aQ λz=>d z.1.symm,aQ d]
 ·rw[aQ c,yt];by_cases d:j=k
  ·subst d;rw[aQ c,aT rfl,aT rfl]
  ·rw[aQ d,aQ<|bP d];by_cases e:(iL kvs j).isSome=true
   ·rw[aT e]
   ·rw[aQ e]
    cases h:iL kvs j with
    | none=>rfl
    | some _=>rw[h]at e;exact absurd rfl e
theorem wX:∀{kvs:List<|Str×A}{k j:Str},iL (mw kvs k) j=if j=k then none else iL kvs j
 | [],k,j=>by
  by_cases d:j=k
  ·rw[aT d];rfl
  ·rw[aQ d];rfl
 | p::r,k,j=>by
  have f:=wX (kvs:=r) (k:=k) (j:=j);unfold mw at f ⊢;by_cases c:p.1=k
  ·rw[cN<|by simp[c],f];by_cases d:j=k
   ·rw[aT d,aT d]
   ·rw[aQ d,aQ d,jC λz=>d<|z.symm.trans c]
  ·rw[cY<|by simp[c]];by_cases e:p.1=j
   ·rw[jA e,jA e,aQ λz=>c<|e.trans z]
   ·rw[jC e,jC e,f]
structure Rp (nm:ar)(kvs:List (Str×A))(f:Str->Option (ag)):Prop where
 nd:(kvs.map (·.1)).Nodup
 sub:∀k∈kvs.map (·.1),k∈nm
 at_:∀k,iL kvs k=(f k).map tI
def Rp.Q8{nm:ar}{f:Str->Option (ag)}(r:Rp nm kvs f)(k:Str):(iL kvs k).isSome=(f k).isSome:=by rw[r.at_,gq]
def Rp.nil{nm:ar}:Rp nm [] λ_=>none:=⟨List.nodup_nil,λk h=>(by cases h),λk=>rfl⟩
def AD{kvs:List<|Str×A}{k:Str}{v:A}:(nX kvs k v).map (·.1)=if (iL kvs k).isSome=true then kvs.map (·.1)else kvs.map (·.1)++[k]:=by
 unfold nX;by_cases c:(iL kvs k).isSome=true
 ·rw[aT c,aT c,cV];refine List.map_congr_left λp _=>?_;show(if p.1=k then(p.1,v)else p).1=p.1;split<;>rfl
 ·rw[aQ c,aQ c,bV];rfl
def Rp.put{nm:ar}{f:Str->Option (ag)}(r:Rp nm kvs f){k:Str}(J:k∈nm)(xs:ag):Rp nm (nX kvs k<|tI xs) (kY f k<|some xs):=by
 refine⟨?_,?_,λj=>?_⟩
 ·rw[AD];by_cases c:(iL kvs k).isSome=true
  ·rw[aT c];exact r.nd
  ·rw[aQ c,cK];refine⟨r.nd,by simp,λa p b m e=>?_⟩;have:b=k:=by simpa using m
   exact c<|qZ.mpr<|by rw[<- this,<- e];exact p
 ·rw[AD];intro j g;by_cases c:(iL kvs k).isSome=true
  ·rw[aT c]at g;exact r.sub j g
  ·rw[aQ c]at g
   rcases bQ.mp g with z|z
   ·exact r.sub j z
   ·have:j=k:=by simpa using z
    rw[this];exact J
 ·rw[uc];unfold kY;by_cases d:j=k
  ·rw[aT d,aT d];rfl
  ·rw[aQ d,aQ d];exact r.at_ j
def Rp.drop{nm:ar}{f:Str->Option (ag)}(r:Rp nm kvs f)(k:Str):Rp nm (mw kvs k) (kY f k none):=by
 have g:((mw kvs k).map (·.1)).Sublist (kvs.map (·.1)):=List.Sublist.map _ List.filter_sublist;refine⟨r.nd.sublist g,λj m=>r.sub j<|g.subset m,λj=>?_⟩;rw[wX];unfold kY;by_cases d:j=k
 ·rw[aT d,aT d];rfl
 ·rw[aQ d,aQ d];exact r.at_ j
theorem len_sub:∀{l m:ar},l.Nodup->(∀x∈l,x∈m)->l.length<=m.length
 | [],_,_,_=>eZ _
 | a::l,m,h,s=>by
  obtain⟨h1,g⟩:=dB.mp h;have f:=s a<|bw ..;have j:=len_sub (l:=l) (m:=m.erase a) g λx d=>(List.mem_erase_of_ne λz=>h1<|by rw[<- z];exact d).mpr<|s x<|bf _ d;rw[List.length_erase_of_mem f]at j;have:=List.length_pos_of_mem f;rw[bq];omega
def Rp.len{nm:ar}{kvs:List<|Str×A}{f:Str->Option (ag)}(r:Rp nm kvs f):kvs.length<=nm.length:=by
 have:=len_sub r.nd r.sub
 rwa [aK]at this
def Af{f:Str->Option (ag)}{k:Str}{v:Option<|ag}(h:f k=v):kY f k v=f:=by
 funext j
 unfold kY;by_cases d:j=k
 ·rw[aT d,d,h]
 ·rw[aQ d]
def L8{f:Str->Option (ag)}{k:Str}{v w:Option<|ag}:kY (kY f k v) k w=kY f k w:=by
 funext j
 unfold kY;by_cases d:j=k
 ·rw[aT d,aT d]
 ·rw[aQ d,aQ d,aQ d]
structure Dk (S:gS)(d o p:Nat)(nm:ar)(f:Str->Option (ag))(past:Hi):Prop where
 ob:S[d]?=some (.obj "Desk" [("orders",.ref o),("past",.ref p)])
 od:∃kvs,iW S o=some kvs/\Rp nm kvs f
 ps:gQ S p=some (past.map mj)
def Dk.ne{d p:Nat}{nm:ar}{f:Str->Option (ag)}(D:Dk S d o p nm f past):d≠o/\d≠p/\o≠p:=by
 obtain⟨a,⟨kvs,b,_⟩,c⟩:=D;have b:=iD b;have c:=ig c;refine⟨λz=>?_,λz=>?_,λz=>?_⟩
 ·rw[z,b]at a;cases a
 ·rw[z,c]at a;cases a
 ·rw[z,c]at b;cases b
def Kp.ds{b:Nat->Prop}(h:Kp b S S')(n:Nat)(xs:List<|Str×A)(hb:¬b n)(e:iW S n=some xs):iW S' n=some xs:=nQ<|h.obj n _ hb<|iD e
def Dk.kp{d p:Nat}{nm:ar}{f:Str->Option (ag)}{c:Nat->Prop}(D:Dk S d o p nm f past)(k:Kp c S S')(h1:¬c d)(j:¬c o)(J:¬c p):Dk S' d o p nm f past:=by
 obtain⟨a,⟨kvs,b,r⟩,e⟩:=D;exact⟨k.obj d _ h1 a,⟨kvs,Kp.ds k o _ j b,r⟩,k.lst p _ J e⟩
def vJ{S:gS}{n:Nat}{f:Str}{fs:List<|Str×A}{a:A}(h:S[n]?=some (.obj cn fs))(j:fs.lookup f=some a):zx cn f (.ref n) S=.ok a S:=by
 show opt (vZ S n) _=_;rw[zK h,ie,k_ rfl,j,ie]
def jS{f:Str}{c:Ex}:lM cn f c τ S=(c τ S).bind λo S1=>zx cn f o S1:=rfl
def Jk{S:gS}{n:Nat}{f:Str}{fs:List<|Str×A}(h:S[n]?=some (.obj cn fs))(j:fs.length<1000):Bw cn f (.ref n) y S=.ok Unit.unit (S.set n<|.obj cn<|zO f y fs):=by
 show opt (vZ S n) _=_;rw[zK h,ie,k_ ⟨rfl,j⟩]
def zF{f:Str}{co j:Ex}{S1:gS}{n:Nat}{fs:List<|Str×A}(h1:j τ S=.ok y S1)(J:co τ S1=.ok (.ref n) S1)(h:S1[n]?=some (.obj cn fs))(L:fs.length<1000):Am.xE cn f co j τ S=.nx τ (S1.set n<|.obj cn<|zO f y fs):=by
 unfold Am.xE;rw[h1];show RS.of (co τ S1) _=_;rw[J];show RS.of (Bw cn f (.ref n) y S1) _=_;rw[Jk h L];rfl
def PU{F:ae->gS->R A}{co:Ex}{d:mK}{n:Nat}{fs:List<|Str×A}(h1:co τ S=.ok (.ref n) S1)(h:S1[n]?=some (.obj cn fs))(j:fs.lookup m=none):iX cn m F co d τ S=(d τ S1).bind λas S2=>F (.ref n::as) S2:=by
 unfold iX;rw[h1,R.jl];show opt (vZ S1 n) _=_;rw[zK h,ie,k_ ⟨rfl,j⟩]
def Wt{m:Str}{a b:A}(h:m ≠ "orders")(h':m ≠ "past"):([("orders",a),("past",b)]:List<|Str×A).lookup m=none:=by
 rw[cC,cC,show(m == ("orders" : Str))=false from b7.mpr h,show(m == ("past" : Str))=false from b7.mpr h'];rfl
def dm{m:Str}{F:ae->gS->R A}{co:Ex}{e:mK}{d p:Nat}{nm:ar}{f:Str->Option (ag)}(D:Dk S d o p nm f past)(h1:co τ S=.ok (.ref d) S)(h:m ≠ "orders"<|>δ)(h':m ≠ "past"<|>δ):iX "Desk" m F co e τ S=(e τ S).bind λas S2=>F (.ref d::as) S2:=PU h1 D.ob<|Wt h h'
def Ln{f:A->ae->gS->R A}{co:Ex}{d:mK}{n:Nat}(h1:co τ S=.ok (.ref n) S)(h:iW S n=some kvs):BU f co d τ S=(d τ S).bind λas S2=>f (.ref n) as S2:=by
 unfold BU;rw[h1,R.jl];show opt ((iW S n).map λ_=>Unit.unit) _=_;rw[h];rfl
def MX{n:Nat}{k:Str}(h:iW S n=some kvs):zc (.ref n) [.str k] S=.ok ((iL kvs k).getD .non) S:=by
 show opt (iW S n) _=_;rw[h];rfl
def Cg{n:Nat}{k:Str}(h:iW S n=some kvs):Gm b (.str k) (.ref n) S=.ok (.bl<|if b then !(iL kvs k).isSome else(iL kvs k).isSome) S:=by
 show opt (iW S n) _=_;rw[h];rfl
def Fq{n:Nat}{kvs:List<|Str×A}(h:iW S n=some kvs):AQ (.ref n) S=.ok (.int kvs.length) S:=by
 show opt (iW S n) _=_;rw[h];rfl
def Hg{n:Nat}{k:Str}{v:A}(h:iW S n=some kvs)(hv:iL kvs k=some v):vC (.ref n) (.str k) S=.ok v S:=by
 show opt (iW S n) _=_;rw[h,ie,hv];rfl
def zD{S:gS}{n:Nat}{k:Str}{kvs:List<|Str×A}{v:A}(h:iW S n=some kvs)(j:kvs.length<16777216):tH (.ref n) (.str k) v S=.ok Unit.unit (S.set n<|.ly<|nX kvs k v):=by
 show opt (iW S n) _=_;rw[h,ie,k_<|by rw[bD];exact j]
def za{co j:Ex}{a:A}:AU co j a τ S=(co τ S).bind λo S1=>(j τ S1).bind λi S2=>(tH o i a S2).bind λ_ S3=>.ok τ S3:=rfl
def E9{S:gS}{n:Nat}{k:Str}(h:iW S n=some kvs)(j:(iL kvs k).isSome=true):Ju (.ref n) (.str k) S=.ok Unit.unit (S.set n<|.ly<|mw kvs k):=by
 show opt (iW S n) _=_;rw[h,ie,k_ j]
def A1{co j:Ex}:yj co j τ S=.of (co τ S) λx S1=>.of (j τ S1) λy S2=>.of (Ju x y S2) λ_ S3=>.nx τ S3:=rfl
def IV{ps:List<|Str ⊕ Ex}:Nt ps τ S=(Q7 ps Str.empty τ S).bind λx S'=>.ok (.str x) S':=rfl
def wk{S:gS}{n:Nat}(h:n<S.length):iW (S.set n<|.ly kvs) n=some kvs:=nQ<|by rw[bz h]
end K87
namespace K87
open PySem L2 Am
section
variable {S:gS}{d o p:Nat}{nm:ar}{f:Str->Option (ag)}{past:Hi}{x:Str}
def g2{α:Type}{r:R α}:gd (2<=sizeLine) r=r:=k_ ⋯
def lX{S:gS}{n:Nat}(h:n≠m):gQ (S.set m u) n=gQ S n:=by
 unfold gQ;rw[a_<|bP h]
def fO{o p:Nat}:([("orders",.ref o),("past",.ref p)]:List<|Str×A).lookup ("orders" : Str)=some (.ref o):=rfl
def fP{o p:Nat}:([("orders",.ref o),("past",.ref p)]:List<|Str×A).lookup ("past" : Str)=some (.ref p):=rfl
def Dk.fo(D:Dk S d o p nm f past):zx "Desk" "orders" (.ref d) S=.ok (.ref o) S:=vJ D.ob fO
def Dk.fp(D:Dk S d o p nm f past):zx "Desk" "past" (.ref d) S=.ok (.ref p) S:=vJ D.ob fP
def tX(D:Dk S d o p nm f past)(j:f x=some xs):iz [.ref d,.str x] S=.ok (tI xs) S:=by
 obtain⟨kvs,g,r⟩:=D.od;have e:iL kvs x=some (tI xs):=by rw[r.at_,j];rfl
 have i:=Cg (b:=true) (k:=x) g;rw[e]at i;unfold iz pP oW;dsimp[iG,mL,bools,jD,Nat.reduceAdd,Nat.reduceSub,jS,D.fo,i,dD,gb,cj,Hg g e]
def Rl(xs:ae):nH xs (some<|-20) none=xs.drop (xs.length-20):=by
 have e0:HT.kK xs.length 0 (some<|-20)=xs.length-20:=by
  show(if (-20:Int)<0 then((-20:Int)+(xs.length:Int)).toNat else min (-20:Int).toNat xs.length)=_;rw[aT ⋯];omega
 unfold nH;rw[e0,cQ<|by rw[cR];show _<=xs.length-_;omega]
abbrev rem (past:Hi)(x:Str)(v:Option<|ag):Hi:=(past++[(x,v)]).drop<|past.length+1-20
def Kc{v:Option<|ag}:(rem past x v).length<=20:=by
 unfold rem;rw[cR,aZ];dsimp[bq,gF];omega
def MG(k:Str)(r:Rp nm kvs f):(iL kvs k).getD .non=tO (f k):=by
 rw[r.at_]
 cases f k<;>rfl
def vm(D:Dk S d o p nm f past)(hp:past.length<=20):∃S',iS [.ref d,.str x] S=.ok .non S'/\Dk S' d o S.length nm f (rem past x<|f x)/\Kp (λn=>n=d\/n=p) S S':=by
 obtain⟨C,G,N⟩:=D.ne;obtain⟨kvs,k,r⟩:=D.od;have J:=iP D.ps;have P:=jM D.ob;have lo:=jM<|iD k;have e1:BU zc (lM "Desk" "orders"<|gJ 0) (gK (gJ 1) gR) [.ref d,.str x] S=.ok (tO<|f x) S:=by
  rw[Ln (n:=o) (kvs:=kvs) (by dsimp[iG,bools,jS,D.fo]) k];dsimp[iG,bools,MX k,MG x r]
 have e2:mP (.ref p) [.tup [.str x,tO<|f x]] S=.ok .non (S.set p<|.lst<|past.map mj++[.tup [.str x,tO<|f x]]):=by
  show opt (gQ S p) _=_;rw[D.ps,ie,jP<|by rw[aK,bD];omega]
 obtain⟨S1,h1⟩:∃S1,S1=S.set p (.lst<|past.map mj++[.tup [.str x,tO<|f x]]):=⟨_,rfl⟩;rw[<- h1]at e2;have k1:Kp (λn=>n=d\/n=p) S S1:=by rw[h1];exact Kp.refl.set (.inl<|.inr rfl)
 have B:S1.length=S.length:=by rw[h1,bL]
 have F:S1[d]?=some (.obj "Desk" [("orders",.ref o),("past",.ref p)]):=by rw[h1,a_<|bP G];exact D.ob
 have p1:gQ S1 p=some ((past++[(x,f x)]).map mj):=by
  rw[h1,j4 J,bV];rfl
 have m:zx "Desk" "past" (.ref d) S1=.ok (.ref p) S1:=vJ F fP;have L:nH ((past++[(x,f x)]).map mj) (some<|-20) none=(rem past x<|f x).map mj:=by
  rw[Rl,aK,aZ];unfold rem;rw[map_drop];rfl
 obtain⟨g,j⟩:∃g,g=S1++[O.lst<|(rem past x<|f x).map mj]:=⟨_,rfl⟩;have k2:Kp (λn=>n=d\/n=p) S g:=by rw[j];exact k1.lay
 have K:g[d]?=some (.obj "Desk" [("orders",.ref o),("past",.ref p)]):=by rw[j,aW<|by omega];exact F
 have ep:zO ("past" : Str) (.ref S.length) ([("orders",.ref o),("past",.ref p)]:List<|Str×A)=([("orders",.ref o),("past",.ref S.length)]:List<|Str×A):=rfl;have e3:Am.xE "Desk" "past" (gJ 0) (zl (lM "Desk" "past"<|gJ 0) (kL<|GJ GA<|eC<|.int 20) kW) [.ref d,.str x] S1=.nx [.ref d,.str x] (g.set d<|.obj "Desk" [("orders",.ref o),("past",.ref S.length)]):=by
  rw[zF (S1:=g) (y:=.ref S.length) (n:=d) (by
   have a:GA (.int 20) S1=.ok (.int<|-20) S1:=rfl;dsimp[iG,bools,jS,m,a,p1,L];rw[j,B]) rfl K<|by simp,ep]
 refine⟨g.set d<|.obj "Desk" [("orders",.ref o),("past",.ref S.length)],?_,⟨?_,⟨kvs,?_,r⟩,?_⟩,k2.vF<|.inl<|.inl rfl⟩
 ·unfold iS lY l9;dsimp[iG,mL,bools,jD,Nat.reduceAdd,Nat.reduceSub,jS,D.fp,D.ps,e1,g2,e2,e3]
 ·rw[bz<|by rw[j,aZ];omega]
 ·refine nQ ?_;rw[a_ C];exact iD (Kp.ds k2 o _ (by rintro(z|z);exact C z.symm;exact N z) k)
 ·rw[lX<|by omega,j];have:=iu (S:=S1) (xs:=(rem past x<|f x).map mj);rw[B]at this;exact this
end
end K87
namespace K87
open PySem L2 Am
section
variable {S:gS}{d o p:Nat}{nm:ar}{f:Str->Option (ag)}{past:Hi}{x:Str}
def GZ(D:Dk S d o p nm f past)(hp:past.length<=20)(hx:x∈nm)(hn:nm.length<1000)(hc:(f x).isSome=true\/∀kvs,Rp nm kvs f->kvs.length<40) :
  ∃p' S',iM [.ref d,.str x,tI xs] S=.ok (.str "ok") S'/\S.length<=p'/\Dk S' d o p' nm (kY f x<|some xs) (rem past x<|f x)/\Kp (λn=>n=d\/n=o\/n=p) S S':=by
 obtain⟨U,V,Z⟩:=D.ne;obtain⟨kvs,K,r⟩:=D.od;have Y:=r.len;have i:=Cg (b:=true) (k:=x) K;rw[aT rfl,r.Q8]at i;obtain⟨S1,e1,m,k1⟩:=vm (x:=x) D hp;obtain⟨g,j,r1⟩:=m.od;have N:=r1.len;have B:=jM<|iD j;obtain⟨F,T,G⟩:=m.ne;have st:tH (.ref o) (.str x) (tI xs) S1=.ok Unit.unit (S1.set o<|.ly<|nX g x<|tI xs):=zD j (by omega);have O:(tI xs).jJ=false:=rfl;have P:iX "Desk" "remember" iS (gJ 0) (gK (gJ 1) gR) [.ref d,.str x,tI xs] S=.ok .non S1:=by
  rw[dm D<|by dsimp[iG,bools]];dsimp[iG,bools,e1]
 have C:∀J:xT (mF<|gT (Gm true) (gJ 1)<|lM "Desk" "orders"<|gJ 0) (mF<|gT Mt (iA (f1 AQ)<|gK (lM "Desk" "orders"<|gJ 0) gR)<|eC<|.int 40) [.ref d,.str x,tI xs] S=.ok false S,iM [.ref d,.str x,tI xs] S=.ok (.str "ok") (S1.set o<|.ly<|nX g x<|tI xs):=λJ=>by
  unfold iM oZ oU;dsimp[iG,mL,bools,jD,Nat.reduceAdd,Nat.reduceSub,↓J,↓P,u5 O,za,jS,m.fo,st]
 refine⟨S.length,_,C ?_,aO _,⟨?_,⟨_,wk B,r1.put hx xs⟩,?_⟩,?_⟩
 ·unfold xT
  cases hs:(f x).isSome with
  | true=>
   rw[hs]at i;dsimp[iG,bools,jS,D.fo,i,cj]
  | false=>
   rw[hs]at i;have:kvs.length<40:=by
    rcases hc with z|z
    ·rw[z]at hs;cases hs
    ·exact z kvs r
   have L:Mt (.int kvs.length) (.int 40) S=.ok (.bl false) S:=by dsimp[iG,bK<|show ¬(40:Int)<=(kvs.length:Int)by omega]
   dsimp[iG,bools,jS,D.fo,i,fF,Fq K,L]
 ·rw[a_<|bP F];exact m.ob
 ·rw[lX<|bP G];exact m.ps
 ·exact(k1.mono λn _ z=>z.elim (λa=>.inl a) λa=>.inr<|.inr a).vF (.inl<|.inr<|.inl rfl)
def Mj(D:Dk S d o p nm f past)(hp:past.length<=20)(U:f x=some xs) :
  ∃p' S',jX [.ref d,.str x] S=.ok (.str "ok") S'/\S.length<=p'/\Dk S' d o p' nm (kY f x none) (rem past x<|f x)/\Kp (λn=>n=d\/n=o\/n=p) S S':=by
 obtain⟨S1,e1,k,k1⟩:=vm (x:=x) D hp;obtain⟨g,j,r1⟩:=k.od;have m:=jM<|iD j;obtain⟨B,L,C⟩:=k.ne;have F:(iL g x).isSome=true:=by rw[r1.Q8,U];rfl
 have J:iX "Desk" "named" iz (gJ 0) (gK (gJ 1) gR) [.ref d,.str x] S=.ok (tI xs) S:=by
  rw[dm D<|by dsimp[iG,bools]];dsimp[iG,bools,tX D U]
 have K:iX "Desk" "remember" iS (gJ 0) (gK (gJ 1) gR) [.ref d,.str x] S=.ok .non S1:=by
  rw[dm D<|by dsimp[iG,bools]];dsimp[iG,bools,e1]
 have G:yj (lM "Desk" "orders"<|gJ 0) (gJ 1) [.ref d,.str x] S1=.nx [.ref d,.str x] (S1.set o<|.ly<|mw g x):=by
  rw[A1];dsimp[iG,bools,jS,k.fo,E9 j F]
 refine⟨S.length,S1.set o<|.ly<|mw g x,?_,aO _,⟨?_,⟨_,wk m,r1.drop x⟩,?_⟩,?_⟩
 ·unfold jX qH pX;dsimp[iG,mL,bools,jD,Nat.reduceAdd,Nat.reduceSub,↓J,↓K,↓G]
 ·rw[a_<|bP B];exact k.ob
 ·rw[lX<|bP C];exact k.ps
 ·exact(k1.mono λn _ z=>z.elim (λa=>.inl a) λa=>.inr<|.inr a).vF (.inl<|.inr<|.inl rfl)
def Nj{q:Str×Option (ag)}(D:Dk S d o p nm f<|past++[q])(hx:q.1∈nm)(hn:nm.length<1000)(hd:q.2=none->(f q.1).isSome=true) :
  ∃S',ji [.ref d] S=.ok (.str "ok") S'/\Dk S' d o p nm (kY f q.1 q.2) past/\Kp (λn=>n=d\/n=o\/n=p) S S':=by
 obtain⟨N,P,K⟩:=D.ne;obtain⟨kvs,F,r⟩:=D.od;obtain⟨x,v⟩:=q;have Z:=r.len;have T:=iP D.ps;have lo:=jM<|iD F;have G:(past++[(x,v)]).map mj=past.map mj++[mj (x,v)]:=by rw[bV];rfl
 have B:(A.ref p).Oc S=some true:=by
  show(gQ S p).map _=_;rw[D.ps,G];simp
 obtain⟨S1,h1⟩:∃S1,S1=S.set p (.lst<|past.map mj):=⟨_,rfl⟩;have U:zS (.ref p) [] S=.ok (mj (x,v)) S1:=by
  show opt (gQ S p) _=_;rw[D.ps,G,ie];show opt ((past.map mj++[mj (x,v)])[(past.map mj++[mj (x,v)]).length-1]?) _=_;rw[show(past.map mj++[mj (x,v)]).length-1=(past.map mj).length by simp,c_<|aO _,gC];show R.ok (mj (x,v)) (S.set p<|.lst (past.map mj++[mj (x,v)]).dropLast)=_;rw[List.dropLast_concat,h1]
 have pm:FH zS (lM "Desk" "past"<|gJ 0) [.ref d,.unb,.unb] S=.ok (mj (x,v)) S1:=by
  show((lM "Desk" "past" (gJ 0) [.ref d,.unb,.unb] S).bind λo S1=>opt (o.lst? S1) λ_=>zS o [] S1)=_;rw[show lM "Desk" "past" (gJ 0) [.ref d,.unb,.unb] S=.ok (.ref p) S by dsimp[iG,bools,jS,D.fp],R.jl];show opt (gQ S p) _=_;rw[D.ps,ie,U]
 have k1:Kp (λn=>n=d\/n=o\/n=p) S S1:=by rw[h1];exact Kp.refl.set (.inl<|.inr<|.inr rfl)
 have J:S1[d]?=some (.obj "Desk" [("orders",.ref o),("past",.ref p)]):=by rw[h1,a_<|bP P];exact D.ob
 have C:iW S1 o=some kvs:=by rw[h1];exact nQ (by rw[a_<|bP K];exact iD F)
 have p1:gQ S1 p=some (past.map mj):=by rw[h1,j4 T]
 have Y:S1.length=S.length:=by rw[h1,bL]
 have m:zx "Desk" "orders" (.ref d) S1=.ok (.ref o) S1:=vJ J fO;have j:∀g,Rp nm g (kY f x v)->Dk (S1.set o<|.ly g) d o p nm (kY f x v) past:=λg r2=>by
  refine⟨?_,⟨_,wk<|by omega,r2⟩,?_⟩
  ·rw[a_<|bP N];exact J
  ·rw[lX<|bP K];exact p1
 have k:LH 2 (zV (jc 1)<|zV (jc 2) LF) (mj (x,v)) [.ref d,.unb,.unb] S1=.ok [.ref d,.str x,tO v] S1:=rfl
 cases v with
 | none=>
  have L:(iL kvs x).isSome=true:=by rw[r.Q8];exact hd rfl
  have O:yj (lM "Desk" "orders"<|gJ 0) (gJ 1) [.ref d,.str x,.non] S1=.nx [.ref d,.str x,.non] (S1.set o<|.ly<|mw kvs x):=by
   rw[A1];dsimp[iG,bools,jS,m,E9 C L]
  refine⟨S1.set o<|.ly<|mw kvs x,?_,j _<|r.drop x,k1.vF<|.inl<|.inr<|.inl rfl⟩;unfold ji lQ lV;dsimp[iG,mL,bools,jD,Nat.reduceAdd,Nat.reduceSub,jS,D.fp,B,cj,↓pm,↓k,tO,show Ck false .non .non S1=.ok (.bl true) S1 from rfl,↓O]
 | some ys=>
  have st:tH (.ref o) (.str x) (tI ys) S1=.ok Unit.unit (S1.set o<|.ly<|nX kvs x<|tI ys):=zD C (by omega);have V:(tI ys).jJ=false:=rfl;refine⟨S1.set o<|.ly<|nX kvs x<|tI ys,?_,j _<|r.put hx ys,k1.vF<|.inl<|.inr<|.inl rfl⟩;unfold ji lQ lV;dsimp[iG,mL,bools,jD,Nat.reduceAdd,Nat.reduceSub,jS,D.fp,B,cj,↓pm,↓k,tO,u5 V,show Ck false (tI ys) .non S1=.ok (.bl false) S1 from rfl,za,m,st]
end
end K87
namespace Bl
open L2
end Bl
namespace Wd
open Bl L2
abbrev ex (l:ag)(k:Nat):ag:=(l.set (k-1)<|l.getD k 0).set k<|l.getD (k-1) 0
def Qz(l:ag)(k:Nat):(ex l k).length=l.length:=by unfold ex;rw[bL,bL]
end Wd
namespace K87
open PySem L2 Am
meta abbrev wd (w:am):ae:=w.map λk:Nat=>A.int (k:Int)
def VC{l:ag}{k:Nat}{i:Int}(h:i=k)(j:k<l.length):oA (l.map A.int) i=some (.int<|l.getD k 0):=tY h<|by rw[aX,aN j];rfl
def L5{l:ag}{k:Nat}:((l.map A.int).set (k-1)<|.int<|l.getD k 0).set k (.int<|l.getD (k-1) 0)=(Wd.ex l k).map A.int:=by
 unfold Wd.ex;rw[fZ,fZ]
def LK{xs:ag}{k:Nat}(h1:1<=k)(J:k<xs.length)(L:xs.length<=1000):∃S',kH [.tup<|xs.map .int,.int k] S=.ok (.tup<|(Wd.ex xs k).map .int) S'/\jH S S':=by
 have e1:=RU (S:=S) (n:=(xs.length:Int)) (k:=(k:Int)) (by omega) (by omega);have m:oA (xs.map A.int) (k:Int)=some (.int<|xs.getD k 0):=VC rfl (by omega);have j:oA (xs.map A.int) ((k:Int)-1)=some (.int<|xs.getD (k-1) 0):=VC (k:=k-1) (by omega) (by omega);have p:zj xs.length ((k:Int)-1)=some (k-1):=oJ (by omega) (by omega);have d:zj xs.length (k:Int)=some k:=oJ rfl (by omega);have f:gQ (S++[O.lst<|xs.map .int]) S.length=some (xs.map .int):=iu;have g:∀ys,gQ ((S++[O.lst<|xs.map .int]).set S.length<|.lst ys) S.length=some ys:=λys=>j4 (by simp);have e2:jx [.tup<|xs.map .int,.int k,.int<|(k:Int)+1] S=.ok (.tup<|(Wd.ex xs k).map .int) (((S++[O.lst<|xs.map .int]).set S.length<|.lst<|(xs.map A.int).set (k-1)<|.int<|xs.getD k 0).set S.length<|.lst<|(Wd.ex xs k).map .int):=by
  unfold jx kr ku;dsimp[iG,bools,jD,Nat.reduceAdd,Nat.reduceSub,f,show(k:Int)+1-1=k by omega,m,j,jP<|show 2<=sizeLine by decide,jP<|show 2=2 from rfl,aK,p,g,bL,d,L5];rw[j4<|by simp];dsimp[iG,bools]
 unfold kH qy qN;dsimp[iG,mL,bools,jD,Nat.reduceAdd,Nat.reduceSub,aK,e1,cj,e2];exact⟨_,rfl,((Kp.refl.lay).set<|.inr<|aO _).set<|.inr<|aO _⟩
meta abbrev tN (j:ag)(ks:am):ag:=ks.foldl Wd.ex j
def z8(j:ag):∀ks:am,(tN j ks).length=j.length:=λks=>by
 induction ks generalizing j with
 | nil=>rfl
 | cons k ks d=>show(tN (Wd.ex j k) ks).length=_;rw[d,Wd.Qz]
def OB{J:ag}{ks:am}(L:gQ S W=some (wd ks))(h:∀k∈ks,1<=k/\k<J.length)(U:J.length<=1000)(Z:ks.length<=1000):∃S',nI [tI J,.ref W] S=.ok (tI<|tN J ks) S'/\jH S S':=by
 unfold nI vX wF;dsimp[iG,mL,bools,jD,Nat.reduceAdd,Nat.reduceSub];refine Er (n:=W) (xs:=wd ks) (S1:=S) (ud (by dsimp[iG,bools]) L) (λi τ S'=>∃g,τ=[tI<|tN J<|ks.take i,.ref W,g]/\gQ S' W=some (wd ks)/\jH S S') (λr=>∃S',RS.end (RS.seq r<|iN<|gJ 0)=.ok (tI<|tN J ks) S'/\jH S S') ⟨_,rfl,L,Kp.refl⟩ (λi τ S' h=>h.choose_spec.2.1) ?_ ?_
 ·rintro i x τ S' C ⟨g,rfl,d,j⟩;obtain⟨k,f,rfl⟩:∃k,ks[i]?=some k/\x=.int (k:Int):=by
   rw[bE]at C;obtain⟨k,a,b⟩:=aV.mp C;exact⟨k,a,b.symm⟩
  have B:=h k<|bI f;obtain⟨p,e2,k2⟩:=LK (S:=S') (xs:=tN J<|ks.take i) B.1 (by rw[z8];exact B.2) (by rw[z8];exact U);refine⟨_,S',rfl,.inl ⟨[tI<|tN J<|ks.take<|i+1,.ref W,.int k],p,?_,_,rfl,k2.lst _ _ (λz=>z) d,j.trans k2⟩⟩;have m:ks.take (i+1)=ks.take i++[k]:=by
   obtain⟨hi,e⟩:=aM.mp f;rw[List.take_succ_eq_append_getElem hi,e]
  have F:(tI<|tN J<|ks.take i).jJ=false:=rfl;unfold xD;have e2:kH [tI<|tN J<|ks.take i,.int k] S'=.ok (tI<|Wd.ex (tN J<|ks.take i) k) p:=e2;dsimp[iG,mL,bools,u5 F,e2];rw[m];unfold tN;rw[List.foldl_append];rfl
 ·rintro τ S' ⟨g,rfl,d,j⟩;have m:ks.take (wd ks).length=ks:=by rw[aK,List.take_length]
  rw[m];exact⟨S',rfl,j⟩
meta abbrev i7 (ws:ar):Str:=Str.join ⟨#[32]⟩ ws
def Hy{ws:ar}(hw:yS ws)(j:ws≠[])(J:ws.length<=300):1<=(i7 ws).length/\(i7 ws).length<=40000:=by
 have h1:=Tx.Bq ⟨#[32]⟩ ws j λt d=>(hw t d).1;have f:=Tx.pZ ⟨#[32]⟩ (B:=100) ws λt d=>(hw t d).2.1;rw[Sp.Ad]at f;exact⟨h1,bN f<|by omega⟩
def ME{S:gS}{ws:ar}(hw:yS ws)(j:ws≠[])(J:ws.length<=300):rT (.str<|i7 ws) [.str<|PySem.Str.ofString " "] S=.ok (.ref S.length) (S++[.lst<|ws.map .str]):=by
 obtain⟨h1,g⟩:=Hy hw j J;have sp:Txt.split (i7 ws) ⟨#[32]⟩=ws:=Sp.wo ⋯ j (λt d=>(hw t d).2.2) h1;have f:rT (.str<|i7 ws) [.str<|PySem.Str.ofString " "] S=.ok (.ref S.length) (S++[.lst<|(Txt.split (i7 ws) ⟨#[32]⟩).map .str]):=
  k_ ⟨rfl,by rw[bD];omega,by rw[show Txt.split (i7 ws) (PySem.Str.ofString " ")=ws from sp,bD];omega⟩
 rw[f,sp]
def UE(a b:A)(xs:ae):nH (a::b::xs) (some 2) none=xs:=by
 cases xs with
 | nil=>rfl
 | cons c xs=>
  have:=qS (a::b::c::xs) 1 (by simp);rw[show((1:Nat):Int)+1=2 from rfl]at this;rw[this];rfl
def US(a:A)(xs:ae):nH (a::xs) (some 1) none=xs:=by
 have:=qS (a::xs) 0 (by simp);rw[show((0:Nat):Int)+1=1 from rfl]at this;rw[this];rfl
abbrev zA:Sm:=
 ir (om (mF<|gT (l7 false) (gJ 3)<|eC<|.str<|PySem.Str.ofString "undo")
 (iN<|iX "Desk" "undo" ji (gJ 0) gR)
 jF)
 (ir (om (mF<|gT (l7 false) (gJ 3)<|eC<|.str<|PySem.Str.ofString "keep")
 (iN<|iX "Desk" "put" iM (gJ 0)<|gK (gT jv (gJ 2)<|eC<|.int 1)<|gK (oG jh<|gK (BR nP (eC<|.str<|PySem.Str.ofString " ")<|gK (zl (gJ 2) (kL<|eC<|.int 2) kW) gR) gR) gR)
 jF)
 (ir (om (mF<|gT (l7 false) (gJ 3)<|eC<|.str<|PySem.Str.ofString "lead")
 (ir (iO (oG kI<|gK (BR nP (eC<|.str<|PySem.Str.ofString " ")<|gK (zl (gJ 2) (kL<|eC<|.int 2) kW) gR) gR)<|jc 4)
 (iN<|iX "Desk" "put" iM (gJ 0)<|gK (gT jv (gJ 2)<|eC<|.int 1)<|gK (oG nI<|gK (iX "Desk" "named" iz (gJ 0)<|gK (gT jv (gJ 2)<|eC<|.int 1) gR)<|gK (gJ 4) gR) gR))
 jF)
 (ir (om (mF<|gT (l7 false) (gJ 3)<|eC<|.str<|PySem.Str.ofString "drop")
 (iN<|iX "Desk" "drop" jX (gJ 0)<|gK (gT jv (gJ 2)<|eC<|.int 1) gR)
 jF)
 (ir (om (mF<|gT (l7 false) (gJ 3)<|eC<|.str<|PySem.Str.ofString "back")
 (iN<|iX "Desk" "put" iM (gJ 0)<|gK (gT jv (gJ 2)<|eC<|.int 2)<|gK (eFn qG<|gK (iX "Desk" "named" iz (gJ 0)<|gK (gT jv (gJ 2)<|eC<|.int 1) gR) gR) gR)
 jF)
 (ir (iO (lE [none,some 0] (lq<|zl (gJ 2) (kL<|eC<|.int 1) kW) (jc 0) lg<|iX "Desk" "named" iz (gJ 1)<|gK (gJ 0) gR)<|jc 5)
 (iN<|Q5 (mF<|gT (l7 false) (iA (f1 lu)<|gK (gJ 5) gR)<|eC<|.int 1) (oG jG<|gK (gJ 3)<|gK (gT jv (gJ 5)<|eC<|.int 0) gR)<|UM))))))
section
variable {S:gS}{d o p:Nat}{nm:ar}{f:Str->Option (ag)}{past:Hi}{kw:Str}{ws:ar}
def qa(D:Dk S d o p nm f past)(hw:yS (kw::ws))(J:ws.length<300)(hf:∀(T:gS) (W:Nat),gQ T W=some ((kw::ws).map .str)->∃S',jY [.ref W] T=.ok (.bl true) S'/\jH T S'){Q:R A->Prop}
  (go:∀S2,gQ S2 S.length=some ((kw::ws).map .str)->S.length<S2.length->jH S S2->Dk S2 d o p nm f past->Q (RS.end<|RS.seq (.nx [.ref d,.str<|i7 (kw::ws),.ref S.length,.str kw,.unb,.unb] S2) zA)):Q (g8 [.ref d,.str<|i7 (kw::ws)] S):=by
 have sp:=ME (S:=S) hw (by simp) (by rw[bq];omega);obtain⟨S1,h1⟩:∃S1,S1=S++[O.lst<|(kw::ws).map A.str]:=⟨_,rfl⟩;rw[<- h1]at sp;have k:gQ S1 S.length=some ((kw::ws).map .str):=by rw[h1];exact iu
 have k1:jH S S1:=by rw[h1];exact Kp.refl.lay
 obtain⟨S2,e2,k2⟩:=hf S1 S.length k;have j:=k2.lst _ _ (λz=>z) k;have m:jv (.ref S.length) (.int 0) S2=.ok (.str kw) S2:=by show opt (gQ S2 S.length) _=_;rw[j,ie,aY,Rg];rfl
 have k3:=k1.trans k2;have g:=go S2 j (iP j) k3<|D.kp k3 (λz=>z) (λz=>z) λz=>z;unfold g8 sy sC;dsimp[iG,mL,bools,jD,Nat.reduceAdd,Nat.reduceSub,uW,k_<|show A.isStr (.str<|i7 (kw::ws))=true from rfl,sp,e2,cj,m];exact g
def xF{S:gS}{a:Str}:l7 false (.str a) (.str b) S=.ok (.bl<|a == b) S:=by
 have:yy S 12 (.str a) (.str b)=some (a == b):=rfl;rw[xA this]
end
end K87
namespace K87
open PySem L2 Am
def Vj:((Str.ofString "undo") == (Str.ofString "undo"))=true:=by decide +kernel
def VJ:((Str.ofString "keep") == (Str.ofString "undo"))=false:=by decide +kernel
def VI:((Str.ofString "keep") == (Str.ofString "keep"))=true:=by decide +kernel
def V5:((Str.ofString "lead") == (Str.ofString "undo"))=false:=by decide +kernel
def Wq:((Str.ofString "lead") == (Str.ofString "keep"))=false:=by decide +kernel
def Wo:((Str.ofString "lead") == (Str.ofString "lead"))=true:=by decide +kernel
def Wf:((Str.ofString "drop") == (Str.ofString "undo"))=false:=by decide +kernel
def VU:((Str.ofString "drop") == (Str.ofString "keep"))=false:=by decide +kernel
def Wi:((Str.ofString "drop") == (Str.ofString "lead"))=false:=by decide +kernel
def V6:((Str.ofString "drop") == (Str.ofString "drop"))=true:=by decide +kernel
def Wh:((Str.ofString "show") == (Str.ofString "undo"))=false:=by decide +kernel
def Wn:((Str.ofString "show") == (Str.ofString "keep"))=false:=by decide +kernel
def kwd:((Str.ofString "show") == (Str.ofString "lead"))=false:=by decide +kernel
def Ws:((Str.ofString "show") == (Str.ofString "drop"))=false:=by decide +kernel
def V4:((Str.ofString "show") == (Str.ofString "back"))=false:=by decide +kernel
def VT:((Str.ofString "show") == (Str.ofString "show"))=true:=by decide +kernel
def pL{kw:Str}(h:kw = "keep" \/ kw = "lead" \/ kw = "drop" \/ kw = "show" \/ kw = "undo"):1<=kw.length/\kw.length<=100/\32∉C kw:=by
 rcases h with rfl|rfl|rfl|rfl|rfl<;>decide +kernel
def rW{x:Str}(h:j6 x):1<=x.length/\x.length<=100/\32∉C x:=⟨h.1,bN h.2.1 ⋯,λz=>by have:=h.2.2 32 z;omega⟩
def C3{xs:ag}(h:vA xs):∀t∈xs.map Tx.tx,1<=t.length/\t.length<=100/\32∉C t:=λt f=>by
 obtain⟨x,d,rfl⟩:=bJ.mp f;have:=ye<|h x d;exact⟨this.2.1,bN this.2.2.1 ⋯,no_space<|h x d⟩
def ja{w:Str}(h:1<=w.length/\w.length<=100/\32∉C w)(hs:yS ws):yS (w::ws):=λt d=>by
 rcases bG.mp d with rfl|z
 ·exact h
 ·exact hs t z
def nN:yS []:=λt h=>absurd h gy
section
variable {S:gS}{d o p:Nat}{nm:ar}{f:Str->Option (ag)}{past:Hi}{x:Str}
def G2{q:Str×Option (ag)}(D:Dk S d o p nm f<|past++[q])(J:q.1∈nm)(hn:nm.length<1000)(hd:q.2=none->(f q.1).isSome=true) :
  ∃S',g8 [.ref d,.str<|i7 ["undo"]] S=.ok (.str "ok") S'/\Dk S' d o p nm (kY f q.1 q.2) past/\Kp (λn=>n=d\/n=o\/n=p) S S':=by
 refine qa (Q:=λr=>∃S',r=.ok (.str "ok") S'/\Dk S' d o p nm (kY f q.1 q.2) past/\Kp (λn=>n=d\/n=o\/n=p) S S') D (ja (pL<|by simp) nN) (by simp) (λT W k=>xh (xs:=[]) k (show jI iU "undo" = some 0 by decide +kernel) ∅ (λy h=>absurd h gy) (by simp) (ja (pL<|by simp) nN)) λC F G k2 g=>?_;obtain⟨j,e3,B,k3⟩:=Nj g J hn hd;refine⟨j,?_,B,(Kp.of0 k2).trans k3⟩;have m:iX "Desk" "undo" ji (gJ 0) gR [.ref d,.str<|i7 ["undo"],.ref S.length,.str "undo",.unb,.unb] C=.ok (.str "ok") j:=by
  rw[dm g<|by dsimp[iG,bools]];exact e3
 unfold zA;dsimp[iG,mL,bools,xF,Vj,↓m]
def BJ(D:Dk S d o p nm f past)(hp:past.length<=20)(hn:j6 x)(U:f x=some xs) :
  ∃p' S',g8 [.ref d,.str<|i7 ["drop",x]] S=.ok (.str "ok") S'/\S.length<=p'/\Dk S' d o p' nm (kY f x none) (rem past x<|f x)/\Kp (λn=>n=d\/n=o\/n=p) S S':=by
 have hw:yS ["drop",x]:=ja (pL<|by simp)<|ja (rW hn) nN;refine qa (Q:=λr=>∃p' S',r=.ok (.str "ok") S'/\S.length<=p'/\Dk S' d o p' nm (kY f x none) (rem past x<|f x)/\Kp (λn=>n=d\/n=o\/n=p) S S') D hw (by simp) (λT W G=>xh (xs:=[x]) G (show jI iU "drop" = some 1 by decide +kernel) ∅ (λy h=>by rw[bB]at h;rw[h];exact hn) (by simp) hw) λg C L k2 k=>?_;obtain⟨p',j,e3,K,B,k3⟩:=Mj k hp U;have J:=k2.len;refine⟨p',j,?_,by omega,B,(Kp.of0 k2).trans k3⟩;have F:jv (.ref S.length) (.int 1) g=.ok (.str x) g:=by show opt (gQ g S.length) _=_;rw[C,ie,aY,aY,QE];rfl
 have m:iX "Desk" "drop" jX (gJ 0) (gK (gT jv (gJ 2)<|eC<|.int 1) gR) [.ref d,.str<|i7 ["drop",x],.ref S.length,.str "drop",.unb,.unb] g=.ok (.str "ok") j:=by
  rw[dm k<|by dsimp[iG,bools]];dsimp[iG,bools,F,e3]
 unfold zA;dsimp[iG,mL,bools,xF,Wf,VU,Wi,V6,↓m]
def Hz{ws:ar}(J:gQ S2 W=some ((kw::x::ws).map .str))(hw:yS ws)(L:ws.length<=200){a c:A}:BR nP (eC<|.str<|PySem.Str.ofString " ") (gK (zl (gJ 2) (kL<|eC<|.int 2) kW) gR) (a::b::.ref W::c::τ) S2=.ok (.str<|Str.join ⟨#[32]⟩ ws) (S2++[O.lst<|ws.map .str]):=by
 have j:nP (.str<|PySem.Str.ofString " ") [.ref S2.length] (S2++[O.lst<|ws.map A.str])=.ok (.str<|Str.join ⟨#[32]⟩ ws) (S2++[O.lst<|ws.map A.str]):=zR (z:=⟨#[32]⟩) iu (by
  have:=Tx.CM (B:=100) ws λt f=>(hw t f).2.1;rw[Sp.Ad];omega)
 have d:nH ((kw::x::ws).map A.str) (some 2) none=ws.map .str:=UE _ _ _;dsimp[iG,bools,uW,k_<|show A.isStr (.str<|PySem.Str.ofString " ")=true from rfl,J,d,j]
def wA(D:Dk S d o p nm f past)(hp:past.length<=20)(hn:j6 x)(hx:x∈nm)(hm:nm.length<1000){xs:ag}{n:Nat}(px:xs.Perm<|jj 1<|(n:Int)+1)(h1:1<=n)(h2:n<=20)(hc:(f x).isSome=true\/∀kvs,Rp nm kvs f->kvs.length<40) :
  ∃p' S',g8 [.ref d,.str<|i7 ("keep" :: x::xs.map Tx.tx)] S=.ok (.str "ok") S'/\S.length<=p'/\Dk S' d o p' nm (kY f x<|some xs) (rem past x<|f x)/\Kp (λn=>n=d\/n=o\/n=p) S S':=by
 obtain⟨lx,ne⟩:=lR px h1;have sm:=we px h2;have F:yS (xs.map Tx.tx):=C3 sm;have hw:yS ("keep" :: x::xs.map Tx.tx):=ja (pL<|by simp)<|ja (rW hn) F;refine qa (Q:=λr=>∃p' S',r=.ok (.str "ok") S'/\S.length<=p'/\Dk S' d o p' nm (kY f x<|some xs) (rem past x<|f x)/\Kp (λn=>n=d\/n=o\/n=p) S S') D hw (by simp;omega) (λT W J=>by
  cases xs with
  | nil=>exact absurd rfl ne
  | cons y ys=>exact CC J (.inl rfl) hn hw) λS2 C l2 k2 G=>?_
 have N:=Hz (S2:=S2) (W:=S.length) (kw := "keep") (x:=x) (ws:=xs.map Tx.tx) C F (by rw[aK];omega) (a:=.ref d) (b:=.str<|i7 ("keep" :: x::xs.map Tx.tx)) (c:=.str "keep") (τ:=[.unb,.unb]);obtain⟨k,U,K⟩:=Kg (S:=S2++[O.lst<|(xs.map Tx.tx).map A.str]) px h1 h2;have g:jH S2 k:=(Kp.refl.lay:jH S2<|S2++[O.lst<|(xs.map Tx.tx).map A.str]).trans K;have Z:=G.kp g (λz=>z) (λz=>z) λz=>z;obtain⟨p',B,Y,lp,P,k5⟩:=GZ (xs:=xs) Z hp hx hm hc;have kl:=k2.len;have V:=g.len;refine⟨p',B,?_,by omega,P,((Kp.of0 k2).trans<|Kp.of0 g).trans k5⟩;have L:jv (.ref S.length) (.int 1) S2=.ok (.str x) S2:=by show opt (gQ S2 S.length) _=_;rw[C,ie,aY,aY,QE];rfl
 have j:jh [.str<|Str.join ⟨#[32]⟩<|xs.map Tx.tx] (S2++[O.lst<|(xs.map Tx.tx).map A.str])=.ok (tI xs) k:=U;have m:iX "Desk" "put" iM (gJ 0) (gK (gT jv (gJ 2)<|eC<|.int 1)<|gK (oG jh<|gK (BR nP (eC<|.str<|PySem.Str.ofString " ")<|gK (zl (gJ 2) (kL<|eC<|.int 2) kW) gR) gR) gR) [.ref d,.str<|i7 ("keep" :: x::xs.map Tx.tx),.ref S.length,.str "keep",.unb,.unb] S2=.ok (.str "ok") B:=by
  rw[dm G<|by dsimp[iG,bools]];dsimp[iG,mL,bools,L,↓N,j,Y]
 unfold zA;dsimp[iG,mL,bools,xF,VJ,VI,↓m]
end
end K87
namespace K87
open PySem L2 Am
section
variable {S:gS}{d o p:Nat}{nm:ar}{f:Str->Option (ag)}{past:Hi}{x:Str}
meta abbrev Q3 (ks:am):ag:=ks.map λk:Nat=>(k:Int)
abbrev xH (ks:am):ar:=if ks=[]then["-"]else(Q3 ks).map Tx.tx
def QL(ks:am):(Q3 ks).map A.int=wd ks:=by rw[cV];rfl
def DF{ks:am}:Q3 ks=[] ↔ ks=[]:=List.map_eq_nil_iff
def LV(ks:am):Str.join ⟨#[32]⟩ (xH ks)=if Q3 ks=[]then Str.ofString "-" else jW (Q3 ks):=by
 unfold xH;by_cases c:ks=[]
 ·rw[aT c,aT<|DF.mpr c];rfl
 ·rw[aQ c,aQ λz=>c<|DF.mp z];rfl
def Pg{ks:am}(h:∀k∈ks,1<=k/\k<20):yS (xH ks):=by
 unfold xH;by_cases c:ks=[]
 ·rw[aT c];exact ja ∅ nN
 ·rw[aQ c];exact C3 λy hy=>by
   obtain⟨k,d,rfl⟩:=bJ.mp hy;have:=h k d;omega
def PB(ks:am):(xH ks).length=if ks=[]then 1 else ks.length:=by
 unfold xH;split
 ·rfl
 ·rw[aK,aK]
def IB(D:Dk S d o p nm f past)(hp:past.length<=20)(hn:j6 x)(hx:x∈nm)(hm:nm.length<1000){xs:ag}(hf:f x=some xs)(hl:xs.length<=20){ks:am}(hk:∀k∈ks,1<=k/\k<xs.length)(hkl:ks.length<=190) :
  ∃p' S',g8 [.ref d,.str<|i7 ("lead" :: x::xH ks)] S=.ok (.str "ok") S'/\S.length<=p'/\Dk S' d o p' nm (kY f x<|some<|tN xs ks) (rem past x<|f x)/\Kp (λn=>n=d\/n=o\/n=p) S S':=by
 have B:∀k∈ks,1<=k/\k<20:=λk h=>by have:=hk k h;omega
 have Z:=Pg B;have C:=PB ks;have hw:yS ("lead" :: x::xH ks):=ja (pL<|by simp)<|ja (rW hn) Z;refine qa (Q:=λr=>∃p' S',r=.ok (.str "ok") S'/\S.length<=p'/\Dk S' d o p' nm (kY f x<|some<|tN xs ks) (rem past x<|f x)/\Kp (λn=>n=d\/n=o\/n=p) S S') D hw (by rw[bq,C];split<;>omega) (λT W P=>by
  cases L:xH ks with
  | nil=>rw[L]at C;revert C;split<;>(intro z;simp at z);next c=>exact absurd (List.length_eq_zero_iff.mp z.symm) c
  | cons y ys=>rw[L]at P hw;exact CC P (.inr rfl) hn hw) λS2 N l2 k2 D2=>?_
 have j2:=Hz (S2:=S2) (W:=S.length) (kw := "lead") (x:=x) (ws:=xH ks) N Z (by rw[C];split<;>omega) (a:=.ref d) (b:=.str<|i7 ("lead" :: x::xH ks)) (c:=.str "lead") (τ:=[.unb,.unb]);obtain⟨V,j,U,J,hW4,k4⟩:=O9 (S:=S2++[O.lst<|(xH ks).map A.str]) (xs:=Q3 ks) (λy hy=>by
  obtain⟨k,h,rfl⟩:=bJ.mp hy;have:=B k h;omega)<|by rw[aK];omega
 rw[<- LV]at U;rw[QL]at J;have g:jH S2 j:=(Kp.refl.lay:jH S2<|S2++[O.lst<|(xH ks).map A.str]).trans k4;have F:=D2.kp g (λz=>z) (λz=>z) λz=>z;obtain⟨S5,e5,k5⟩:=OB (S:=j) J hk (by omega) (by omega);have D5:=F.kp k5 (λz=>z) (λz=>z) λz=>z;obtain⟨p',K,e6,lp,D6,k6⟩:=GZ (xs:=tN xs ks) D5 hp hx hm (.inl<|by rw[hf];rfl);have kl:=k2.len;have kl2:=g.len;have kl3:=k5.len;refine⟨p',K,?_,by omega,D6,(((Kp.of0 k2).trans<|Kp.of0 g).trans<|Kp.of0 k5).trans k6⟩;have G:=g.lst _ _ (λz=>z) N;have Y:jv (.ref S.length) (.int 1) j=.ok (.str x) j:=by show opt (gQ j S.length) _=_;rw[G,ie,aY,aY,QE];rfl
 have mn:iX "Desk" "named" iz (gJ 0) (gK (gT jv (gJ 2)<|eC<|.int 1) gR) [.ref d,.str<|i7 ("lead" :: x::xH ks),.ref S.length,.str "lead",.ref V,.unb] j=.ok (tI xs) j:=by
  rw[dm F<|by dsimp[iG,bools]];dsimp[iG,bools,Y,tX F hf]
 have m:iX "Desk" "put" iM (gJ 0) (gK (gT jv (gJ 2)<|eC<|.int 1)<|gK (oG nI<|gK (iX "Desk" "named" iz (gJ 0)<|gK (gT jv (gJ 2)<|eC<|.int 1) gR)<|gK (gJ 4) gR) gR) [.ref d,.str<|i7 ("lead" :: x::xH ks),.ref S.length,.str "lead",.ref V,.unb] j=.ok (.str "ok") K:=by
  rw[dm F<|by dsimp[iG,bools]];dsimp[iG,mL,bools,Y,↓mn,e5,e6]
 unfold zA;dsimp[iG,mL,bools,xF,V5,Wq,Wo,↓j2,U,↓m]
def IW{xs:ag}(h:vA xs)(J:xs.length<=200)(j:xs≠[]):∃S',jG [.str "show",tI xs] T=.ok (.str<|jW xs) S'/\jH T S':=by
 obtain⟨S',e,k⟩:=QU (S:=T) h J;rw[aQ j]at e;have e1:kQ [tI xs] T=.ok (.str<|jW xs) S':=by
  unfold kQ pH oX;have d:(tI xs).jJ=false:=rfl;have e:jw [tI xs] T=.ok (.str<|jW xs) S':=e;dsimp[iG,mL,bools,jD,Nat.reduceAdd,Nat.reduceSub,u5 d,e]
 refine⟨S',?_,k⟩;have d:(tI xs).jJ=false:=rfl;unfold jG nq nE;dsimp[iG,mL,bools,jD,Nat.reduceAdd,Nat.reduceSub,xF,VT,u5 d,e1]
def H_{S2:gS}(j:gQ S2 S.length=some ((["show",x]:ar).map .str)){a c:A}:lq (zl (gJ 2) (kL<|eC<|.int 1) kW) (a::b::.ref S.length::c::τ) S2=.ok (kM S2.length ([A.str x]:ae).length) (S2++[O.lst [A.str x]]):=by
 have d:nH ((["show",x]:ar).map A.str) (some 1) none=[A.str x]:=US _ _;refine ud (S:=S2) ?_ iu;dsimp[iG,bools,j,d]
def Bp(D:Dk S d o p nm f past)(hn:j6 x){xs:ag}{n:Nat}(hf:f x=some xs)(px:xs.Perm<|jj 1<|(n:Int)+1)(h1:1<=n)(h2:n<=20):∃S',g8 [.ref d,.str<|i7 ["show",x]] S=.ok (.str<|jW xs) S'/\jH S S':=by
 obtain⟨lx,ne⟩:=lR px h1;have hw:yS ["show",x]:=ja (pL<|by simp)<|ja (rW hn) nN;refine qa (Q:=λr=>∃S',r=.ok (.str<|jW xs) S'/\jH S S') D hw (by simp) (λT W U=>xh (xs:=[x]) U (show jI iU "show" = some 1 by decide +kernel) ∅ (λy h=>by rw[bB]at h;rw[h];exact hn) (by simp) hw) λj P l2 k2 Y=>?_;obtain⟨r1,_⟩:=yI (cl := "NoName") (cap:=[some 0]) (e:=iX "Desk" "named" iz (gJ 1)<|gK (gJ 0) gR) (τ:=[.ref d,.str<|i7 ["show",x],.ref S.length,.str "show",.unb,.unb]) (H_ P) iu (λ_=>true) (λ_=>tI xs) (λy hy T k=>by
  have hy:y=.str x:=by simpa using hy
  subst hy;have C:=Y.kp ((Kp.refl.lay:jH j<|j++[O.lst [A.str x]]).trans k) (λz=>z) (λz=>z) λz=>z;refine⟨λ_=>⟨T,?_,Kp.refl⟩,λz=>(by cases z)⟩;show iX "Desk" "named" iz (gJ 1) (gK (gJ 0) gR) [.str x,.ref d] T=_;rw[dm C<|by dsimp[iG,bools]];dsimp[iG,bools,tX C hf])<|by simp
 obtain⟨g,e3,k3⟩:=r1 (by rw[cg];intro _ _;rfl);obtain⟨T,m⟩:∃T,T=g++[O.lst<|[A.str x].map λ_=>tI xs]:=⟨_,rfl⟩;rw[<- m]at e3;have F:gQ T g.length=some [tI xs]:=by rw[m];exact iu
 have G:jH g T:=by rw[m];exact Kp.refl.lay
 obtain⟨L,Z,V⟩:=IW (T:=T) (we px h2) (by omega) ne;have B:jH j g:=(Kp.refl.lay:jH j<|j++[O.lst [A.str x]]).trans k3;refine⟨L,?_,((k2.trans B).trans G).trans V⟩;have J:lu (.ref g.length) T=.ok (.int 1) T:=by show opt (gQ _ _) _=_;rw[F];rfl
 have N:jv (.ref g.length) (.int 0) T=.ok (tI xs) T:=by show opt (gQ _ _) _=_;rw[F,ie,Rg];rfl
 have K:∀T:gS,l7 false (.int 1) (.int 1) T=.ok (.bl true) T:=λT=>rfl;unfold zA;dsimp[iG,mL,bools,xF,Wh,Wn,kwd,Ws,V4,↓e3,J,K,N,Z]
end
end K87
namespace K87
open PySem L2 Am
abbrev GG:Str:=Str.ofString "abcdefghijklmnopqrstuvwxyz"
def RJ:∀k:Nat,k<26->oA GG.cps.toList (k:Int)=some (97+k):=by decide +kernel
def Pd:GG.length<=16777216:=by decide +kernel
def EL{k:Nat}(h:k<26){i:Int}(e:i=k):jv (.str GG) (.int i) S=.ok (.str ⟨#[97+k]⟩) S:=by
 subst e;show gd (GG.length<=sizeLine) (opt (oA GG.cps.toList (k:Int)) _)=_;rw[k_<|by rw[bD];exact Pd,RJ k h];rfl
def pF{a:Str}(h:C a=C b):a=b:=by
 cases a with|mk a=>cases b with|mk b=>exact cW Str.mk<|Array.toList_inj.mp h
def jb(a b:Str):C (a++b)=C a++C b:=Sp.uN a b
abbrev MC (B i:Nat):am:=[97+(B+i) % 26,97+(B+i) / 26]
abbrev Bo (a:Nat)(x:Str):am:=if a=1 then(C x).take 2 else(C x).reverse.take 2
abbrev zL (a B i:Nat):am:=if i=0 then[97+B]else if a=1 then MC B i else(MC B i).reverse
def L6{a:Nat}(h:zL a B i=zL a B j):i=j:=by
 unfold zL at h;by_cases hi:i=0
 ·by_cases d:j=0
  ·omega
  ·rw[aT hi,aQ d]at h;have:=cW List.length h;split at this<;>simp[MC]at this
 ·by_cases d:j=0
  ·rw[aQ hi,aT d]at h;have:=cW List.length h;split at this<;>simp[MC]at this
  ·rw[aQ hi,aQ d]at h;have:MC B i=MC B j:=by
    split at h
    ·exact h
    ·exact List.reverse_inj.mp h
   unfold MC at this;simp at this;omega
def ou{a b:Str}(h:a.length+b.length<=16777216):iK (.str a) (.str b) S=.ok (.str<|a++b) S:=k_<|by rw[bD];exact h
def V9{k:Nat}(h:k<26):j6 ⟨#[97+k]⟩:=⟨by show 1<=1;decide,by show 1<=8;decide,λc hc=>by
 have:c=97+k:=by simpa[C]using hc
 omega⟩
abbrev Lw (n:Nat)(x:Str):Prop:=x.length<=n/\∀c∈C x,97<=c/\c<=122
def IQ{S:gS}{n:Int}(h:rj S b)(h1:1<=n)(h2:n<=41):∃(L:Nat) (S':gS) (nm:ar),lP [.ref b,.int n] S=.ok (.ref L) S'/\gQ S' L=some (nm.map .str)/\nm.length=n.toNat/\(∀x∈nm,j6 x)/\nm.Nodup/\S.length<=L/\rj S' b/\Kp (·=b) S S':=by
 have hbS:b<S.length:=by obtain⟨_,_,e,_⟩:=h;exact iP e
 obtain⟨a,S1,e1,a0,a1,hb1,k1⟩:=digit (m:=2) h ⋯ ⋯;obtain⟨B,S2,e2,B0,B1,hb2,k2⟩:=digit (m:=26) hb1 ⋯ ⋯;obtain⟨G,h3⟩:∃G,G=S2++[O.lst [A.str ⟨#[97+B.toNat]⟩]]:=⟨_,rfl⟩;have k12:=k1.trans k2;have l12:=k12.len;have w3:gQ G S2.length=some ([(⟨#[97+B.toNat]⟩:Str)].map .str):=by rw[h3];exact iu
 have k3:Kp (·=b) S G:=by rw[h3];exact k12.lay
 have hb3:rj G b:=by rw[h3];exact hb2.kp (c:=λ_=>False) Kp.refl.lay λz=>z
 have q0:jv (.str<|PySem.Str.ofString "abcdefghijklmnopqrstuvwxyz") (.int B) S2=.ok (.str ⟨#[97+B.toNat]⟩) S2:=EL (by omega) (by omega);unfold lP qB qf;dsimp[iG,mL,bools,jD,Nat.reduceAdd,Nat.reduceSub,e1,e2,q0];rw[<- h3];refine tW (lo:=1) (hi:=n) (S1:=G) (HQ (S:=G) (S1:=G) (S2:=G) (by dsimp[iG,bools]) (by dsimp[iG,bools]) (yM (by omega)<|by omega)<|yM (by omega)<|by omega)
  (λi τ S'=>∃(x6 x7 x8 F:A) (fs:ar),τ=[.ref b,.int n,.str GG,.int a,.int B,.ref S2.length,x6,x7,x8,F]/\gQ S' S2.length=some (fs.map .str)/\fs.map (Bo a.toNat)=(List.range<|i+1).map (zL a.toNat B.toNat)/\(∀x∈fs,j6 x)/\rj S' b/\Kp (·=b) S S')
  (λr=>∃(L:Nat) (S':gS) (nm:ar),RS.end (RS.seq r<|iN<|gJ 5)=.ok (.ref L) S'/\gQ S' L=some (nm.map .str)/\nm.length=n.toNat/\(∀x∈nm,j6 x)/\nm.Nodup/\S.length<=L/\rj S' b/\Kp (·=b) S S') ⟨_,_,_,_,[⟨#[97+B.toNat]⟩],rfl,w3,?_,?_,hb3,k3⟩ ?_ ?_
 ·show[Bo a.toNat ⟨#[97+B.toNat]⟩]=[zL a.toNat B.toNat 0];unfold Bo zL;rw[aT rfl];split<;>rfl
 ·intro x hx;rw[bB]at hx;rw[hx];exact V9 (by omega)
 ·rintro i τ V hi ⟨x6,x7,x8,F,fs,rfl,w4,Z,hn,N,k4⟩;left;have hfl:fs.length=i+1:=by
   have:=cW List.length Z;simpa using this
  obtain⟨j,hj⟩:∃j:Nat,j=i+1:=⟨_,rfl⟩;have ej:(1+(i:Int))=(j:Int):=by omega
  have m1:rg (.int<|B+(1+(i:Int))) (.int 26) V=.ok (.int<|(B+(1+(i:Int))) % 26) V:=vg ⋯;have m2:w_ (.int<|B+(1+(i:Int))) (.int 26) V=.ok (.int<|(B+(1+(i:Int))) / 26) V:=zQ ⋯ ⋯;have p1:∀T:gS,jv (.str GG) (.int<|(B+(1+(i:Int))) % 26) T=.ok (.str ⟨#[97+(B.toNat+j) % 26]⟩) T:=λT=>EL (by omega) (by omega);have p2:∀T:gS,jv (.str GG) (.int<|(B+(1+(i:Int))) / 26) T=.ok (.str ⟨#[97+(B.toNat+j) / 26]⟩) T:=λT=>EL (by omega) (by omega);have pa:∀T:gS,iK (.str ⟨#[97+(B.toNat+j) % 26]⟩) (.str ⟨#[97+(B.toNat+j) / 26]⟩) T=.ok (.str ⟨#[97+(B.toNat+j) % 26,97+(B.toNat+j) / 26]⟩) T:=λT=>ou (show 1+1<=16777216 by decide);obtain⟨pr,P⟩:∃pr:Str,pr=⟨#[97+(B.toNat+j) % 26,97+(B.toNat+j) / 26]⟩:=⟨_,rfl⟩;have J:C pr=MC B.toNat j:=by rw[P];rfl
  have lpr:pr.length=2:=by rw[P];rfl
  rw[<- P]at pa;unfold rC;dsimp[iG,mL,bools,m1,m2,p1,p2,pa];obtain⟨m,S5,e5,d0,d1,hb5,k5⟩:=digit (m:=7) N ⋯ ⋯;refine tW (lo:=0) (hi:=m) (S1:=S5) (tR (by dsimp[iG,bools,e5])<|yM (by omega)<|by omega)
   (λq τ S'=>∃(F:A) (lt:Str),τ=[.ref b,.int n,.str GG,.int a,.int B,.ref S2.length,.int<|1+(i:Int),.str pr,.str lt,F]/\Lw q lt/\gQ S' S2.length=some (fs.map .str)/\rj S' b/\Kp (·=b) S S')
   (λr=>∃τ' S',RS.seq r (pR<|PN mP (gJ 5)<|gK (gT jv (oQ<|gK (gT iK (gJ 8)<|gJ 7)<|gK (gT iK (gJ 7)<|gJ 8) gR)<|gJ 3) gR)=.nx τ' S'/\∃(x6 x7 x8 F:A) (fs:ar),τ'=[.ref b,.int n,.str GG,.int a,.int B,.ref S2.length,x6,x7,x8,F]/\gQ S' S2.length=some (fs.map .str)/\fs.map (Bo a.toNat)=(List.range<|i+1+1).map (zL a.toNat B.toNat)/\(∀x∈fs,j6 x)/\rj S' b/\Kp (·=b) S S')
   ⟨_,Str.ofString "",rfl,⟨by show 0<=0;decide,λc hc=>by cases hc⟩,k5.lst _ _ (by have:=iP w3;omega) w4,hb5,k4.trans k5⟩ ?_ ?_
  ·rintro q τ p hq ⟨F,lt,rfl,k,w6,U,k6⟩;left;obtain⟨d,S7,e7,d0,d1,hb7,k7⟩:=digit (m:=26) U ⋯ ⋯;have px:jv (.str GG) (.int d) S7=.ok (.str ⟨#[97+d.toNat]⟩) S7:=EL (by omega) (by omega);have pd:iK (.str lt) (.str ⟨#[97+d.toNat]⟩) S7=.ok (.str<|lt++⟨#[97+d.toNat]⟩) S7:=ou (by have:=k.1;show lt.length+1<=_;omega);unfold rB;dsimp[iG,mL,bools,e7,px,pd];refine⟨_,_,rfl,_,_,rfl,⟨?_,?_⟩,k7.lst _ _ (by omega) w6,hb7,k6.trans k7⟩
   ·rw[Tx.mz];have:=k.1;show lt.length+1<=q+1;omega
   ·intro c hc;rw[jb]at hc
    rcases bQ.mp hc with z|z
    ·exact k.2 c z
    ·have:c=97+d.toNat:=by simpa[C]using z
     omega
  ·rintro τ p ⟨F,lt,rfl,k,w6,U,k6⟩;have hl6:lt.length<=6:=by have:=k.1;omega
   have pd:iK (.str lt) (.str pr) p=.ok (.str<|lt++pr) p:=ou (by omega);have pe:iK (.str pr) (.str lt) p=.ok (.str<|pr++lt) p:=ou (by omega);obtain⟨new,f⟩:∃new:Str,new=if a=1 then pr++lt else lt++pr:=⟨_,rfl⟩
   have px:oA [A.str<|lt++pr,A.str<|pr++lt] a=some (.str new):=by
    rcases(show a=0\/a=1 by omega)with rfl|rfl
    ·rw[f,aQ ⋯];exact Rg
    ·rw[f,aT rfl];exact QE
   have w7:gQ (p++[O.lst [A.str<|lt++pr,A.str<|pr++lt]]) S2.length=some (fs.map .str):=kR w6;have g3:gd ((fs.map A.str).length<sizeLine) (.ok A.non<|(p++[O.lst [A.str<|lt++pr,A.str<|pr++lt]]).set S2.length<|.lst<|fs.map .str++[.str new])=.ok A.non ((p++[O.lst [A.str<|lt++pr,A.str<|pr++lt]]).set S2.length<|.lst<|fs.map .str++[.str new]):=k_ (by rw[aK,bD];omega);have qx:gT jv (oQ<|gK (gT iK (gJ 8)<|gJ 7)<|gK (gT iK (gJ 7)<|gJ 8) gR) (gJ 3) [.ref b,.int n,.str GG,.int a,.int B,.ref S2.length,.int<|1+(i:Int),.str pr,.str lt,F] p=.ok (.str new) (p++[O.lst [A.str<|lt++pr,A.str<|pr++lt]]):=by
    dsimp[iG,mL,bools,pd,pe,g2,iu,px]
   dsimp[iG,mL,bools,w6,↓qx,w7,g3];refine⟨_,_,rfl,_,_,_,_,fs++[new],rfl,?_,?_,?_,?_,?_⟩
   ·rw[bV];exact j4 (iP w7)
   ·rw[bV,Z,List.range_succ (n:=i+1),bV];congr 1;show[Bo a.toNat new]=[zL a.toNat B.toNat<|i+1];congr 1;unfold Bo zL;have l2:(C pr).length=2:=by rw[J];rfl
    have ni:¬i+1=0:=by omega
    by_cases c:a=1
    ·have Y:a.toNat=1:=by omega
     rw[aQ ni,aT Y,aT Y,<- hj,<- J,f,aT c,jb];rw[fQ<|by omega,cQ<|by omega]
    ·have Y:¬a.toNat=1:=by omega
     rw[aQ ni,aQ Y,aQ Y,<- hj,<- J,f,aQ c,jb,List.reverse_append];rw[fQ<|by rw[dM];omega,cQ<|by rw[dM];omega]
   ·intro x hx
    rcases bQ.mp hx with z|z
    ·exact hn x z
    ·rw[bB]at z;have hc:∀c∈C pr,97<=c/\c<=122:=by
      intro c hc;rw[J]at hc;unfold MC at hc;simp at hc;omega
     rw[z,f];have la:(if a=1 then pr++lt else lt++pr).length=lt.length+2:=by split<;>rw[Tx.mz]<;>omega
     refine⟨by omega,by omega,λc K=>?_⟩;have:c∈C pr\/c∈C lt:=by
      revert K;split<;>(rw[jb];intro K;rcases bQ.mp K with z|z)<;>simp[z]
     exact this.elim (hc c)<|k.2 c
   ·obtain⟨g,st,e,z⟩:=U;exact⟨g,st,by rw[mV<|by omega];exact kR e,z⟩
   ·exact(k6.lay).set (.inr<|by omega)
 ·rintro τ V ⟨x6,x7,x8,F,fs,rfl,w4,Z,hn,N,k4⟩;have hfl:fs.length=(n-1).toNat+1:=by
   have:=cW List.length Z;simpa using this
  refine⟨S2.length,V,fs,?_,w4,by omega,hn,?_,by omega,N,k4⟩
  ·dsimp[iG,bools]
  ·have nd:(fs.map<|Bo a.toNat).Nodup:=by
    rw[Z];exact List.nodup_range.map _ λi j h z=>h<|L6 z
   exact List.Pairwise.of_map (Bo a.toNat) (λx y h e=>h<|by rw[e]) nd
end K87
namespace Am
open PySem L2 Bl
def Ru{S:gS}{n:Nat}{x:A}{k:Nat}(h:gQ S n=some [x])(j:k<=16777216):pO (.ref n) (.int k) S=.ok (.ref S.length) (S++[.lst<|List.replicate k x]):=by
 show opt (gQ S n) _=_;rw[h,ie];have e:(List.replicate k [x]).flatten=List.replicate k x:=by
  induction k with
  | zero=>rfl
  | succ k d=>rw[cI,cX,d ()];rfl
 rw[jP ⟨(),(),by rw[bD,cO];simpa using j⟩,cO,e]
end Am
namespace K87
open PySem L2 Am
def Ei{xs:ag}(h:vA xs)(J:xs.length<=200):∃S',jd [tI xs] S=.ok (.str<|jW xs) S'/\jH S S':=by
 have j:nP (.str<|PySem.Str.ofString " ") [.ref S.length] (S++[.lst<|(xs.map Tx.tx).map .str])=.ok (.str<|jW xs) (S++[.lst<|(xs.map Tx.tx).map .str]):=zR (z:=⟨#[32]⟩) iu<|HA h J;have hc:kF [none] (lq<|gJ 0) (jc 0) lg (iA (f1 yE)<|gK (gJ 0) gR) [tI xs] S=.ok (.ref S.length) (S++[.lst<|(xs.map Tx.tx).map .str]):=by
  unfold tI;have d:(xs.map A.int).map (λx=>match x with | .int i=>A.str (Tx.tx i)|_=>.unb)=(xs.map Tx.tx).map .str:=by rw[cV,cV];rfl
  rw[qo (cap:=[]) (S1:=S) (xs:=xs.map .int) (CF<|by dsimp[iG,bools]) (λx=>match x with | .int i=>.str (Tx.tx i)|_=>.unb) (λx f=>by
   obtain⟨i,hi,rfl⟩:=bJ.mp f;dsimp[iG,bools,JS<|h i hi])<|by rw[aK];omega,d]
 unfold jd sj se;dsimp[iG,bools,jD,Nat.reduceAdd,Nat.reduceSub,uW,hc,j,k_<|show A.isStr (.str<|PySem.Str.ofString " ")=true from rfl];exact⟨_,rfl,Kp.refl.lay⟩
def Og(kw x:Str):C (i7 [kw,x])=C kw++32::C x:=by
 have:=Sp.lD 32 kw [x];show(Str.join ⟨#[32]⟩ [kw,x]).cps.toList=_;rw[this];simp
def uJ(kw x:Str)(ws:ar)(h:ws≠[]):i7 (kw::x::ws)=kw++⟨#[32]⟩++x++⟨#[32]⟩++i7 ws:=by
 refine pF ?_
 cases ws with
 | nil=>exact absurd rfl h
 | cons w ws=>
  rw[jb,jb,jb,jb,show C (i7 (kw::x::w::ws))=_ from Sp.lD 32 kw (x::w::ws),show C (i7 (w::ws))=_ from Sp.lD 32 w ws];simp[C]
def z0(x:Str):Str.ofString "show " ++ x=i7 ["show",x]:=by
 refine pF ?_;rw[jb,Og,show C (Str.ofString "show ")=C ("show" : Str)++[32]by decide +kernel,bW];rfl
def Hq(x:Str):Str.ofString "drop " ++ x=i7 ["drop",x]:=by
 refine pF ?_;rw[jb,Og,show C (Str.ofString "drop ")=C ("drop" : Str)++[32]by decide +kernel,bW];rfl
abbrev zd (f:Str->Option (ag)):Prop:=∀x xs,f x=some xs->∃n:Nat,xs.Perm (jj 1<|(n:Int)+1)/\1<=n/\n<=20
meta abbrev Hs:=List<|Nat×(Str->Option (ag))
structure St (S:gS)(R:Nat)(nm:ar)(hs:Hs):Prop where
 ls:gQ S R=some (hs.map λh=>A.ref h.1)
 ds:∀h∈hs,∃kvs,iW S h.1=some kvs/\Rp nm kvs h.2
def St.kp{R:Nat}{nm:ar}{hs:Hs}{c:Nat->Prop}(h:St S R nm hs)(k:Kp c S S')(h1:¬c R)(j:∀q∈hs,¬c q.1):St S' R nm hs:=⟨k.lst _ _ h1 h.ls,λq d=>by
 obtain⟨kvs,e,r⟩:=h.ds q d;exact⟨kvs,Kp.ds k _ _ (j q d) e,r⟩⟩
def As(x:Str){xs:ag}(h:xs≠[]):Str.ofString "keep " ++ x++Str.ofString " " ++ jW xs=i7 ("keep" :: x::xs.map Tx.tx):=by
 rw[uJ _ _ _<|by simpa using h];refine pF ?_;rw[jb,jb,jb,jb,jb,jb,jb,show C (Str.ofString "keep ")=C ("keep" : Str)++[32]by decide +kernel,show C (Str.ofString " ")=[32]by decide +kernel];show _=_++C (i7<|xs.map Tx.tx);simp[C,jW]
inductive Ch (nm:ar):Hs->(Str->Option (ag))->Hi->Prop
 | nil {f:Str->Option (ag)} (h:zd f):Ch nm [] f []
 | snoc {hs:Hs} {K:Nat} {g:Str->Option (ag)} {x:Str} {v:Option<|ag} {past:Hi} (c:Ch nm hs g past) (hx:x∈nm) (hv:g x=none->v.isSome=true) (h:zd<|kY g x v):Ch nm (hs++[(K,g)]) (kY g x v)<|past++[(x,g x)]
def Ch.F8{nm:ar}{hs:Hs}{f:Str->Option (ag)}(c:Ch nm hs f past):zd f:=by cases c<;>assumption
def Ch.len{nm:ar}{hs:Hs}{f:Str->Option (ag)}{past:Hi}(c:Ch nm hs f past):past.length=hs.length:=by
 induction c with
 | nil=>rfl
 | snoc _ _ _ _ d=>rw[aZ,aZ,d];rfl
def Ch.inv{nm:ar}{hs:Hs}{f:Str->Option (ag)}(c:Ch nm hs f past):(hs=[]/\past=[])\/∃hs' K g x v past',hs=hs'++[(K,g)]/\past=past'++[(x,g x)]/\f=kY g x v/\x∈nm/\(g x=none->v.isSome=true)/\Ch nm hs' g past':=by
 cases c with
 | nil h=>exact .inl ⟨rfl,rfl⟩
 | snoc c d hv h=>exact .inr ⟨_,_,_,_,_,_,rfl,rfl,rfl,d,hv,c⟩
def Dw{S:gS}{nm:ar}:∃S',Bu "Desk" jn τ S=.ok (.ref S.length) S'/\Dk S' S.length (S.length+1) (S.length+2) nm (λ_=>none) []/\jH S S'/\S'.length=S.length+3:=by
 obtain⟨S1,h1⟩:∃S1,S1=S++[O.obj "Desk" []]:=⟨_,rfl⟩;have B:S1.length=S.length+1:=by rw[h1];simp
 have P:S1[S.length]?=some (.obj "Desk" []):=by rw[h1];simp
 obtain⟨f,m⟩:∃f,f=S1++[O.ly []]:=⟨_,rfl⟩;have N:f.length=S.length+2:=by rw[m];simp[B]
 have L:f[S.length]?=some (.obj "Desk" []):=by rw[m,aW<|by omega];exact P
 have e1:Am.xE "Desk" "orders" (gJ 0) v_ [.ref S.length] S1=.nx [.ref S.length] (f.set S.length<|.obj "Desk" [("orders",.ref<|S.length+1)]):=by
  rw[zF (S1:=f) (y:=.ref S1.length) (n:=S.length) (fs:=[]) (by rw[m];rfl) rfl L<|by simp,B];rfl
 obtain⟨g,p⟩:∃g,g=f.set S.length (.obj "Desk" [("orders",.ref<|S.length+1)]):=⟨_,rfl⟩;have C:g.length=S.length+2:=by rw[p,bL,N]
 have G:g[S.length]?=some (.obj "Desk" [("orders",.ref<|S.length+1)]):=by rw[p,bz<|by omega]
 obtain⟨d,j⟩:∃d,d=g++[O.lst []]:=⟨_,rfl⟩;have K:d.length=S.length+3:=by rw[j];simp[C]
 have F:d[S.length]?=some (.obj "Desk" [("orders",.ref<|S.length+1)]):=by rw[j,aW<|by omega];exact G
 have e2:Am.xE "Desk" "past" (gJ 0) (oQ gR) [.ref S.length] g=.nx [.ref S.length] (d.set S.length<|.obj "Desk" [("orders",.ref<|S.length+1),("past",.ref<|S.length+2)]):=by
  rw[zF (S1:=d) (y:=.ref g.length) (n:=S.length) (fs:=[("orders",.ref<|S.length+1)]) (by rw[j];dsimp[iG,bools]) rfl F<|by simp,C];rfl
 rw[<- p]at e1;have i:jn [.ref S.length] S1=.ok .non (d.set S.length<|.obj "Desk" [("orders",.ref<|S.length+1),("past",.ref<|S.length+2)]):=by
  unfold jn l6 lZ;dsimp[iG,mL,bools,jD,Nat.reduceAdd,Nat.reduceSub,↓e1,↓e2]
 refine⟨d.set S.length<|.obj "Desk" [("orders",.ref<|S.length+1),("past",.ref<|S.length+2)],?_,⟨?_,⟨[],?_,Rp.nil⟩,?_⟩,?_,by rw[bL,K]⟩
 ·unfold Bu;rw[<- h1,i]
 ·rw[bz<|by omega]
 ·refine nQ ?_;rw[a_<|by omega,j,aW<|by omega,p,a_<|by omega,m,<- B];simp
 ·rw[lX<|by omega,j,<- C];exact iu
 ·have k:jH S S1:=by rw[h1];exact Kp.refl.lay
  have k2:jH S f:=by rw[m];exact k.lay
  have k3:jH S g:=by rw[p];exact k2.vF (.inr<|aO _)
  have J:jH S d:=by rw[j];exact k3.lay
  exact J.vF<|.inr<|aO _
def MA{f:Str->Option (ag)}(h:zd f)(x:Str):zd (kY f x none):=λy ys e=>by
 unfold kY at e;split at e
 ·cases e
 ·exact h y ys e
def C8{f:Str->Option (ag)}(h:zd f)(x:Str){xs:ag}{n:Nat}(j:xs.Perm<|jj 1<|(n:Int)+1)(h1:1<=n)(J:n<=20):zd (kY f x<|some xs):=λy ys e=>by
 unfold kY at e;split at e
 ·cases e;exact⟨n,j,h1,J⟩
 ·exact h y ys e
def kP{n d:Nat}{c:Str}{fs:List<|Str×A}(h:gQ S n=some xs)(h':S[d]?=some (.obj c fs)):n≠d:=λz=>by
 have:=ig h;rw[z,h']at this;cases this
def jq{n d:Nat}(h:gQ S n=some xs)(h':iW S d=some kvs):n≠d:=λz=>by
 have:=ig h;rw[z,iD h']at this;cases this
def wR{n d:Nat}{c:Str}{fs:List<|Str×A}(h:iW S n=some kvs)(h':S[d]?=some (.obj c fs)):n≠d:=λz=>by
 have:=iD h;rw[z,h']at this;cases this
end K87
namespace K87
open PySem L2 Am
def MY{xs:ag}{n:Nat}(J:xs.Perm<|jj 1<|(n:Int)+1)(L:n<=1000)(h1:1<=n):∃(ys:ag) (S':gS),qG [tI xs] S=.ok (tI ys) S'/\jH S S':=by
 obtain⟨F,_⟩:=lR J h1;unfold qG C5 CY tI;dsimp[iG,bools,jD,Nat.reduceAdd,Nat.reduceSub,aK,F];rw[Ru (k:=n) iu<|by omega];dsimp[iG,bools];have d:(S++[O.lst [.int 0]]).length=S.length+1:=by simp
 rw[d];refine P5 (xs:=xs.map .int) (S1:=S++[O.lst [.int 0]]++[O.lst<|List.replicate n<|.int 0]) (Pf<|by dsimp[iG,bools])
  (λt τ S'=>∃(m g:A) (ps:ag),τ=[.tup<|xs.map .int,.ref<|S.length+1,m,g]/\gQ S' (S.length+1)=some (ps.map .int)/\ps.length=n/\jH S S')
  (λr=>∃(ys:ag) (S':gS),RS.end (RS.seq r _)=.ok (.tup<|ys.map .int) S'/\jH S S') ⟨.unb,.unb,List.replicate n 0,rfl,?_,by simp,Kp.refl.lay.lay⟩ ?_ ?_
 ·rw[List.map_replicate,<- d];exact iu
 ·rintro t x τ S' B ⟨m,g,ps,rfl,f,p,j⟩;rw[bE]at B;obtain⟨v,hv,rfl⟩:=aV.mp B;have mv:=A0.mp<|J.mem_iff.mp<|bI hv;refine⟨_,_,by dsimp[iG,bools,jP<|show([_,_]:ae).length=2 from rfl];rfl,.inl ?_⟩;have hi:zj ps.length (v-1)=some (v-1).toNat:=oJ (by omega) (by omega);have C:=iP f;unfold z9;dsimp[iG,bools,f,aK,hi];refine⟨_,_,rfl,_,_,ps.set (v-1).toNat<|(t:Int)+1,rfl,?_,by rw[bL];exact p,j.set<|.inr<|by omega⟩;rw[j4 C,fZ]
 ·rintro τ S' ⟨m,g,ps,rfl,f,p,j⟩;exact⟨ps,S',by dsimp[iG,bools,f],j⟩
def OS{n:Nat}{bs:List Bool}(h:gQ S n=some xs)(hb:A.BN xs=some bs):BQ (.ref n) S=.ok (.bl<|bs.any λb=>b) S:=by
 show opt (gQ S n) _=_;rw[h];show opt (A.BN xs) _=_;rw[hb];rfl
def SJ(b:Bool)(xs:ae):A.BN (.bl b::xs)=(A.BN xs).map (b::·):=rfl
theorem NL{α:Type}(f:α->Bool):∀(xs:List α),A.BN (xs.map λx=>.bl<|f x)=some (xs.map f)
 | []=>rfl
 | x::xs=>by rw[aY,SJ,NL f xs];rfl
section
variable {S:gS}{d o p:Nat}{nm:ar}{f:Str->Option (ag)}{past:Hi}{x:Str}
def JH(D:Dk S d o p nm f past)(hf:f x=none)(hc:∀kvs,Rp nm kvs f->40<=kvs.length):iM [.ref d,.str x,tI xs] S=.ex "TooMany" S:=by
 obtain⟨kvs,g,r⟩:=D.od;have i:=Cg (b:=true) (k:=x) g;rw[aT rfl,r.Q8,hf]at i;have m:Mt (.int kvs.length) (.int 40) S=.ok (.bl true) S:=by dsimp[iG,bF (show(40:Int)<=(kvs.length:Int)by have:=hc kvs r;omega)]
 have j:xT (mF<|gT (Gm true) (gJ 1)<|lM "Desk" "orders"<|gJ 0) (mF<|gT Mt (iA (f1 AQ)<|gK (lM "Desk" "orders"<|gJ 0) gR)<|eC<|.int 40) [.ref d,.str x,tI xs] S=.ok true S:=by
  unfold xT;dsimp[iG,bools,jS,D.fo,i,fF,Option.isSome_none,Fq g,m]
 unfold iM oZ oU;dsimp[iG,mL,bools,jD,Nat.reduceAdd,Nat.reduceSub,↓j]
theorem Ma(D:Dk S d o p nm f []):ji [.ref d] S=.ex "TooMany" S:=by
 have g:(A.ref p).Oc S=some false:=by
  show(gQ S p).map _=_;rw[D.ps];rfl
 unfold ji lQ lV;dsimp[iG,mL,bools,jD,Nat.reduceAdd,Nat.reduceSub,jS,D.fp,g,fF]
def u_(D:Dk S d o p nm f past)(hn:j6 x){xs:ag}{n:Nat}(px:xs.Perm<|jj 1<|(n:Int)+1)(h1:1<=n)(h2:n<=20)(hf:f x=none)(hc:∀kvs,Rp nm kvs f->40<=kvs.length) :
  ∃S',g8 [.ref d,.str<|i7 ("keep" :: x::xs.map Tx.tx)] S=.ex "TooMany" S'/\jH S S':=by
 obtain⟨Z,ne⟩:=lR px h1;have V:=we px h2;have C:yS (xs.map Tx.tx):=C3 V;have hw:yS ("keep" :: x::xs.map Tx.tx):=ja (pL<|by simp)<|ja (rW hn) C;refine qa (Q:=λr=>∃S',r=.ex "TooMany" S'/\jH S S') D hw (by simp;omega) (λT W J=>by
  cases xs with
  | nil=>exact absurd rfl ne
  | cons y ys=>exact CC J (.inl rfl) hn hw) λS2 B Y k2 F=>?_
 have L:=Hz (S2:=S2) (W:=S.length) (kw := "keep") (x:=x) (ws:=xs.map Tx.tx) B C (by rw[aK];omega) (a:=.ref d) (b:=.str<|i7 ("keep" :: x::xs.map Tx.tx)) (c:=.str "keep") (τ:=[.unb,.unb]);obtain⟨j,N,K⟩:=Kg (S:=S2++[O.lst<|(xs.map Tx.tx).map A.str]) px h1 h2;have g:jH S2 j:=(Kp.refl.lay:jH S2<|S2++[O.lst<|(xs.map Tx.tx).map A.str]).trans K;have U:=F.kp g (λz=>z) (λz=>z) λz=>z;have P:=JH (xs:=xs) U hf hc;refine⟨j,?_,k2.trans g⟩;have G:jv (.ref S.length) (.int 1) S2=.ok (.str x) S2:=by show opt (gQ S2 S.length) _=_;rw[B,ie,aY,aY,QE];rfl
 have k:jh [.str<|Str.join ⟨#[32]⟩<|xs.map Tx.tx] (S2++[O.lst<|(xs.map Tx.tx).map A.str])=.ok (tI xs) j:=N;have m:iX "Desk" "put" iM (gJ 0) (gK (gT jv (gJ 2)<|eC<|.int 1)<|gK (oG jh<|gK (BR nP (eC<|.str<|PySem.Str.ofString " ")<|gK (zl (gJ 2) (kL<|eC<|.int 2) kW) gR) gR) gR) [.ref d,.str<|i7 ("keep" :: x::xs.map Tx.tx),.ref S.length,.str "keep",.unb,.unb] S2=.ex "TooMany" j:=by
  rw[dm F<|by dsimp[iG,bools]];dsimp[iG,mL,bools,G,↓L,k,P]
 unfold zA;dsimp[iG,mL,bools,xF,VJ,VI,↓m]
def A7(D:Dk S d o p nm f []):∃S',g8 [.ref d,.str<|i7 ["undo"]] S=.ex "TooMany" S'/\jH S S':=by
 refine qa (Q:=λr=>∃S',r=.ex "TooMany" S'/\jH S S') D (ja (pL<|by simp) nN) (by simp) (λT W k=>xh (xs:=[]) k (show jI iU "undo" = some 0 by decide +kernel) ∅ (λy h=>absurd h gy) (by simp) (ja (pL<|by simp) nN)) λg B C k2 j=>?_;refine⟨g,?_,k2⟩;have m:iX "Desk" "undo" ji (gJ 0) gR [.ref d,.str<|i7 ["undo"],.ref S.length,.str "undo",.unb,.unb] g=.ex "TooMany" g:=by
  rw[dm j<|by dsimp[iG,bools]];exact Ma j
 unfold zA;dsimp[iG,mL,bools,xF,Vj,↓m]
def kb1:((Str.ofString "back") == (Str.ofString "undo"))=false:=by decide +kernel
def kb2:((Str.ofString "back") == (Str.ofString "keep"))=false:=by decide +kernel
def VS:((Str.ofString "back") == (Str.ofString "lead"))=false:=by decide +kernel
def Wl:((Str.ofString "back") == (Str.ofString "drop"))=false:=by decide +kernel
def Wr:((Str.ofString "back") == (Str.ofString "back"))=true:=by decide +kernel
def Bg(D:Dk S d o p nm f past)(hn:j6 x)(hy:j6 y){xs:ag}{n:Nat}(Z:xs.Perm<|jj 1<|(n:Int)+1)(h1:1<=n)(h2:n<=20)(hx:f x=some xs)(hf:f y=none)(hc:∀kvs,Rp nm kvs f->40<=kvs.length) :
  ∃S',g8 [.ref d,.str<|i7 ["back",x,y]] S=.ex "TooMany" S'/\jH S S':=by
 have K:1<=(Str.ofString "back").length/\(Str.ofString "back").length<=100/\32∉C (Str.ofString "back"):=by decide +kernel
 have hw:yS ["back",x,y]:=ja K<|ja (rW hn)<|ja (rW hy) nN;refine qa (Q:=λr=>∃S',r=.ex "TooMany" S'/\jH S S') D hw (by simp) (λT W N=>xh (xs:=[x,y]) N (show jI iU "back" = some 2 by decide +kernel) ∅ (λz h=>by
  rcases bG.mp h with h|h
  ·rw[h];exact hn
  ·rw[bB]at h;rw[h];exact hy) (by simp) hw) λg F V k2 j=>?_
 obtain⟨ys,k,B,G⟩:=MY (S:=g) Z (by omega) h1;have U:=j.kp G (λz=>z) (λz=>z) λz=>z;have P:=JH (xs:=ys) U hf hc;have B:qG [tI xs] g=.ok (tI ys) k:=B;refine⟨k,?_,k2.trans G⟩;have L:jv (.ref S.length) (.int 1) g=.ok (.str x) g:=by show opt (gQ g S.length) _=_;rw[F,ie,aY,aY,QE];rfl
 have J:jv (.ref S.length) (.int 2) g=.ok (.str y) g:=by show opt (gQ g S.length) _=_;rw[F,ie];rfl
 have O:iX "Desk" "named" iz (gJ 0) (gK (gT jv (gJ 2)<|eC<|.int 1) gR) [.ref d,.str<|i7 ["back",x,y],.ref S.length,.str "back",.unb,.unb] g=.ok (tI xs) g:=by
  rw[dm j<|by dsimp[iG,bools]];dsimp[iG,bools,L,tX j hx]
 have m:iX "Desk" "put" iM (gJ 0) (gK (gT jv (gJ 2)<|eC<|.int 2)<|gK (eFn qG<|gK (iX "Desk" "named" iz (gJ 0)<|gK (gT jv (gJ 2)<|eC<|.int 1) gR) gR) gR) [.ref d,.str<|i7 ["back",x,y],.ref S.length,.str "back",.unb,.unb] g=.ex "TooMany" k:=by
  rw[dm j<|by dsimp[iG,bools]];dsimp[iG,mL,bools,J,↓O,B,P]
 unfold zA;dsimp[iG,mL,bools,xF,kb1,kb2,VS,Wl,Wr,↓m]
def yY{row:Str}(D:Dk S d o p nm f past)(e:g8 [.ref d,.str row] S=.ex "TooMany" S'):∃S'',iZ [.ref d,.str row] S=.ok (.bl true) S''/\jH S' S'':=by
 have m:iX "Desk" "say" g8 (gJ 0) (gK (gJ 1) gR) [.ref d,.str row,.unb,.unb] S=.ex "TooMany" S':=by
  rw[dm D<|by dsimp[iG,bools]];dsimp[iG,bools,e]
 have j:∀(tb:Str->bi) (b:Bool) (a:A) (T:gS),tb (Str.ofString "TooMany")=some b->jU tb (gJ 2) [.unb,.unb,.exn<|Str.ofString "TooMany",a] T=.ok (.bl b) T:=λtb b a T h=>by
  unfold jU;rw[show gJ 2 [.unb,.unb,.exn<|Str.ofString "TooMany",a] T=.ok (.exn<|Str.ofString "TooMany") T from rfl,R.jl];show opt (tb<|Str.ofString "TooMany") _=_;rw[h];rfl
 have J:∀a T,jU (qU [("NoPair",false),("NoWord",false),("NoNumber",false),("TooMany",false),("NoText",false),("NoName",true),("NoRow",false)]) (gJ 2) [.unb,.unb,.exn<|Str.ofString "TooMany",a] T=.ok (.bl false) T:=λa T=>j _ _ a T ∅;have K:∀a T,jU (qU [("NoPair",false),("NoWord",false),("NoNumber",false),("TooMany",false),("NoText",false),("NoName",false),("NoRow",true)]) (gJ 2) [.unb,.unb,.exn<|Str.ofString "TooMany",a] T=.ok (.bl false) T:=λa T=>j _ _ a T ∅;have L:∀a T,jU (qU [("NoPair",false),("NoWord",false),("NoNumber",false),("TooMany",false),("NoText",true),("NoName",false),("NoRow",false)]) (gJ 2) [.unb,.unb,.exn<|Str.ofString "TooMany",a] T=.ok (.bl false) T:=λa T=>j _ _ a T ∅;have C:∀a T,jU (qU [("NoPair",false),("NoWord",true),("NoNumber",false),("TooMany",false),("NoText",false),("NoName",false),("NoRow",false)]) (gJ 2) [.unb,.unb,.exn<|Str.ofString "TooMany",a] T=.ok (.bl false) T:=λa T=>j _ _ a T ∅;have G:∀a T,jU (qU [("NoPair",false),("NoWord",false),("NoNumber",false),("TooMany",true),("NoText",false),("NoName",false),("NoRow",false)]) (gJ 2) [.unb,.unb,.exn<|Str.ofString "TooMany",a] T=.ok (.bl true) T:=λa T=>j _ _ a T ∅;have F:∀a T,jU (qU [("NoPair",true),("NoWord",true),("NoNumber",true),("TooMany",true),("NoText",true),("NoName",true),("NoRow",true)]) (gJ 2) [.unb,.unb,.exn<|Str.ofString "TooMany",a] T=.ok (.bl true) T:=λa T=>j _ _ a T ∅;obtain⟨g,B⟩:∃g,g=S'++[O.lst [.bl false,.bl false,.bl false,.bl false]]:=⟨_,rfl⟩;have an:BQ (.ref S'.length) g=.ok (.bl false) g:=OS (bs:=[false,false,false,false]) (by rw[B];exact iu) rfl;have hd:(ir (iO (oQ<|gK (jU (qU [("NoPair",false),("NoWord",false),("NoNumber",false),("TooMany",false),("NoText",false),("NoName",true),("NoRow",false)])<|gJ 2)<|gK (jU (qU [("NoPair",false),("NoWord",false),("NoNumber",false),("TooMany",false),("NoText",false),("NoName",false),("NoRow",true)])<|gJ 2)<|gK (jU (qU [("NoPair",false),("NoWord",false),("NoNumber",false),("TooMany",false),("NoText",true),("NoName",false),("NoRow",false)])<|gJ 2)<|gK (jU (qU [("NoPair",false),("NoWord",true),("NoNumber",false),("TooMany",false),("NoText",false),("NoName",false),("NoRow",false)])<|gJ 2) gR)<|jc 3)
 (iN<|qj (jU (qU [("NoPair",false),("NoWord",false),("NoNumber",false),("TooMany",true),("NoText",false),("NoName",false),("NoRow",false)])<|gJ 2)<|qj (jU (qU [("NoPair",true),("NoWord",true),("NoNumber",true),("TooMany",true),("NoText",true),("NoName",true),("NoRow",true)])<|gJ 2)<|CU<|iA (f1 BQ)<|gK (gJ 3) gR)) ((List.replicate 4 A.unb).set 2<|.exn<|Str.ofString "TooMany") S'=.rt (.bl true) g:=by
  show(ir (iO (oQ<|gK (jU (qU [("NoPair",false),("NoWord",false),("NoNumber",false),("TooMany",false),("NoText",false),("NoName",true),("NoRow",false)])<|gJ 2)<|gK (jU (qU [("NoPair",false),("NoWord",false),("NoNumber",false),("TooMany",false),("NoText",false),("NoName",false),("NoRow",true)])<|gJ 2)<|gK (jU (qU [("NoPair",false),("NoWord",false),("NoNumber",false),("TooMany",false),("NoText",true),("NoName",false),("NoRow",false)])<|gJ 2)<|gK (jU (qU [("NoPair",false),("NoWord",true),("NoNumber",false),("TooMany",false),("NoText",false),("NoName",false),("NoRow",false)])<|gJ 2) gR)<|jc 3)
 (iN<|qj (jU (qU [("NoPair",false),("NoWord",false),("NoNumber",false),("TooMany",true),("NoText",false),("NoName",false),("NoRow",false)])<|gJ 2)<|qj (jU (qU [("NoPair",true),("NoWord",true),("NoNumber",true),("TooMany",true),("NoText",true),("NoName",true),("NoRow",true)])<|gJ 2)<|CU<|iA (f1 BQ)<|gK (gJ 3) gR)) [.unb,.unb,.exn<|Str.ofString "TooMany",.unb] S'=_
  have k:=an;rw[B]at k;dsimp[iG,mL,bools,jD,Nat.reduceAdd,↓J,↓K,↓L,↓C,↓G,↓F,k,fF];rw[B]
 have c:RS.try 2 4 ["NoPair", "NoWord", "NoNumber", "TooMany", "NoText", "NoName", "NoRow"] (ir (iO (oQ<|gK (jU (qU [("NoPair",false),("NoWord",false),("NoNumber",false),("TooMany",false),("NoText",false),("NoName",true),("NoRow",false)])<|gJ 2)<|gK (jU (qU [("NoPair",false),("NoWord",false),("NoNumber",false),("TooMany",false),("NoText",false),("NoName",false),("NoRow",true)])<|gJ 2)<|gK (jU (qU [("NoPair",false),("NoWord",false),("NoNumber",false),("TooMany",false),("NoText",true),("NoName",false),("NoRow",false)])<|gJ 2)<|gK (jU (qU [("NoPair",false),("NoWord",true),("NoNumber",false),("TooMany",false),("NoText",false),("NoName",false),("NoRow",false)])<|gJ 2) gR)<|jc 3)
 (iN<|qj (jU (qU [("NoPair",false),("NoWord",false),("NoNumber",false),("TooMany",true),("NoText",false),("NoName",false),("NoRow",false)])<|gJ 2)<|qj (jU (qU [("NoPair",true),("NoWord",true),("NoNumber",true),("TooMany",true),("NoText",true),("NoName",true),("NoRow",true)])<|gJ 2)<|CU<|iA (f1 BQ)<|gK (gJ 3) gR)) (.ex (Str.ofString "TooMany") S')=.rt (.bl true) g:=by
  unfold RS.try;dsimp only;rw[aT ∅,hd];rfl
 unfold iZ nG m8;dsimp[iG,mL,bools,jD,Nat.reduceAdd,Nat.reduceSub,m,↓c];exact⟨g,rfl,by rw[B];exact Kp.refl.lay⟩
end
end K87
namespace K87
open PySem L2 Am
def LO{c:Ex}{S1:gS}{n:Nat}{kvs:List<|Str×A}(h:c τ S=.ok (.ref n) S1)(hn:iW S1 n=some kvs):FJ c τ S=.ok (j_<|kvs.map BO) (S1.set n<|.ins "" []):=by
 unfold FJ;rw[h,R.jl];show opt (iW S1 n) _=_;rw[hn];rfl
theorem A8:∀{kvs:List<|Str×A}{kv:Str×A},(kvs.map (·.1)).Nodup->kv∈kvs->iL kvs kv.1=some kv.2
 | q::kvs,kv,nd,h=>by
  rw[aY,dB]at nd;by_cases c:q.1=kv.1
  ·rw[jA c]
   rcases bG.mp h with z|z
   ·rw[z]
   ·exact absurd (bJ.mpr ⟨kv,z,c.symm⟩) nd.1
  ·rw[jC c]
   rcases bG.mp h with z|z
   ·exact absurd (by rw[z]) c
   ·exact A8 nd.2 z
section
variable {S:gS}{d o p:Nat}{nm:ar}{f:Str->Option (ag)}{past:Hi}{x:Str}
def wg{K:Nat}(D:Dk S d o p nm f past)(hi:∀x∈nm,j6 x)(hK:iW S K=some kvs)(r:Rp nm kvs f)(hf:zd f)(no:K≠o)(hl:nm.length<=1000):∃S',jZ [.ref d,.ref K] S=.ok (.bl true) S'/\Kp (·=K) S S':=by
 obtain⟨S1,h1⟩:∃S1,S1=S.set K (.ins "" []):=⟨_,rfl⟩;have k1:Kp (·=K) S S1:=by rw[h1];exact Kp.refl.vF (.inl rfl)
 have nd:K≠d:=λz=>by have:=iD hK;rw[z,D.ob]at this;cases this
 have np:K≠p:=λz=>by have:=iD hK;rw[z,ig D.ps]at this;cases this
 have D1:=D.kp k1 (λz=>nd z.symm) (λz=>no z.symm) λz=>np z.symm;have src:FJ (gJ 1) [.ref d,.ref K] S=.ok (j_<|kvs.map BO) S1:=by rw[h1];exact LO (by dsimp[iG,bools]) hK
 have lk:=r.len;have one:∀j∈kvs,∃xs n,j.2=tI xs/\f j.1=some xs/\xs.Perm (jj 1<|((n:Nat):Int)+1)/\1<=n/\n<=20/\j6 j.1:=λj P=>by
  have e:=A8 r.nd P;rw[r.at_]at e;obtain⟨xs,N,e⟩:=aV.mp e;obtain⟨n,G,J,L⟩:=hf j.1 xs N;exact⟨xs,n,e.symm,N,G,J,L,hi _<|r.sub _<|bJ.mpr ⟨j,P,rfl⟩⟩
 obtain⟨r1,_⟩:=wM (s:=j_<|kvs.map BO) (g:=LH 2<|zV (jc 0)<|zV (jc 1) LF) (e:=gT (l7 false) (iX "Desk" "say" g8 (gJ 2)<|gK (gT iK (eC<|.str<|PySem.Str.ofString "show ")<|gJ 0) gR)<|eFn jd<|gK (gJ 1) gR) (cl := "NoName") (S1:=S1) (T:=λF=>∃y z,F=[y,z,.ref d]) (λi=>BO<|kvs.getD i ("",.unb)) (λ_=>true) (λ_=>.bl true)
  (λi T hi k=>by
   have hi:i<(kvs.map BO).length:=hi;rw[aK]at hi;show(kvs.map BO)[i]?=_;rw[bE,aX,aN hi];rfl)
  (λT k=>rfl)
  (λi F T hi ⟨y,z,hy⟩ k=>by
   subst hy;have hi:i<(kvs.map BO).length:=hi;rw[aK]at hi;obtain⟨j,C⟩:∃j,j=kvs.getD i ("",.unb):=⟨_,rfl⟩;have mk:j∈kvs:=by rw[C,aX,aN hi];exact c7 hi
   obtain⟨xs,n,e2,N,G,J,L,hn⟩:=one j mk;rw[<- C];have O:=D1.kp k (λz=>z) (λz=>z) λz=>z;obtain⟨T1,e3,k3⟩:=Bp O hn N G J L;obtain⟨T2,Z,Y⟩:=Ei (S:=T1) (we G L) (by obtain⟨lx,_⟩:=lR G J;omega);have ad:∀T:gS,iK (.str<|PySem.Str.ofString "show ") (.str j.1) T=.ok (.str<|i7 ["show",j.1]) T:=λT=>by
    rw[ou (show(Str.ofString "show ").length+j.1.length<=16777216 by have:=hn.2.1;rw[show(Str.ofString "show ").length=5 by decide +kernel];omega),z0]
   have m:iX "Desk" "say" g8 (gJ 2) (gK (gT iK (eC<|.str<|PySem.Str.ofString "show ")<|gJ 0) gR) [.str j.1,tI xs,.ref d] T=.ok (.str<|jW xs) T1:=by
    rw[dm O<|by dsimp[iG,bools]];dsimp[iG,bools,ad,e3]
   have um:(tI xs).jJ=false:=rfl;refine⟨[.str j.1,tI xs,.ref d],?_,⟨_,_,rfl⟩,λ_=>⟨T2,?_,k3.trans Y⟩,λz=>(by cases z)⟩
   ·unfold BO;rw[e2];dsimp[iG,bools,jP<|show([_,_]:ae).length=2 from rfl]
   ·have:l7 false (.str<|jW xs) (.str<|jW xs) T2=.ok (.bl true) T2:=by rw[xF,cB]
    dsimp[iG,bools,↓m,u5 um,Z,this])
  kvs.length 0 (jT [none,none,some 0] [.ref d,.ref K]) S1 (by show kvs.length+0=(kvs.map BO).length;rw[aK];rfl) ⟨_,_,rfl⟩ Kp.refl
 obtain⟨B,e2,k2⟩:=r1 (by rw[cg];intro _ _;rfl);have mp:(List.range' 0 kvs.length).map (λ_=>A.bl true)=kvs.map λ_=>A.bl true:=by
  rw[List.map_const',List.map_const',List.length_range']
 rw[mp]at e2;have cp:lE [none,none,some 0] (FJ<|gJ 1) (LH 2<|zV (jc 0)<|zV (jc 1) LF) lg (gT (l7 false) (iX "Desk" "say" g8 (gJ 2)<|gK (gT iK (eC<|.str<|PySem.Str.ofString "show ")<|gJ 0) gR)<|eFn jd<|gK (gJ 1) gR) [.ref d,.ref K] S=.ok (.ref B.length) (B++[.lst<|kvs.map λ_=>A.bl true]):=by
  unfold lE;rw[src,R.jl];show gd ((kvs.map BO).length<=sizeLine) ((jR (j_<|kvs.map BO) _ _ _ (kvs.map BO).length 0 _ S1).bind _)=_;rw[jP<|show(kvs.map BO).length<=sizeLine by rw[bD,aK];omega,aK,e2];rfl
 have U:tZ (.ref B.length) (B++[.lst<|kvs.map λ_=>A.bl true])=.ok (.bl true) (B++[.lst<|kvs.map λ_=>A.bl true]):=by
  rw[yN iu<|NL (λ_=>true) kvs];have:((kvs.map λ_=>true).all λb=>b)=true:=by rw[cg];intro b V;obtain⟨_,_,rfl⟩:=bJ.mp V;rfl
  rw[this]
 refine⟨B++[.lst<|kvs.map λ_=>A.bl true],?_,(k1.trans<|Kp.of0 k2).lay⟩;unfold jZ qC qd;dsimp[iG,mL,bools,jD,Nat.reduceAdd,Nat.reduceSub,↓cp,U]
end
end K87
namespace K87
open PySem L2 Am
meta abbrev Fn:=Str->Option (ag)
abbrev FA (l:Hi):Hi:=l.drop<|l.length-20
def Kf(l:Hi):(FA l).length<=20:=by unfold FA;rw[cR];omega
def D8(l:Hi)(x:Str)(v:Option<|ag):rem (FA l) x v=FA (l++[(x,v)]):=by
 unfold rem FA;rw[<- fR (by omega),List.drop_drop,cR,aZ,dj];congr 1;omega
def IK{nm:ar}{kvs:List<|Str×A}{f:Fn}(r:Rp nm kvs f){l:ar}(j:l.Nodup)(h:∀y∈l,(f y).isSome=true):l.length<=kvs.length:=by
 have:=len_sub (m:=kvs.map (·.1)) j λy hy=>qZ.mp (by rw[r.Q8];exact h y hy)
 rwa [aK]at this
def Ii{nm:ar}{kvs:List<|Str×A}{f:Fn}(r:Rp nm kvs f){l:ar}(h:∀y,(f y).isSome=true->y∈l):kvs.length<=l.length:=by
 have:=len_sub (m:=l) r.nd λy hy=>h y (by rw[<- r.Q8];exact qZ.mpr hy)
 rwa [aK]at this
section
variable {S:gS}{d b N K:Nat}{x:Str}{s x6 x7 x8:A}
def EK{kvs:List<|Str×A}(hb:rj S b)(hK:iW S K=some kvs)(Z:kvs.length<=1000):∃(xs:ag) (n:Nat) (S':gS),iO (eFn jB<|gK (gJ 2)<|gK (gT iK (eC<|.int 1)<|eFn h_<|gK (gJ 2)<|gK (eC<|.int 20) gR) gR) (AU (gJ 4)<|gJ 5) [s,.ref d,.ref b,.ref N,.ref K,.str x,x6,x7,x8] S=.nx [s,.ref d,.ref b,.ref N,.ref K,.str x,x6,x7,x8] S'/\xs.Perm (jj 1<|(n:Int)+1)/\1<=n/\n<=20/\rj S' b/\iW S' K=some (nX kvs x<|tI xs)/\Kp (λn=>n=b\/n=K) S S':=by
 obtain⟨G,T1,e3,k0,U,j,F⟩:=digit (m:=20) hb ⋯ ⋯;obtain⟨n,hn⟩:∃n:Nat,(n:Int)=1+G:=⟨(1+G).toNat,by omega⟩;have L:1<=n:=by omega
 have O:n<=20:=by omega
 obtain⟨xs,T2,C,T,p,B⟩:=Jv (S:=T1) (n:=(n:Int)) j (by omega) (by omega);have C:jB [.ref b,.int (n:Int)] T1=.ok (tI xs) T2:=C;have f:=F.trans B;have g:K≠b:=λz=>by
  obtain⟨_,_,e,_⟩:=hb;have:=ig e;rw[<- z,iD hK]at this;cases this
 have J:iW T2 K=some kvs:=Kp.ds f _ _ g hK;have P:=jM<|iD J;have st:tH (.ref K) (.str x) (tI xs) T2=.ok Unit.unit (T2.set K<|.ly<|nX kvs x<|tI xs):=zD J (by omega);have k:Kp (λn=>n=b\/n=K) T2 (T2.set K<|.ly<|nX kvs x<|tI xs):=Kp.refl.vF<|.inl<|.inr rfl;have V:(tI xs).jJ=false:=rfl;refine⟨xs,n,_,?_,T,L,O,p.kp (c:=λn=>n=K) (Kp.refl.vF<|.inl rfl) λz=>g z.symm,wk P,(f.mono λ_ _ z=>.inl z).trans k⟩;dsimp[iG,mL,bools,e3,<- hn,C,za,st]
def zX{xs:ag}{n:Nat}(hK:iW S K=some kvs)(Z:iL kvs x=some (tI xs))(J:xs.Perm<|jj 1<|(n:Int)+1)(n1:1<=n)(U:n<=20)(L:j6 x):∃S',gT iK (gT iK (gT iK (eC<|.str<|PySem.Str.ofString "keep ")<|gJ 5)<|eC<|.str<|PySem.Str.ofString " ") (eFn jd<|gK (gT vC (gJ 4)<|gJ 5) gR) [s,.ref d,.ref b,.ref N,.ref K,.str x,x6,x7,x8] S=.ok (.str<|i7 ("keep" :: x::xs.map Tx.tx)) S'/\jH S S':=by
 obtain⟨C,ne⟩:=lR J n1;have g:vC (.ref K) (.str x) S=.ok (tI xs) S:=Hg hK Z;obtain⟨V,k,kV⟩:=Ei (S:=S) (we J U) (by omega);have m:∀W:gS,iK (.str<|PySem.Str.ofString "keep ") (.str x) W=.ok (.str<|Str.ofString "keep " ++ x) W:=λW=>ou (by have:=L.2.1;rw[show(Str.ofString "keep ").length=5 by decide +kernel];omega);have B:(Str.ofString "keep " ++ x).length=5+x.length:=by rw[Tx.mz,show(Str.ofString "keep ").length=5 by decide +kernel]
 have j:∀W:gS,iK (.str<|Str.ofString "keep " ++ x) (.str<|PySem.Str.ofString " ") W=.ok (.str<|Str.ofString "keep " ++ x++Str.ofString " ") W:=λW=>ou (by have:=L.2.1;rw[show(Str.ofString " ").length=1 by decide +kernel];omega);have f:∀W:gS,iK (.str<|Str.ofString "keep " ++ x++Str.ofString " ") (.str<|jW xs) W=.ok (.str<|i7 ("keep" :: x::xs.map Tx.tx)) W:=λW=>by
  rw[ou (by
   have:=L.2.1;have:=Nz (we J U) (show xs.length<=200 by omega);rw[Tx.mz,show(Str.ofString " ").length=1 by decide +kernel];omega),As x ne]
 have p:(tI xs).jJ=false:=rfl;exact⟨V,by dsimp[iG,mL,bools,m,j,f,g,k],kV⟩
end
structure W1 (S:gS)(d o p b N K:Nat)(nm:ar)(f:Fn)(past:Hi):Prop where
 dk:Dk S d o p nm f past
 hp:past.length<=20
 bg:rj S b
 ln:gQ S N=some (nm.map .str)
 kd:∃kvs,iW S K=some kvs/\Rp nm kvs f
 of:zd f
 di:b≠p/\N≠p/\N≠b/\K≠o
def qX(h:rj S b):∃xs,gQ S b=some xs:=by obtain⟨_,_,e,_⟩:=h;exact⟨_,e⟩
def R9{S:gS}{d p N K:Nat}{nm:ar}{f:Fn}{x:Str}(w:W1 S d o p b N K nm f past)(xm:x∈nm)(hi:∀x∈nm,j6 x)(hn:nm.length<1000)(hc:∀kvs,Rp nm kvs f->kvs.length<40) :
  ∃xs p' S',vM [s,.ref d,.ref b,.ref N,.ref K,.str x,x6,x7,x8] S=.nx [s,.ref d,.ref b,.ref N,.ref K,.str x,x6,x7,x8] S'/\W1 S' d o p' b N K nm (kY f x<|some xs) (rem past x<|f x)/\S.length<=p'/\Kp (λn=>n=b\/n=K\/n=d\/n=o\/n=p) S S':=by
 obtain⟨F,hp,bg,J,⟨kvs,hK,r⟩,of,d1,d2,d3,L⟩:=w;have xi:=hi x xm;have lk:=r.len;obtain⟨bl,j⟩:=qX bg;obtain⟨ko,ho,ro⟩:=F.od;obtain⟨xs,n,S1,e1,px,T,Z,Y,K1,k1⟩:=EK (s:=s) (d:=d) (N:=N) (x6:=x6) (x7:=x7) (x8:=x8) (x:=x) bg hK (by omega);obtain⟨S2,e2,k2⟩:=zX (s:=s) (d:=d) (b:=b) (N:=N) (x6:=x6) (x7:=x7) (x8:=x8) K1 (by rw[uc,aT rfl]) px T Z xi;have B:K≠d:=wR hK F.ob;have C:K≠p:=λz=>jq F.ps hK z.symm;have V:K≠N:=λz=>jq J hK z.symm;have k:b≠d:=kP j F.ob;have G:b≠o:=jq j ho;have U:N≠d:=kP J F.ob;have P:N≠o:=jq J ho;have g:Kp (λn=>n=b\/n=K) S S2:=k1.trans<|Kp.of0 k2;have dk2:Dk S2 d o p nm f past:=F.kp g (λz=>z.elim (λa=>k a.symm) λa=>B a.symm) (λz=>z.elim (λa=>G a.symm) λa=>L a.symm) λz=>z.elim (λa=>d1 a.symm) λa=>C a.symm;obtain⟨p',O,e3,lp,dk3,k3⟩:=wA dk2 hp xi xm hn px T Z<|.inr hc;have l2:=g.len;have lN:=iP J;have lb:=iP j;have lK:=jM<|iD hK;have N2:=g.lst N _ (λz=>z.elim (λa=>d3 a) λa=>V a.symm) J;have m:iX "Desk" "say" g8 (gJ 1) (gK (gT iK (gT iK (gT iK (eC<|.str<|PySem.Str.ofString "keep ")<|gJ 5)<|eC<|.str<|PySem.Str.ofString " ")<|eFn jd<|gK (gT vC (gJ 4)<|gJ 5) gR) gR) [s,.ref d,.ref b,.ref N,.ref K,.str x,x6,x7,x8] S1=.ok (.str "ok") O:=by
  rw[dm (F.kp k1 (λz=>z.elim (λa=>k a.symm) λa=>B a.symm) (λz=>z.elim (λa=>G a.symm) λa=>L a.symm) λz=>z.elim (λa=>d1 a.symm) λa=>C a.symm)<|by dsimp[iG,bools]];rw[xG,e2];dsimp[iG,bools,e3]
 have ok:l7 true (.str "ok") (.str<|PySem.Str.ofString "ok") O=.ok (.bl false) O:=rfl;have own:∀n,n≠d->n≠o->n≠p->¬(n=d\/n=o\/n=p):=λn h1 h2 h3 z=>by rcases z with z|z|z<;>contradiction
 refine⟨xs,p',O,?_,⟨dk3,Kc,(Y.kp k2 λz=>z).kp k3<|own _ k G d1,k3.lst N _ (own _ U P d2) N2,⟨_,Kp.ds k3 K _ (own _ B L C)<|Kp.ds k2 K _ (λz=>z) K1,r.put xm xs⟩,C8 of x px T Z,by omega,by omega,d3,L⟩,by omega,(g.mono λ_ _ z=>z.elim .inl λz=>.inr<|.inl z).trans<|k3.mono λ_ _ z=>.inr<|.inr z⟩;unfold vM;dsimp[qT,e1,RS.BS,↓m,ok,iG,mL,bools]
end K87
namespace K87
open PySem L2 Am
abbrev Dom (nm:ar)(f:Fn):Prop:=∀y,(f y).isSome=true ↔ y∈nm.take 40
def QV{nm:ar}{f:Fn}(h:Dom nm f){x:Str}(j:x∈nm.take 40)(xs:ag):Dom nm (kY f x<|some xs):=λy=>by
 unfold kY;by_cases c:y=x
 ·rw[aT c,c];exact⟨λ_=>j,λ_=>rfl⟩
 ·rw[aQ c];exact h y
structure W2 (S:gS)(d o p b N K G:Nat)(nm:ar)(pre:Hi)(f:Fn)(P:Hi)(hs:Hs):Prop where
 dk:Dk S d o p nm f (FA<|pre++P)
 bg:rj S b
 ln:gQ S N=some (nm.map .str)
 st:St S G nm (hs++[(K,f)])
 ch:Ch nm hs f P
 no:∀q∈hs++[(K,f)],q.1≠o
 nd:((hs++[(K,f)]).map (·.1)).Nodup
 al:∀q∈hs++[(K,f)],Dom nm q.2
 di:b≠p/\N≠p/\N≠b/\G≠p/\G≠b/\G≠N
def RK(x:Str):Str.empty++Str.ofString "lead " ++ x++Str.ofString " -" = i7 ("lead" :: x::xH []):=by
 rw[uJ _ _ _<|by unfold xH;simp];refine pF ?_;rw[jb,jb,jb,jb,jb,jb,jb,show C (i7<|xH [])=[45]by decide +kernel,show C (Str.ofString "lead ")=C ("lead" : Str)++[32]by decide +kernel,show C (Str.ofString " -")=[32,45]by decide +kernel,show C Str.empty=[]from rfl];simp[C]
def K8{x:Str}{a c d g:A}(j:j6 x):Nt [.inl "lead ",.inr<|gJ 5,.inl " -"] [a,b,c,d,e,.str x,g,h,i] S=.ok (.str<|i7 ("lead" :: x::xH [])) S:=by
 rw[IV];show R.bind (gd ((Str.ofString "lead ").length<=1000) _) _=_;rw[k_<|show(Str.ofString "lead ").length<=1000 by decide +kernel];show R.bind (R.bind (gJ 5 [a,b,c,d,e,.str x,g,h,i] S) _) _=_;rw[show gJ 5 [a,b,c,d,e,.str x,g,h,i] S=.ok (.str x) S from rfl,R.jl];show R.bind (gd (x.length<=1000) _) _=_;rw[k_ (show x.length<=1000 by have:=j.2.1;omega)];show R.bind (gd ((Str.ofString " -").length<=1000) _) _=_;rw[k_<|show(Str.ofString " -").length<=1000 by decide +kernel,<- RK];rfl
def Sj{d p N K G:Nat}{nm:ar}{pre:Hi}{f:Fn}{P:Hi}{hs:Hs}{i:Int}(w:W2 S d o p b N K G nm pre f P hs)(hi:∀x∈nm,j6 x)(hn:nm.length=41)(hl:hs.length<=100) :
  ∃y5 y8 p' K' S' f' P',sP [s,.ref d,.ref b,.ref N,.ref K,x5,.ref G,.int i,x8] S=.nx [s,.ref d,.ref b,.ref N,.ref K',y5,.ref G,.int i,y8] S'/\W2 S' d o p' b N K' G nm pre f' P' (hs++[(K,f)]):=by
 obtain⟨L,bg,ln,st,ch,no,nd,al,d1,d2,d3,d4,d5,d6⟩:=w;obtain⟨bl,J⟩:=qX bg;obtain⟨ko,ho,ro⟩:=L.od;have nbd:b≠d:=kP J L.ob;have nbo:b≠o:=jq J ho;have nNd:N≠d:=kP ln L.ob;have nNo:N≠o:=jq ln ho;have nGd:G≠d:=kP st.ls L.ob;have nGo:G≠o:=jq st.ls ho;have qb:∀q∈hs++[(K,f)],q.1≠b/\q.1≠d/\q.1≠p/\q.1≠G/\q.1≠N/\q.1<S.length:=λq B=>by
  obtain⟨kv,e,_⟩:=st.ds q B;exact⟨λz=>jq J e z.symm,wR e L.ob,λz=>jq L.ps e z.symm,λz=>jq st.ls e z.symm,λz=>jq ln e z.symm,jM<|iD e⟩
 obtain⟨j,S1,e1,j0,j1,bg1,k1⟩:=digit (m:=40) bg ⋯ ⋯;have N1:=k1.lst N _ d3 ln;have dk1:=L.kp k1 nbd.symm nbo.symm d1.symm;have st1:=st.kp k1 d5 λq B=>(qb q B).1;have hj:j.toNat<nm.length:=by omega
 obtain⟨x,hx⟩:∃x,x=nm[j.toNat]:=⟨_,rfl⟩;have xt:x∈nm.take 40:=by
  rw[hx];refine dG.mpr ⟨j.toNat,by rw[cM];omega,?_⟩;rw[List.getElem_take]
 have xm:=List.mem_of_mem_take xt;have xi:=hi x xm;have q1:jv (.ref N) (.int j) S1=.ok (.str x) S1:=by
  show opt (gQ S1 N) _=_;rw[N1,ie];have:oA (nm.map A.str) j=some (.str x):=by
   unfold oA;rw[oJ (k:=j.toNat) (by omega)<|by rw[aK];exact hj,c8,bE,aN hj,hx];rfl
  rw[this];rfl
 obtain⟨kvs,hK,r⟩:=st1.ds (K,f) (by simp);have lk:=r.len;obtain⟨T,hT⟩:∃T,T=S1++[O.ly kvs]:=⟨_,rfl⟩;have q3:xg (.ref K) S1=.ok (.ref S1.length) T:=by
  show opt (iW S1 K) _=_;rw[hK,hT];rfl
 have lS1:=k1.len;have lT:T.length=S1.length+1:=by rw[hT];simp
 have kT:jH S1 T:=by rw[hT];exact Kp.refl.lay
 have dkT:=dk1.kp kT (λz=>z) (λz=>z) λz=>z;have U0:=st1.kp kT (λz=>z) λ_ _ z=>z;have bgT:=bg1.kp kT λz=>z;have NT:=kT.lst N _ (λz=>z) N1;have KT:iW T S1.length=some kvs:=by rw[hT];exact nQ (by simp)
 obtain⟨w,S2,e2,w0,w1,bg2,k2⟩:=digit (m:=4) bgT ⋯ ⋯;have dk2:=dkT.kp k2 nbd.symm nbo.symm d1.symm;have st2:=U0.kp k2 d5 λq B=>(qb q B).1;have N2:=k2.lst N _ d3 NT;have lb:=iP J;have lN:=iP ln;have lG:=iP st.ls;have ld:=jM L.ob;have lo:=jM<|iD ho;have lp:=iP L.ps;have K2:iW S2 S1.length=some kvs:=Kp.ds k2 _ _ (by omega) KT;have l2:=k2.len;have hf:∃xs,f x=some xs:=bY.mp ((al (K,f) (by simp) x).mpr xt);obtain⟨xs,hf⟩:=hf;obtain⟨n,px,n1,n2⟩:=ch.F8 x xs hf;obtain⟨lx,ne⟩:=lR px n1;have fin:∀(U F:gS) (row:Str) (ys:ag) (m p':Nat),om (mF<|gT GI (eFn h_<|gK (gJ 2)<|gK (eC<|.int 4) gR)<|eC<|.int 0) (ir (iO (eFn jB<|gK (gJ 2)<|gK (gT iK (eC<|.int 1)<|eFn h_<|gK (gJ 2)<|gK (eC<|.int 20) gR) gR)<|AU (gJ 4)<|gJ 5)<|iO (gT iK (gT iK (gT iK (eC<|.str<|PySem.Str.ofString "keep ")<|gJ 5)<|eC<|.str<|PySem.Str.ofString " ")<|eFn jd<|gK (gT vC (gJ 4)<|gJ 5) gR)<|jc 8) jF [s,.ref d,.ref b,.ref N,.ref S1.length,.str x,.ref G,.int i,.str<|i7 ("lead" :: x::xH [])] T=.nx [s,.ref d,.ref b,.ref N,.ref S1.length,.str x,.ref G,.int i,.str row] U->Kp (λn=>n=b\/n=S1.length) T U->rj U b->(∃kv,iW U S1.length=some kv/\Rp nm kv (kY f x<|some ys))->ys.Perm (jj 1<|(m:Int)+1)->1<=m->m<=20 ->
   g8 [.ref d,.str row] U=.ok (.str "ok") F->U.length<=p'->Dk F d o p' nm (kY f x<|some ys) (rem (FA<|pre++P) x<|f x)->Kp (λn=>n=d\/n=o\/n=p) U F ->
   ∃y5 y8 p' K' S' f' P',sP [s,.ref d,.ref b,.ref N,.ref K,x5,.ref G,.int i,x8] S=.nx [s,.ref d,.ref b,.ref N,.ref K',y5,.ref G,.int i,y8] S'/\W2 S' d o p' b N K' G nm pre f' P' (hs++[(K,f)]):=λU F row ys m p' hU kU bU ⟨kv,dU,rU⟩ py m1 m2 e3 Y dk3 k3=>by
  have lU:=kU.len;have l3:=k3.len;have own:∀n,n≠d->n≠o->n≠p->¬(n=d\/n=o\/n=p):=λn h1 h2 h3 z=>by rcases z with z|z|z<;>contradiction
  have stU:=U0.kp kU (by omega) λq B=>by have:=qb q B;omega
  have Z:=stU.kp k3 (own _ nGd nGo d4) λq B=>own _ (qb q B).2.1 (no q B) (qb q B).2.2.1;have N3:=k3.lst N _ (own _ nNd nNo d2) (kU.lst N _ (by omega) NT);have b3:=bU.kp k3<|own _ nbd nbo d1;have K3:=Kp.ds k3 _ _ (own _ (by omega) (by omega)<|by omega) dU;obtain⟨S4,h4⟩:∃S4,S4=F.set G (.lst<|((hs++[(K,f)])++[(S1.length,kY f x<|some ys)]).map λh=>A.ref h.1):=⟨_,rfl⟩;have ap:mP (.ref G) [.ref S1.length] F=.ok .non S4:=by
   show opt (gQ F G) _=_;rw[Z.ls,ie];have e:(hs++[(K,f)]).map (λh=>A.ref h.1)++[A.ref S1.length]=((hs++[(K,f)])++[(S1.length,kY f x<|some ys)]).map λh=>A.ref h.1:=by rw[bV (l₁:=hs++[(K,f)])];rfl
   show gd (((hs++[(K,f)]).map λh=>A.ref h.1).length<sizeLine) (R.ok A.non<|F.set G<|.lst<|((hs++[(K,f)]).map λh=>A.ref h.1)++[A.ref S1.length])=_;rw[k_<|by rw[bD,aK,aZ,dj];omega,e,h4]
  have V:Kp (λn=>n=G) F S4:=by rw[h4];exact(Kp.refl (b:=λn=>n=G)).set (.inl rfl)
  have G3:=iP Z.ls;have dk4:=dk3.kp V nGd.symm nGo.symm (by omega);have l20:rem (FA<|pre++P) x (f x)=FA (pre++(P++[(x,f x)])):=by rw[D8,bW]
  rw[l20]at dk4;refine⟨.str x,.str row,p',S1.length,S4,kY f x<|some ys,P++[(x,f x)],?_,dk4,b3.kp V λz=>d5 z.symm,V.lst N _ (λz=>d6 z.symm) N3,⟨by rw[h4];exact j4 G3,λq B=>?_⟩,.snoc ch xm (λz=>by rw[hf]at z;cases z)<|C8 ch.F8 x py m1 m2,λq B=>?_,?_,λq B=>?_,by omega,by omega,d3,by omega,d5,d6⟩
  ·have um:gJ 8 [s,.ref d,.ref b,.ref N,.ref S1.length,.str x,.ref G,.int i,.str row] U=.ok (.str row) U:=rfl;have mm:iX "Desk" "say" g8 (gJ 1) (gK (gJ 8) gR) [s,.ref d,.ref b,.ref N,.ref S1.length,.str x,.ref G,.int i,.str row] U=.ok (.str "ok") F:=by
    rw[dm (dkT.kp kU (by omega) (by omega)<|by omega)<|by dsimp[iG,bools]];dsimp[iG,bools,um,e3]
   have ok:l7 true (.str "ok") (.str<|PySem.Str.ofString "ok") F=.ok (.bl false) F:=rfl;have fv:=K8 (S:=T) (a:=s) (b:=.ref d) (c:=.ref b) (d:=.ref N) (e:=.ref S1.length) (g:=.ref G) (h:=.int i) (i:=x8) xi;unfold sP;dsimp[qT,iG,mL,bools,e1,q1,q3,↓fv,↓hU,↓mm,ok,Z.ls,↓ap]
  ·rcases bQ.mp B with z|z
   ·obtain⟨kv',e,rr⟩:=Z.ds q z;exact⟨kv',Kp.ds V _ _ (qb q z).2.2.2.1 e,rr⟩
   ·rw[bB]at z;rw[z];exact⟨kv,Kp.ds V _ _ (by omega) K3,rU⟩
  ·rcases bQ.mp B with z|z
   ·exact no q z
   ·rw[bB]at z;rw[z];show S1.length≠o;omega
  ·rw[bV,cK];refine⟨nd,by simp,λa ha c hc z=>?_⟩;obtain⟨q,B,rfl⟩:=bJ.mp ha;have:c=S1.length:=by simpa using hc
   have:=(qb q B).2.2.2.2.2;omega
  ·rcases bQ.mp B with z|z
   ·exact al q z
   ·rw[bB]at z;rw[z];exact QV (al (K,f)<|by simp) xt ys
 have gt:∀U:gS,GI (.int w) (.int 0) U=.ok (.bl<|decide<|0<w) U:=λU=>by dsimp[iG]
 have C:=Kf<|pre++P;by_cases c:0<w
 ·obtain⟨ys,m,F,e3,py,m1,m2,bg3,K3,k3⟩:=EK (s:=s) (d:=d) (N:=N) (x6:=.ref G) (x7:=.int i) (x8:=.str<|i7 ("lead" :: x::xH [])) (x:=x) bg2 K2 (by omega);obtain⟨S4,e4,V⟩:=zX (s:=s) (d:=d) (b:=b) (N:=N) (x6:=.ref G) (x7:=.int i) (x8:=.str<|i7 ("lead" :: x::xH [])) K3 (by rw[uc,aT rfl]) py m1 m2 xi;have kU:Kp (λn=>n=b\/n=S1.length) T S4:=((k2.mono λ_ _ z=>.inl z).trans k3).trans<|Kp.of0 V;obtain⟨p',S5,e5,Y,dk5,k5⟩:=wA (dkT.kp kU (by omega) (by omega)<|by omega) C xi xm (by omega) py m1 m2 (.inl<|by rw[hf];rfl);refine fin S4 S5 _ ys m p' ?_ kU (bg3.kp V λz=>z) ⟨_,Kp.ds V _ _ (λz=>z) K3,r.put xm ys⟩ py m1 m2 e5 Y dk5 k5;dsimp[qT,iG,mL,bools,e2,gt,bF c,↓e3,↓e4]
 ·obtain⟨p',S5,e5,Y,dk5,k5⟩:=IB dk2 C xi xm (by omega) hf (by omega) (ks:=[]) (by simp) (by simp);have fs:kY f x (some xs)=f:=Af hf;refine fin S2 S5 _ xs n p' ?_ (k2.mono λ_ _ z=>.inl z) bg2 ⟨kvs,K2,by rw[fs];exact r⟩ px n1 n2 e5 Y dk5 k5;dsimp[qT,iG,mL,bools,e2,gt,bK c]
end K87
namespace K87
open PySem L2 Am
structure W3 (S:gS)(d o p N G:Nat)(nm:ar)(c:Nat)(f:Fn)(P:Hi)(H:Hs):Prop where
 dk:Dk S d o p nm f (P.drop c)
 ln:gQ S N=some (nm.map .str)
 st:St S G nm H
 ch:Ch nm H f P
 no:∀q∈H,q.1≠o
 nd:(H.map (·.1)).Nodup
 al:∀q∈H,Dom nm q.2
 di:N≠p/\G≠p/\G≠N
def Sb{d p N G c:Nat}{nm:ar}{f:Fn}{P:Hi}{H:Hs}{i:Int}(w:W3 S d o p N G nm c f P H)(hi:∀x∈nm,j6 x)(hn:nm.length=41)(hl:c<H.length)(i0:0<=i) :
  ∃K' S' f' P' H',sS [s,.ref d,b,.ref N,x4,x5,.ref G,.int i,x8] S=.nx [s,.ref d,b,.ref N,.ref K',x5,.ref G,.int i,x8] S'/\W3 S' d o p N G nm c f' P' H'/\H'.length+1=H.length/\K'≠o/\(i % 5≠0->∃kvs,iW S' K'=some kvs/\Rp nm kvs f')/\Dom nm f':=by
 obtain⟨O,ln,st,ch,no,T,al,d2,d4,d6⟩:=w;have pl:=ch.len
 rcases ch.inv with⟨z,_⟩|⟨j,K,g,x,v,C,rfl,rfl,rfl,xm,hv,ch'⟩
 ·rw[z]at hl;exact absurd hl (by simp)
 have pl':=ch'.len;rw[aZ,dj]at hl;rw[fR<|by omega]at O;obtain⟨ko,ho,ro⟩:=O.od;have nNd:N≠d:=kP ln O.ob;have nNo:N≠o:=jq ln ho;have Z:G≠d:=kP st.ls O.ob;have Y:G≠o:=jq st.ls ho;have qb:∀q∈j++[(K,g)],q.1≠d/\q.1≠p/\q.1≠G/\q.1≠N:=λq k=>by
  obtain⟨kv,e,_⟩:=st.ds q k;exact⟨wR e O.ob,λz=>jq O.ps e z.symm,λz=>jq st.ls e z.symm,λz=>jq ln e z.symm⟩
 have J:(K,g)∈j++[(K,g)]:=by simp
 obtain⟨kvs,hK,r⟩:=st.ds (K,g) J;have em:(j++[(K,g)]).map (λh=>A.ref h.1)=j.map (λh=>A.ref h.1)++[.ref K]:=by rw[bV];rfl
 have lG:=iP st.ls;obtain⟨S1,h1⟩:∃S1,S1=S.set G (.lst<|j.map λh=>A.ref h.1):=⟨_,rfl⟩;have pp:zS (.ref G) [] S=.ok (.ref K) S1:=by
  show opt (gQ S G) _=_;rw[st.ls,em,ie];show opt ((j.map (λh=>A.ref h.1)++[A.ref K])[(j.map (λh=>A.ref h.1)++[A.ref K]).length-1]?) _=_;rw[show(j.map (λh=>A.ref h.1)++[A.ref K]).length-1=(j.map λh=>A.ref h.1).length by simp,c_<|aO _,gC];show R.ok (A.ref K) (S.set G<|.lst (j.map (λh=>A.ref h.1)++[A.ref K]).dropLast)=_;rw[List.dropLast_concat,h1]
 have pm:FH zS (gJ 6) [s,.ref d,b,.ref N,x4,x5,.ref G,.int i,x8] S=.ok (.ref K) S1:=by
  show((gJ 6 [s,.ref d,b,.ref N,x4,x5,.ref G,.int i,x8] S).bind λo S1=>opt (o.lst? S1) λ_=>zS o [] S1)=_;rw[show gJ 6 [s,.ref d,b,.ref N,x4,x5,.ref G,.int i,x8] S=.ok (.ref G) S from rfl,R.jl];show opt (gQ S G) _=_;rw[st.ls,ie,pp]
 have k1:Kp (λn=>n=G) S S1:=by rw[h1];exact(Kp.refl (b:=λn=>n=G)).set (.inl rfl)
 have dk1:=O.kp k1 Z.symm Y.symm d4.symm;have G1:gQ S1 G=some (j.map λh=>A.ref h.1):=by rw[h1];exact j4 lG
 have fx:kY g x v x=v:=by unfold kY;rw[aT rfl]
 obtain⟨B,e2,F,k2⟩:=G2 dk1 xm (by omega) (λz=>by rw[fx];exact hv z);have e5:kY (kY g x v) x (g x)=g:=by rw[L8,Af rfl]
 have F:Dk B d o p nm (kY (kY g x v) x<|g x) (C.drop c):=F;rw[e5]at F;have own:∀n,n≠d->n≠o->n≠p->¬(n=d\/n=o\/n=p):=λn h1 h2 h3 z=>by rcases z with z|z|z<;>contradiction
 have dsk:∀q∈j++[(K,g)],∃kv,iW B q.1=some kv/\Rp nm kv q.2:=λq k=>by
  obtain⟨kv,e,rr⟩:=st.ds q k;obtain⟨b1,b2,b3,b4⟩:=qb q k;exact⟨kv,Kp.ds k2 _ _ (own _ b1 (no q k) b2)<|Kp.ds k1 _ _ b3 e,rr⟩
 have V:St B G nm j:=⟨k2.lst G _ (own _ Z Y d4) G1,λq k=>dsk q<|bC _ k⟩;have N2:=k2.lst N _ (own _ nNd nNo d2)<|k1.lst N _ (λz=>d6 z.symm) ln;obtain⟨kv2,K2,r2⟩:=dsk (K,g) J;have m:iX "Desk" "say" g8 (gJ 1) (gK (eC<|.str<|PySem.Str.ofString "undo") gR) [s,.ref d,b,.ref N,.ref K,x5,.ref G,.int i,x8] S1=.ok (.str "ok") B:=by
  rw[dm dk1<|by dsimp[iG,bools]];have:g8 [.ref d,.str<|PySem.Str.ofString "undo"] S1=.ok (.str "ok") B:=e2;dsimp[iG,bools,this]
 have ok:l7 true (.str "ok") (.str<|PySem.Str.ofString "ok") B=.ok (.bl false) B:=rfl;have md:rg (.int i) (.int 5) B=.ok (.int<|i % 5) B:=vg ⋯;have v4:∀U:gS,gJ 4 [s,.ref d,b,.ref N,.ref K,x5,.ref G,.int i,x8] U=.ok (.ref K) U:=λU=>rfl;by_cases z5:i % 5=0
 ·obtain⟨S3,e3,k3⟩:=wg F hi K2 r2 ch'.F8 (no _ J) (by omega);have L:l7 false (.int<|i % 5) (.int 0) B=.ok (.bl true) B:=by rw[z5];rfl
  obtain⟨b1,b2,b3,b4⟩:=qb _ J;have nk:∀q∈j,q.1≠K:=λq k z=>by
   rw[bV,cK]at T;exact T.2.2 q.1 (bJ.mpr ⟨q,k,rfl⟩) K (by simp) z
  refine⟨K,S3,g,C,j,?_,⟨F.kp k3 b1.symm (no _ J).symm b2.symm,k3.lst N _ b4.symm N2,V.kp k3 b3.symm nk,ch',λq k=>no q<|bC _ k,?_,λq k=>al q<|bC _ k,d2,d4,d6⟩,by rw[aZ];rfl,no _ J,λz=>absurd z5 z,al _ J⟩
  ·unfold sS;dsimp[iG,mL,bools,jD,Nat.reduceAdd,↓pm,↓m,ok,md,L,e3,cj]
  ·rw[bV,cK]at T;exact T.1
 ·have L:l7 false (.int<|i % 5) (.int 0) B=.ok (.bl false) B:=by
   have:yy B 12 (.int<|i % 5) (.int 0)=some (i % 5 == 0):=rfl;rw[xA this,b7.mpr z5]
  refine⟨K,B,g,C,j,?_,⟨F,N2,V,ch',λq k=>no q<|bC _ k,?_,λq k=>al q<|bC _ k,d2,d4,d6⟩,by rw[aZ];rfl,no _ J,λ_=>⟨kv2,K2,r2⟩,al _ J⟩
  ·unfold sS;dsimp[iG,mL,bools,jD,Nat.reduceAdd,↓pm,↓m,ok,md,L]
  ·rw[bV,cK]at T;exact T.1
end K87
namespace K87
open PySem L2 Am
def Pr(xs:ae)(k:Nat):nH xs none (some (k:Int))=xs.take k:=by
 have e1:HT.kK xs.length xs.length (some (k:Int))=min k xs.length:=by
  show(if (k:Int)<0 then((k:Int)+(xs.length:Int)).toNat else min (k:Int).toNat xs.length)=_;rw[aQ<|by omega];rfl
 unfold nH;rw[e1];show(xs.drop 0).take (min k xs.length-0)=xs.take k;rw[fE,Nat.sub_zero];by_cases h:k<=xs.length
 ·rw[gG h]
 ·rw[Nat.min_eq_right<|by omega,List.take_length,cQ<|by omega]
def Iw{nm:ar}{i:Nat}{f:Fn}{x:Str}(h:∀y,(f y).isSome=true ↔ y∈nm.take i)(j:nm[i]?=some x):∀y,(kY f x (some xs) y).isSome=true ↔ y∈nm.take (i+1):=λy=>by
 rw[List.take_add_one,j];unfold kY;by_cases c:y=x
 ·rw[aT c,c];simp
 ·rw[aQ c,h y];simp[c]
def V7{d p N K:Nat}{nm:ar}(w:W1 S d o p b N K nm (λ_=>none) [])(hi:∀x∈nm,j6 x)(hn:nm.length=41):∃x5 p' f past S',oY zI (jc 5) vM [s,.ref d,.ref b,.ref N,.ref K,.unb,.unb,.unb,.unb] S=.nx [s,.ref d,.ref b,.ref N,.ref K,x5,.unb,.unb,.unb] S'/\W1 S' d o p' b N K nm f past/\Dom nm f:=by
 have L:zI [s,.ref d,.ref b,.ref N,.ref K,.unb,.unb,.unb,.unb] S=.ok (kM S.length ((nm.take 40).map A.str).length) (S++[O.lst<|(nm.take 40).map A.str]):=by
  have V:nH (nm.map A.str) none (some 40)=(nm.take 40).map A.str:=by rw[map_take];exact Pr _ 40
  refine ud ?_ iu;dsimp[iG,bools,w.ln,V]
 have tl:(nm.take 40).length=40:=by rw[cM];omega
 obtain⟨bl,B⟩:=qX w.bg;have lb:=iP B;have lN:=iP w.ln;have lp:=iP w.dk.ps;obtain⟨ko,Y,Z⟩:=w.dk.od;have lo:=jM<|iD Y;have ld:=jM w.dk.ob;obtain⟨kvs,hK,r⟩:=w.kd;have lK:=jM<|iD hK;refine Er (n:=S.length) (xs:=(nm.take 40).map .str) (S1:=S++[O.lst<|(nm.take 40).map A.str]) L (λi τ S'=>∃x5 p' f past,τ=[s,.ref d,.ref b,.ref N,.ref K,x5,.unb,.unb,.unb]/\W1 S' d o p' b N K nm f past/\(∀y,(f y).isSome=true ↔ y∈nm.take i)/\gQ S' S.length=some ((nm.take 40).map .str)/\p'≠S.length/\i<=40) (λr=>∃x5 p' f past S',r=.nx [s,.ref d,.ref b,.ref N,.ref K,x5,.unb,.unb,.unb] S'/\W1 S' d o p' b N K nm f past/\Dom nm f)
  ⟨.unb,p,_,_,rfl,⟨w.dk.kp (Kp.refl.lay:jH S<|S++[O.lst<|(nm.take 40).map A.str]) (λz=>z) (λz=>z) λz=>z,w.hp,w.bg.kp (Kp.refl.lay:jH S<|S++[O.lst<|(nm.take 40).map A.str]) λz=>z,kR w.ln,⟨kvs,Kp.ds (Kp.refl.lay:jH S<|S++[O.lst<|(nm.take 40).map A.str]) _ _ (λz=>z) hK,r⟩,w.of,w.di⟩,λy=>by simp,iu,by omega,by omega⟩ (λi τ S' h=>by
   obtain⟨_,_,_,_,_,_,_,z,_⟩:=h;exact z) ?_ ?_
 ·rintro i y τ S' hy ⟨x5,p',f,past,rfl,C,g,m,np,T⟩;rw[bE]at hy;obtain⟨x,F,rfl⟩:=aV.mp hy;have k:i<40:=by
   have:=(aM.mp F).1;omega
  have j:nm[i]?=some x:=by rw[List.getElem?_take]at F;rwa [aT k]at F
  have U:=bI j;obtain⟨xs,p2,G,e,J,P,k2⟩:=R9 (s:=s) (x6:=.unb) (x7:=.unb) (x8:=.unb) C U hi (by omega) (λkvs r=>by
   have:=Ii r λy hy=>(g y).mp hy;rw[cM]at this;omega)
  have l1:S.length<S'.length:=iP m;exact⟨_,S',rfl,.inl ⟨_,G,e,.str x,p2,_,_,rfl,J,Iw g j,k2.lst _ _ (λz=>by omega) m,by omega,by omega⟩⟩
 ·rintro τ S' ⟨x5,p',f,past,rfl,C,g,_⟩;rw[aK,tl]at g;exact⟨x5,p',f,past,S',rfl,C,g⟩
def Wb{d p N K G:Nat}{nm:ar}{pre:Hi}{f:Fn}(w:W2 S d o p b N K G nm pre f [] [])(hi:∀x∈nm,j6 x)(hn:nm.length=41):∃x5' x7 x8 p' K' S' f' P' hs,oY zH (jc 7) sP [s,.ref d,.ref b,.ref N,.ref K,x5,.ref G,.unb,.unb] S=.nx [s,.ref d,.ref b,.ref N,.ref K',x5',.ref G,x7,x8] S'/\W2 S' d o p' b N K' G nm pre f' P' hs/\19<=hs.length/\hs.length<=25:=by
 obtain⟨j,S1,e1,j0,j1,B,k1⟩:=digit (m:=7) w.bg ⋯ ⋯;obtain⟨bl,g⟩:=qX w.bg;obtain⟨ko,ho,ro⟩:=w.dk.od;obtain⟨d1,d2,O,d4,d5,d6⟩:=w.di;have k:b≠d:=kP g w.dk.ob;have F:b≠o:=jq g ho;have U:W2 S1 d o p b N K G nm pre f [] []:=⟨w.dk.kp k1 k.symm F.symm d1.symm,B,k1.lst N _ O w.ln,w.st.kp k1 d5 λq Z=>(by
  obtain⟨kv,e,_⟩:=w.st.ds q Z;exact λz=>jq g e z.symm),w.ch,w.no,w.nd,w.al,w.di⟩
 have src:zH [s,.ref d,.ref b,.ref N,.ref K,x5,.ref G,.unb,.unb] S=.ok (qv 0<|19+j) S1:=tR (by dsimp[iG,bools,e1]) (by unfold bnd;omega);refine tW (S:=S) (S1:=S1) (lo:=0) (hi:=19+j) src (λi τ S=>∃x5' x7 x8 p' K' f' P' hs,τ=[s,.ref d,.ref b,.ref N,.ref K',x5',.ref G,x7,x8]/\W2 S d o p' b N K' G nm pre f' P' hs/\hs.length=i) (λr=>∃x5' x7 x8 p' K' S' f' P' hs,r=.nx [s,.ref d,.ref b,.ref N,.ref K',x5',.ref G,x7,x8] S'/\W2 S' d o p' b N K' G nm pre f' P' hs/\19<=hs.length/\hs.length<=25) ⟨x5,.unb,.unb,p,K,f,[],[],rfl,U,rfl⟩ ?_ ?_
 ·rintro i τ S V ⟨x5',x7,x8,p',K',f',P',hs,rfl,C,J⟩;obtain⟨T,y8,p2,K2,P,f2,L,e,Y⟩:=Sj (s:=s) (x5:=x5') (x8:=x8) (i:=0+i) C hi hn (by omega);exact .inl ⟨_,P,e,T,_,y8,p2,K2,f2,L,_,rfl,Y,by rw[aZ,J];rfl⟩
 ·rintro τ S ⟨x5',x7,x8,p',K',f',P',hs,rfl,C,J⟩;exact⟨x5',x7,x8,p',K',S,f',P',hs,rfl,C,by omega,by omega⟩
def V_{d p N G c:Nat}{nm:ar}{f:Fn}{P:Hi}{H:Hs}(w:W3 S d o p N G nm c f P H)(hi:∀x∈nm,j6 x)(hn:nm.length=41)(U:H.length=c+20):∃K' x7' S' f' P' H',oY Dm (jc 7) sS [s,.ref d,b,.ref N,x4,x5,.ref G,x7,x8] S=.nx [s,.ref d,b,.ref N,.ref K',x5,.ref G,x7',x8] S'/\W3 S' d o p N G nm c f' P' H'/\H'.length=c/\K'≠o/\(∃kvs,iW S' K'=some kvs/\Rp nm kvs f')/\Dom nm f':=by
 refine tW (S:=S) (S1:=S) (lo:=0) (hi:=20) (tR rfl<|by unfold bnd;omega) (λi τ S=>(∃j m f P H,τ=[s,.ref d,b,.ref N,j,x5,.ref G,m,x8]/\W3 S d o p N G nm c f P H/\H.length+i=c+20/\(i=20->∃K',j=.ref K'/\K'≠o/\(∃kvs,iW S K'=some kvs/\Rp nm kvs f)/\Dom nm f))) (λr=>∃K' x7' S' f' P' H',r=.nx [s,.ref d,b,.ref N,.ref K',x5,.ref G,x7',x8] S'/\W3 S' d o p N G nm c f' P' H'/\H'.length=c/\K'≠o/\(∃kvs,iW S' K'=some kvs/\Rp nm kvs f')/\Dom nm f') ⟨x4,x7,f,P,H,rfl,w,U,λz=>absurd z ⋯⟩ ?_ ?_
 ·rintro i τ S L ⟨j,m,f,P,H,rfl,C,k,_⟩;obtain⟨K',J,f2,F,H2,e,O,K,no,hs,g⟩:=Sb (s:=s) (b:=b) (x4:=j) (x5:=x5) (x8:=x8) (i:=0+i) C hi hn (by omega) (by omega);exact .inl ⟨_,J,e,_,_,f2,F,H2,rfl,O,by omega,λz=>⟨K',rfl,no,hs<|by omega,g⟩⟩
 ·rintro τ S ⟨j,m,f,P,H,rfl,C,k,B⟩;obtain⟨K',rfl,no,hs,g⟩:=B rfl;exact⟨K',m,S,f,P,H,rfl,C,by
   have:H.length+20=c+20:=k;omega,no,hs,g⟩
end K87
namespace K87
open PySem L2 Am
def yb(x:Str){xs:ag}(h:xs≠[])(j:C t=32::C (jW xs)):Str.ofString "keep " ++ x++t=i7 ("keep" :: x::xs.map Tx.tx):=by
 rw[<- As x h];refine pF ?_;rw[jb,jb,jb,jb,jb,j,show C (Str.ofString " ")=[32]by decide +kernel];simp
def Lr(x y:Str):Str.empty++Str.ofString "back " ++ x++Str.ofString " " ++ y=i7 ["back",x,y]:=by
 rw[uJ _ _ _<|by simp];refine pF ?_;have:C (i7 [y])=C y:=rfl;rw[jb,jb,jb,jb,jb,jb,jb,jb,this,show C (Str.ofString "back ")=C ("back" : Str)++[32]by decide +kernel,show C (Str.ofString " ")=[32]by decide +kernel,show C Str.empty=[]from rfl];simp[C]
def LP{x:Str}{e1 e2:Ex}(h1:e1 τ T=.ok (.str x) T)(j:e2 τ T=.ok (.str y) T)(J:j6 x)(hy:j6 y):Nt [.inl "back ",.inr e1,.inl " ",.inr e2] τ T=.ok (.str<|i7 ["back",x,y]) T:=by
 rw[IV];show R.bind (gd ((Str.ofString "back ").length<=1000) _) _=_;rw[k_<|show(Str.ofString "back ").length<=1000 by decide +kernel];show R.bind (R.bind (e1 τ T) _) _=_;rw[h1,R.jl];show R.bind (gd (x.length<=1000) _) _=_;rw[k_ (show x.length<=1000 by have:=J.2.1;omega)];show R.bind (gd ((Str.ofString " ").length<=1000) _) _=_;rw[k_<|show(Str.ofString " ").length<=1000 by decide +kernel];show R.bind (R.bind (e2 τ T) _) _=_;rw[j,R.jl];show R.bind (gd (y.length<=1000) _) _=_;rw[k_ (show y.length<=1000 by have:=hy.2.1;omega),<- Lr];rfl
def O4:([2,1]:ag).Perm (jj 1<|((2:Nat):Int)+1):=by decide +kernel
def Wg:([1]:ag).Perm (jj 1<|((1:Nat):Int)+1):=by decide +kernel
def Pb(ns:ag)(hl:ns.length<=63):∃S',yl [.frz<|ns.map .int] []=.ok (.bl true) S':=by
 obtain⟨s,hs⟩:∃s,s=A.frz (ns.map .int):=⟨_,rfl⟩;have mk:∃S',Bu "Desk" jn [s,.unb,.unb,.unb,.unb,.unb,.unb,.unb,.unb] []=.ok (.ref 0) S'/\(∀nm,Dk S' 0 1 2 nm (λ_=>none) [])/\S'.length=3:=by
  obtain⟨S',e,_,k,l⟩:=Dw (S:=[]) (τ:=[s,.unb,.unb,.unb,.unb,.unb,.unb,.unb,.unb]) (nm:=[]);refine⟨S',e,λnm=>?_,l⟩;obtain⟨S2,e2,D,_⟩:=Dw (S:=[]) (τ:=[s,.unb,.unb,.unb,.unb,.unb,.unb,.unb,.unb]) (nm:=nm);rw[e]at e2
  cases e2
  exact D
 obtain⟨S1,e1,D1,l1⟩:=mk;obtain⟨S2,e2,bg2,k2⟩:=Dy (S:=S1) (ns:=ns) (k:=0) ⋯ ⋯;rw[l1]at e2 bg2;obtain⟨N,S3,nm,e3,N3,n3,hi,nnd,lN,bg3,k3⟩:=IQ (n:=41) bg2 ⋯ ⋯;have hn:nm.length=41:=n3;have l2:=k2.len;have lb2:3<S2.length:=by obtain⟨_,e⟩:=qX bg2;exact iP e
 have D3:=((D1 nm).kp k2 (λz=>z) (λz=>z) λz=>z).kp k3 (by omega) (by omega) (by omega);obtain⟨S4,h4⟩:∃S4,S4=S3++[O.ly []]:=⟨_,rfl⟩;have k4:jH S3 S4:=by rw[h4];exact Kp.refl.lay
 have l3:=k3.len;have K4:iW S4 S3.length=some []:=by rw[h4];exact nQ (by simp)
 have w4:W1 S4 0 1 2 3 N S3.length nm (λ_=>none) []:=⟨D3.kp k4 (λz=>z) (λz=>z) λz=>z,by simp,bg3.kp k4 λz=>z,k4.lst N _ (λz=>z) N3,⟨[],K4,Rp.nil⟩,(λx xs e=>by cases e),by omega,by omega,by omega,by omega⟩;obtain⟨x5,p,f,past,S5,e5,w5,dm⟩:=V7 (s:=s) w4 hi hn;obtain⟨dk5,hp5,bg5,N5,⟨kv5,K5,r5⟩,of5,d1,d2,d3,d4⟩:=w5;have nx:∀i,i<41->∃x,nm[i]?=some x/\x∈nm/\j6 x:=λi h=>⟨nm[i],aN<|by omega,c7<|by omega,hi _<|c7<|by omega⟩;obtain⟨d,h40,m40,K⟩:=nx 40 ⋯;obtain⟨y0,h0,m0,i0⟩:=nx 0 ⋯;obtain⟨C,hy3,m3,i3⟩:=nx 3 ⋯;obtain⟨U,hy5,m5,i5⟩:=nx 5 ⋯;have tk:∀i x,i<40->nm[i]?=some x->x∈nm.take 40:=λi x h e=>bI (i:=i) (by rw[List.getElem?_take,aT h];exact e);have n40:d∉nm.take 40:=λz=>by
  obtain⟨i,hi',e⟩:=dG.mp z;rw[cM]at hi';rw[List.getElem_take]at e;obtain⟨q1,q2⟩:=aM.mp h40;have:=(eo nnd).mp<|e.trans q2.symm;omega
 have tl:(nm.take 40).length=40:=by rw[cM];omega
 have tnd:(nm.take 40).Nodup:=nnd.sublist<|List.take_sublist _ _;have ix:∀(T:gS) (i:Nat) (x:Str),gQ T N=some (nm.map .str)->nm[i]?=some x->jv (.ref N) (.int i) T=.ok (.str x) T:=λT i x h e=>by
  show opt (gQ T N) _=_;rw[h,ie];have:oA (nm.map A.str) (i:Int)=some (.str x):=by
   unfold oA;rw[oJ (k:=i) (by omega)<|by rw[aK];exact(aM.mp e).1,c8,bE,e];rfl
  rw[this];rfl
 have ak:∀(x:Str),j6 x->∀W:gS,iK (.str<|PySem.Str.ofString "keep ") (.str x) W=.ok (.str<|Str.ofString "keep " ++ x) W:=λx xi W=>ou (by have:=xi.2.1;rw[show(Str.ofString "keep ").length=5 by decide +kernel];omega);have lk:∀(x:Str),(Str.ofString "keep " ++ x).length=5+x.length:=λx=>by rw[Tx.mz,show(Str.ofString "keep ").length=5 by decide +kernel]
 have ak2:∀(x:Str),j6 x->∀W:gS,iK (.str<|Str.ofString "keep " ++ x) (.str<|PySem.Str.ofString " 2 1") W=.ok (.str<|i7 ("keep" :: x::([2,1]:ag).map Tx.tx)) W:=λx xi W=>by
  rw[ou (by have:=xi.2.1;rw[lk,show(Str.ofString " 2 1").length=4 by decide +kernel];omega),yb x (xs:=[2,1]) (by simp) ∅]
 have ak1:∀(x:Str),j6 x->∀W:gS,iK (.str<|Str.ofString "keep " ++ x) (.str<|PySem.Str.ofString " 1") W=.ok (.str<|i7 ("keep" :: x::([1]:ag).map Tx.tx)) W:=λx xi W=>by
  rw[ou (by have:=xi.2.1;rw[lk,show(Str.ofString " 1").length=2 by decide +kernel];omega),yb x (xs:=[1]) (by simp) ∅]
 have ad:∀(x:Str),j6 x->∀T:gS,iK (.str<|PySem.Str.ofString "drop ") (.str x) T=.ok (.str<|i7 ["drop",x]) T:=λx xi T=>by
  rw[ou (show(Str.ofString "drop ").length+x.length<=16777216 by have:=xi.2.1;rw[show(Str.ofString "drop ").length=5 by decide +kernel];omega),Hq]
 have as:∀(x:Str),j6 x->∀T:gS,iK (.str<|PySem.Str.ofString "show ") (.str x) T=.ok (.str<|i7 ["show",x]) T:=λx xi T=>by
  rw[ou (show(Str.ofString "show ").length+x.length<=16777216 by have:=xi.2.1;rw[show(Str.ofString "show ").length=5 by decide +kernel];omega),z0]
 have no40:∀{g:Fn},Dom nm g->g d=none:=λ{g} h=>by
  cases hh:g d with
  | none=>rfl
  | some z=>exact absurd ((h d).mp<|by rw[hh];rfl) n40
 have c40:∀{g:Fn},Dom nm g->∀kvs,Rp nm kvs g->40<=kvs.length:=λ{g} h kvs r=>by
  have:=IK r tnd λy hy=>(h y).mpr hy;omega
 obtain⟨S6,e6,k6⟩:=u_ dk5 K O4 ⋯ ⋯ (no40 dm) (c40 dm);obtain⟨S7,e7,k7⟩:=yY dk5 e6;have k57:=k6.trans k7;have dk7:=dk5.kp k57 (λz=>z) (λz=>z) λz=>z;have N7:=k57.lst N _ (λz=>z) N5;obtain⟨xs0,hx0⟩:=bY.mp<|(dm y0).mpr<|tk 0 y0 ⋯ h0;obtain⟨n0,px0,n01,n02⟩:=of5 y0 xs0 hx0;obtain⟨S8,e8,k8⟩:=Bg dk7 i0 K px0 n01 n02 hx0 (no40 dm)<|c40 dm;obtain⟨S9,e9,k9⟩:=yY dk7 e8;have k79:=k8.trans k9;have dk9:=dk7.kp k79 (λz=>z) (λz=>z) λz=>z;have N9:=k79.lst N _ (λz=>z) N7;have K9:=Kp.ds k79 _ _ (λz=>z)<|Kp.ds k57 _ _ (λz=>z) K5;obtain⟨m,e10,bg10,k10⟩:=Dy (S:=S9) (ns:=ns) (k:=1) ⋯ ⋯;have dk10:=dk9.kp k10 (λz=>z) (λz=>z) λz=>z;have N10:=k10.lst N _ (λz=>z) N9;have K10:=Kp.ds k10 _ _ (λz=>z) K9;have lb10:S9.length<m.length:=by obtain⟨_,e⟩:=qX bg10;exact iP e
 obtain⟨S11,h11⟩:∃S11,S11=m++[O.lst [.ref S3.length]]:=⟨_,rfl⟩;have k11:jH m S11:=by rw[h11];exact Kp.refl.lay
 have lp9:=iP dk9.ps;have lN9:=iP N9;have w11:W2 S11 0 1 p S9.length N S3.length m.length nm past f [] []:=⟨by
   have:FA (past++[])=past:=by unfold FA;rw[bT,show past.length-20=0 by omega,fE]
   rw[this];exact dk10.kp k11 (λz=>z) (λz=>z) λz=>z,bg10.kp k11 λz=>z,k11.lst N _ (λz=>z) N10,⟨by rw[h11];exact iu,λq J=>by
   have J:q∈[(S3.length,f)]:=J;rw[bB]at J;rw[J];exact⟨kv5,Kp.ds k11 _ _ (λz=>z) K10,r5⟩⟩,.nil of5,λq J=>by
   have J:q∈[(S3.length,f)]:=J;rw[bB]at J;rw[J];exact d4,by simp,λq J=>by
   have J:q∈[(S3.length,f)]:=J;rw[bB]at J;rw[J];exact dm,by omega,d2,by omega,by omega,by omega,by omega⟩
 obtain⟨x5',x7,x8,p2,K2,j,f2,P2,hs2,e12,w12,hs19,hs25⟩:=Wb (s:=s) (x5:=x5) w11 hi hn;obtain⟨F,bg12,N12,P,ch12,no12,nd12,al12,d1,d2,d3,d4,d5,d6⟩:=w12;obtain⟨L,K12,r12⟩:=P.ds (K2,f2) (by simp);have dm12:=al12 (K2,f2) (by simp);obtain⟨xs3,hx3⟩:=bY.mp<|(dm12 C).mpr<|tk 3 C ⋯ hy3;have hx3:f2 C=some xs3:=hx3;obtain⟨B,h13⟩:∃B,B=j++[O.ly L]:=⟨_,rfl⟩;have e13:xg (.ref K2) j=.ok (.ref j.length) B:=by
  show opt (iW j K2) _=_;rw[K12,h13];rfl
 have K13:iW B j.length=some L:=by rw[h13];exact nQ (by simp)
 have k13:jH j B:=by rw[h13];exact Kp.refl.lay
 have N13:=k13.lst N _ (λz=>z) N12;obtain⟨G,h14⟩:∃G,G=B.set j.length (.ly<|mw L C):=⟨_,rfl⟩;have lk3:iL L C=some (tI xs3):=by rw[r12.at_];show(f2 C).map tI=_;rw[hx3];rfl
 have pp:∀a b c e g h,BU DH (gJ 4) (gK (gT jv (gJ 3)<|eC<|.int 3) gR) [s,a,b,.ref N,.ref j.length,c,e,g,h] B=.ok (tI xs3) G:=λa b c e g h=>by
  rw[Ln (n:=j.length) (kvs:=L) (by dsimp[iG,bools]) K13];have gm:DH (.ref j.length) [.str C] B=.ok (tI xs3) G:=by
   show opt (iW B j.length) _=_;rw[K13,ie,lk3,h14];rfl
  have i3':=ix B 3 C N13 hy3;have i3':jv (.ref N) (.int 3) B=.ok (.str C) B:=i3';dsimp[iG,bools,i3',gm]
 have l13:B.length=j.length+1:=by rw[h13];simp
 have k14:jH j G:=by rw[h14];exact k13.vF (.inr<|aO _)
 have K14:iW G j.length=some (mw L C):=by rw[h14];exact wk (by omega)
 have dk14:=F.kp k14 (λz=>z) (λz=>z) λz=>z;have N14:=k14.lst N _ (λz=>z) N12;obtain⟨ko,ho,ro⟩:=F.od;have lo:=jM<|iD ho;have ld:=jM F.ob;have lp:=iP F.ps;have lN12:=iP N12;have lG:=iP P.ls;obtain⟨p3,S15,e15,lp3,dk15,k15⟩:=BJ dk14 (Kf _) i3 hx3;have own:∀n,n≠0->n≠1->n≠p2->¬(n=0\/n=1\/n=p2):=λn h1 h2 h3 z=>by rcases z with z|z|z<;>contradiction
 have nNd:N≠0:=kP N12 F.ob;have nNo:N≠1:=jq N12 ho;have nGd:m.length≠0:=kP P.ls F.ob;have nGo:m.length≠1:=jq P.ls ho;have l14:G.length=j.length+1:=by rw[h14,bL,l13]
 have K15:=Kp.ds k15 _ _ (own _ (by omega) (by omega)<|by omega) K14;have N15:=k15.lst N _ (own _ nNd nNo d2) N14;have ch15:Ch nm (hs2++[(K2,f2)]) (kY f2 C none) (P2++[(C,f2 C)]):=.snoc ch12 m3 (λz=>by rw[hx3]at z;cases z)<|MA ch12.F8 C;obtain⟨S16,e16,k16⟩:=wg dk15 hi K15 (r12.drop C) ch15.F8 (by omega) (by omega);obtain⟨c,hc⟩:∃c,(hs2++[(K2,f2)]).length=c+20:=⟨(hs2++[(K2,f2)]).length-20,by rw[aZ,dj];omega⟩;have pl:=ch15.len;have l15:=k15.len;have w16:W3 S16 0 1 p3 N m.length nm c (kY f2 C none) (P2++[(C,f2 C)]) (hs2++[(K2,f2)]):=by
  have e:rem (FA<|past++P2) C (f2 C)=(P2++[(C,f2 C)]).drop c:=by
   rw[D8,bW];unfold FA;rw[aZ,show past.length+(P2++[(C,f2 C)]).length-20=past.length+c by omega,List.drop_append,List.drop_of_length_le<|by omega,Nat.add_sub_cancel_left,List.nil_append]
  rw[e]at dk15;have qk:∀q∈hs2++[(K2,f2)],q.1≠0/\q.1≠p2/\q.1≠j.length:=λq J=>by
   obtain⟨kv,e,_⟩:=P.ds q J;have:=jM<|iD e;exact⟨wR e F.ob,λz=>jq F.ps e z.symm,by omega⟩
  exact⟨dk15.kp k16 (by omega) (by omega)<|by omega,k16.lst N _ (by omega) N15,((P.kp k14 (λz=>z) λ_ _ z=>z).kp k15 (own _ nGd nGo d4) λq J=>own _ (qk q J).1 (no12 q J) (qk q J).2.1).kp k16 (by omega) λq J=>(qk q J).2.2,ch15,no12,nd12,al12,by omega,by omega,d6⟩
 obtain⟨K3,x7',S17,f3,P3,H3,e17,w17,hH3,no17,⟨kv17,K17,r17⟩,dm17⟩:=V_ (s:=s) (b:=.ref S9.length) (x4:=.ref j.length) (x5:=x5') (x7:=x7) (x8:=x8) w16 hi hn hc;obtain⟨V,N17,st17,ch17,_,_,_,d2,_,_⟩:=w17;have pl17:=ch17.len;rw[List.drop_of_length_le<|by omega]at V;obtain⟨S18,e18,k18⟩:=wg V hi K17 r17 ch17.F8 no17 (by omega);have dk18:=V.kp k18 (λz=>by have:=wR K17 V.ob;omega) (λz=>no17 z.symm) λz=>jq V.ps K17 z;have N18:=k18.lst N _ (λz=>jq N17 K17 z) N17;obtain⟨S19,e19,k19⟩:=A7 dk18;obtain⟨S20,e20,k20⟩:=yY dk18 e19;have k1820:=k19.trans k20;have Y:=dk18.kp k1820 (λz=>z) (λz=>z) λz=>z;have N20:=k1820.lst N _ (λz=>z) N18;obtain⟨xs5,hx5⟩:=bY.mp<|(dm17 U).mpr<|tk 5 U ⋯ hy5;obtain⟨p4,S21,e21,lp4,dk21,k21⟩:=BJ Y (by simp) i5 hx5;obtain⟨ko2,ho2,ro2⟩:=Y.od;have Z:N≠0/\N≠1:=⟨kP N20 Y.ob,jq N20 ho2⟩;have lN20:=iP N20;have N21:=k21.lst N _ (λz=>by
  rcases z with z|z|z
  ·exact Z.1 z
  ·exact Z.2 z
  ·exact d2 z) N20
 have er:∀y,(kY f3 U none y).isSome=true ↔ y∈(nm.take 40).erase U:=λy=>by
  rw[tnd.mem_erase_iff];unfold kY;by_cases z:y=U
  ·rw[aT z,z];simp
  ·rw[aQ z,dm17 y];simp[z]
 have t5:=tk 5 U ⋯ hy5;have el:((nm.take 40).erase U).length=39:=by rw[List.length_erase_of_mem t5,tl]
 obtain⟨p5,S22,e22,lp5,dk22,k22⟩:=wA dk21 (Kc) K m40 (by omega) O4 ⋯ ⋯ (.inr λkvs r=>by
  have:=Ii r λy hy=>(er y).mp hy;omega)
 have l21:=k21.len;have N22:=k22.lst N _ (λz=>by
  rcases z with z|z|z
  ·exact Z.1 z
  ·exact Z.2 z
  ·omega) N21
 have f40:kY (kY f3 U none) d (some [2,1]) d=some [2,1]:=by unfold kY;rw[aT rfl]
 obtain⟨S23,e23,k23⟩:=Bp dk22 K f40 O4 ⋯ ⋯;have dk23:=dk22.kp k23 (λz=>z) (λz=>z) λz=>z;have N23:=k23.lst N _ (λz=>z) N22;have ne45:U≠d:=λz=>n40 (by rw[<- z];exact t5);have f5:kY (kY f3 U none) d (some [2,1]) U=none:=by
  unfold kY;rw[aQ ne45,aT rfl]
 obtain⟨S24,e24,k24⟩:=u_ dk23 i5 Wg ⋯ ⋯ f5 (λkvs r=>by
  have:=IK r (l:=d::(nm.take 40).erase U) (dB.mpr ⟨λz=>n40<|List.mem_of_mem_erase z,tnd.erase _⟩) λy hy=>by
   rcases bG.mp hy with z|z
   ·rw[z,f40];rfl
   ·have h1:=(er y).mpr z;have ny:y≠d:=λq=>n40 (by rw[<- q];exact List.mem_of_mem_erase z);show(if y=d then _ else kY f3 U none y).isSome=true;rw[aQ ny];exact h1
  rw[bq,el]at this;exact this)
 obtain⟨S25,e25,k25⟩:=yY dk23 e24;refine⟨S25,?_⟩;rw[<- hs];rw[<- hs]at e2 e10;have dn:∀(τ:ae),v_ τ S3=.ok (.ref S3.length) S4:=λτ=>by rw[h4];rfl
 have v0:∀(x:ae) (T:gS),gJ 0 (s::x) T=.ok s T:=λx T=>by rw[hs];rfl
 have x5_40:jv (.ref N) (.int 40) S5=.ok (.str d) S5:=ix S5 40 d N5 h40;have x7_40:jv (.ref N) (.int 40) S7=.ok (.str d) S7:=ix S7 40 d N7 h40;have x7_0:jv (.ref N) (.int 0) S7=.ok (.str y0) S7:=ix S7 0 y0 N7 h0;have x14:jv (.ref N) (.int 3) G=.ok (.str C) G:=ix G 3 C N14 hy3;have x20:jv (.ref N) (.int 5) S20=.ok (.str U) S20:=ix S20 5 U N20 hy5;have x21:jv (.ref N) (.int 40) S21=.ok (.str d) S21:=ix S21 40 d N21 h40;have x22:jv (.ref N) (.int 40) S22=.ok (.str d) S22:=ix S22 40 d N22 h40;have x23:jv (.ref N) (.int 5) S23=.ok (.str U) S23:=ix S23 5 U N23 hy5;have fb:Nt [.inl "back ",.inr<|gT jv (gJ 3)<|eC<|.int 0,.inl " ",.inr<|gT jv (gJ 3)<|eC<|.int 40] [s,.ref 0,.ref 3,.ref N,.ref S3.length,x5,.unb,.unb,.unb] S7=.ok (.str<|i7 ["back",y0,d]) S7:=LP (by dsimp[iG,bools,x7_0]) (by dsimp[iG,bools,x7_40]) i0 K;have ls11:∀(τ:ae),oQ (gK (gJ 4) gR) [s,.ref 0,.ref S9.length,.ref N,.ref S3.length,x5,.unb,.unb,.unb] m=.ok (.ref m.length) S11:=λτ=>by
  dsimp[iG,bools];rw[h11]
 have ls11:=ls11 [];have m14:iX "Desk" "say" g8 (gJ 1) (gK (gT iK (eC<|.str<|PySem.Str.ofString "drop ")<|gT jv (gJ 3)<|eC<|.int 3) gR) [s,.ref 0,.ref S9.length,.ref N,.ref j.length,x5',.ref m.length,x7,x8] G=.ok (.str "ok") S15:=by
  rw[K87.dm dk14<|by dsimp[iG,bools]];dsimp[iG,bools,x14,ad C i3,e15]
 have m20:iX "Desk" "say" g8 (gJ 1) (gK (gT iK (eC<|.str<|PySem.Str.ofString "drop ")<|gT jv (gJ 3)<|eC<|.int 5) gR) [s,.ref 0,.ref S9.length,.ref N,.ref K3,x5',.ref m.length,x7',x8] S20=.ok (.str "ok") S21:=by
  rw[K87.dm Y<|by dsimp[iG,bools]];dsimp[iG,bools,x20,ad U i5,e21]
 have m21:iX "Desk" "say" g8 (gJ 1) (gK (gT iK (gT iK (eC<|.str<|PySem.Str.ofString "keep ")<|gT jv (gJ 3)<|eC<|.int 40)<|eC<|.str<|PySem.Str.ofString " 2 1") gR) [s,.ref 0,.ref S9.length,.ref N,.ref K3,x5',.ref m.length,x7',x8] S21=.ok (.str "ok") S22:=by
  rw[K87.dm dk21<|by dsimp[iG,bools]];dsimp[iG,bools,x21,ak d K,ak2 d K,e22]
 have m22:iX "Desk" "say" g8 (gJ 1) (gK (gT iK (eC<|.str<|PySem.Str.ofString "show ")<|gT jv (gJ 3)<|eC<|.int 40) gR) [s,.ref 0,.ref S9.length,.ref N,.ref K3,x5',.ref m.length,x7',x8] S22=.ok (.str<|jW [2,1]) S23:=by
  rw[K87.dm dk22<|by dsimp[iG,bools]];dsimp[iG,bools,x22,as d K,e23]
 have ok:∀T:gS,l7 true (.str "ok") (.str<|PySem.Str.ofString "ok") T=.ok (.bl false) T:=λT=>rfl;have ok2:∀T:gS,l7 false (.str<|jW [2,1]) (.str<|PySem.Str.ofString "2 1") T=.ok (.bl true) T:=λT=>by
  rw[xF,show(jW [2,1] == PySem.Str.ofString "2 1")=true by decide +kernel]
 have e20':iZ [.ref 0,.str<|PySem.Str.ofString "undo"] S18=.ok (.bl true) S20:=e20;unfold yl Lb JL;dsimp[iG,mL,bools,jD,Nat.reduceAdd,Nat.reduceSub,↓e1,v0,e2,e3,dn,↓e5,x5_40,ak d K,ak2 d K,e7,↓fb,e9,e10,↓ls11,↓e12,e13,↓pp,↓m14,ok,e16,↓e17,e18,e20',↓m20,↓m21,↓m22,ok2,x23,ak U i5,ak1 U i5,e25,cj]
end K87
namespace K87
open PySem L2 Am
def all_mk{l:PySem.W.OpenLaw}{w:af}{K:az}{h:au}{mg:Str->bd}{fa:aj}(X:K.In h)(G:h.Ns mainGlobals mg)(hfa:mg "law" = some (.ref fa))
  (a2:Df K "_law_bag" ur)
  (a3:Df K "_law_digit" qm)
  (a4:Df K "_law_names" qi)
  (a5:Df K "_law_any" uU)
  (a6:Df K "_law_order" qI)
  (a7:Df K "is_name" uf)
  (a8:Df K "has_form" rX)
  (a12:Df K "read_number" nV)
  (a13:Df K "read_numbers" m_)
  (a14:Df K "is_whole" r6)
  (a15:Df K "is_order" rP)
  (a16:Df K "read_order" pD)
  (a17:Df K "is_exchange" nZ)
  (a18:Df K "is_word" uo)
  (a19:Df K "read_word" qP)
  (a20:Df K "exchanged_places" kD)
  (a21:Df K "exchanged" qF)
  (a22:Df K "led_on" xB)
  (a25:Df K "back" B3)
  (a26:Df K "show_numbers" nA)
  (a27:Df K "show_order" oM)
  (a28:Df K "asked_of_one" nJ)
  (a30:Df K "_law_text" su)
  (a31:Df K "_law_too_many" mR)
  (a32:Df K "_law_shows" qL)
  (a33:Df K "law" GO)
  (XW:PySem.W.nsIn K mainGlobals "len" = some none)
  (XX:PySem.W.nsIn K mainGlobals "abs" = some none)
  (XY:PySem.W.nsIn K mainGlobals "int" = some none)
  (XZ:PySem.W.nsIn K mainGlobals "range" = some none)
  (X0:PySem.W.nsIn K mainGlobals "list" = some none)
  (X3:PySem.W.nsIn K mainGlobals "tuple" = some none)
  (X4:PySem.W.nsIn K mainGlobals "all" = some none)
  (X5:PySem.W.nsIn K mainGlobals "isinstance" = some none)
  (X6:PySem.W.nsIn K mainGlobals "bool" = some none)
  (X7:PySem.W.nsIn K mainGlobals "sorted" = some none)
  (X8:PySem.W.nsIn K mainGlobals "enumerate" = some none)
  (X9:PySem.W.nsIn K mainGlobals "str" = some none)
  (X_:PySem.W.nsIn K mainGlobals "any" = some none)
  (Yb:PySem.W.nsIn K mainGlobals "ValueError" = some none)
  (Yc:PySem.W.nsIn K mainGlobals "dict" = some none)
  {XI:Tok} (Yd:PySem.W.nsIn K mainGlobals "SMALL_LETTERS" = some (some<|.str (PySem.Str.ofString "abcdefghijklmnopqrstuvwxyz") XI))
  {XJ:Tok} (Ye:PySem.W.nsIn K mainGlobals "MOST_LETTERS" = some (some<|.int 8 XJ))
  {XM:Tok} (Yg:PySem.W.nsIn K mainGlobals "MOST_ROWS_BACK" = some (some<|.int 20 XM))
  {XQ:Tok} (Yh:PySem.W.nsIn K mainGlobals "MOST_NAMES" = some (some<|.int 40 XQ))
  {XR:Tok} (Yi:PySem.W.nsIn K mainGlobals "FIGURES" = some (some<|.str (PySem.Str.ofString "0123456789") XR))
  {XS:Tok} (Yj:PySem.W.nsIn K mainGlobals "MOST_FIGURES" = some (some<|.int 30 XS))
  {XT:Tok} (Yk:PySem.W.nsIn K mainGlobals "MOST_THINGS_orders" = some (some<|.int 20 XT))
  {XU:Tok} (Yl:PySem.W.nsIn K mainGlobals "MOST_NUMBERS" = some (some<|.int 200 XU))
  {a_NAMES:aj} {n_NAMES:Nat} {t0_NAMES u0_NAMES t1_NAMES u1_NAMES t2_NAMES u2_NAMES t3_NAMES u3_NAMES t4_NAMES u4_NAMES t5_NAMES u5_NAMES t6_NAMES u6_NAMES t7_NAMES u7_NAMES t8_NAMES u8_NAMES t9_NAMES u9_NAMES t10_NAMES u10_NAMES t11_NAMES u11_NAMES t12_NAMES u12_NAMES:Tok} (Ym:PySem.W.nsIn K mainGlobals "NAMES" = some (some<|.ref a_NAMES)) (sm_NAMES:(a_NAMES == sysModules)=false) (kp_NAMES:K.lookup a_NAMES=some { cls:=.type "dict",dict:=none,data:=.dict (Rb w iU [(t0_NAMES,u0_NAMES),(t1_NAMES,u1_NAMES),(t2_NAMES,u2_NAMES),(t3_NAMES,u3_NAMES),(t4_NAMES,u4_NAMES),(t5_NAMES,u5_NAMES),(t6_NAMES,u6_NAMES),(t7_NAMES,u7_NAMES),(t8_NAMES,u8_NAMES),(t9_NAMES,u9_NAMES),(t10_NAMES,u10_NAMES),(t11_NAMES,u11_NAMES),(t12_NAMES,u12_NAMES)]).toArray n_NAMES,slots:=#[]})
  {a_WITH_NUMBERS:aj} (Yn:PySem.W.nsIn K mainGlobals "WITH_NUMBERS" = some (some<|.ref a_WITH_NUMBERS)) (kp_WITH_NUMBERS:Q6 K a_WITH_NUMBERS=some (["keep", "lead"]:ar))
  {C_Desk:aj} (n_Desk:PySem.W.nsIn K mainGlobals "Desk" = some (some<|.ref C_Desk)) (q_Desk:Cls K C_Desk)
  (nf_orders:jK K C_Desk "orders")
  (nf_past:jK K C_Desk "past")
  (a1:RW K C_Desk "Desk.__init__" mh)
  (a9:LD K C_Desk "undo" "Desk.undo" pW)
  (a10:LD K C_Desk "remember" "Desk.remember" l8)
  (a11:LD K C_Desk "put" "Desk.put" rO)
  (a23:LD K C_Desk "named" "Desk.named" oK)
  (a24:LD K C_Desk "drop" "Desk.drop" p_)
  (a29:LD K C_Desk "say" "Desk.say" r9)
  {U C_TooMany C_NoText C_NoWord C_NoName C_NoRow C_NoNumber C_NoPair:aj} (u0:PySem.W.nsIn K mainGlobals "UnderError" = some (some<|.ref U)) (u1:L2.mroIn K U=some M1)
  (Wx:ExcK K U "TooMany" C_TooMany)
  (Ww:ExcK K U "NoText" C_NoText)
  (Wy:ExcK K U "NoWord" C_NoWord)
  (Wz:ExcK K U "NoName" C_NoName)
  (WA:ExcK K U "NoRow" C_NoRow)
  (WB:ExcK K U "NoNumber" C_NoNumber)
  (WC:ExcK K U "NoPair" C_NoPair)
  (k_NoRow_NoWord:PySem.W.kitOne K (.ref C_NoRow) (.ref C_NoWord)=some false)
  (k_NoName_NoWord:PySem.W.kitOne K (.ref C_NoName) (.ref C_NoWord)=some false)
  (k_NoText_NoWord:PySem.W.kitOne K (.ref C_NoText) (.ref C_NoWord)=some false)
  (k_TooMany_NoWord:PySem.W.kitOne K (.ref C_TooMany) (.ref C_NoWord)=some false)
  (k_NoNumber_NoWord:PySem.W.kitOne K (.ref C_NoNumber) (.ref C_NoWord)=some false)
  (k_NoWord_NoWord:PySem.W.kitOne K (.ref C_NoWord) (.ref C_NoWord)=some true)
  (k_NoPair_NoWord:PySem.W.kitOne K (.ref C_NoPair) (.ref C_NoWord)=some false)
  (k_NoRow_NoText:PySem.W.kitOne K (.ref C_NoRow) (.ref C_NoText)=some false)
  (k_NoName_NoText:PySem.W.kitOne K (.ref C_NoName) (.ref C_NoText)=some false)
  (k_NoText_NoText:PySem.W.kitOne K (.ref C_NoText) (.ref C_NoText)=some true)
  (k_TooMany_NoText:PySem.W.kitOne K (.ref C_TooMany) (.ref C_NoText)=some false)
  (k_NoNumber_NoText:PySem.W.kitOne K (.ref C_NoNumber) (.ref C_NoText)=some false)
  (k_NoWord_NoText:PySem.W.kitOne K (.ref C_NoWord) (.ref C_NoText)=some false)
  (k_NoPair_NoText:PySem.W.kitOne K (.ref C_NoPair) (.ref C_NoText)=some false)
  (k_NoRow_NoRow:PySem.W.kitOne K (.ref C_NoRow) (.ref C_NoRow)=some true)
  (k_NoName_NoRow:PySem.W.kitOne K (.ref C_NoName) (.ref C_NoRow)=some false)
  (k_NoText_NoRow:PySem.W.kitOne K (.ref C_NoText) (.ref C_NoRow)=some false)
  (k_TooMany_NoRow:PySem.W.kitOne K (.ref C_TooMany) (.ref C_NoRow)=some false)
  (k_NoNumber_NoRow:PySem.W.kitOne K (.ref C_NoNumber) (.ref C_NoRow)=some false)
  (k_NoWord_NoRow:PySem.W.kitOne K (.ref C_NoWord) (.ref C_NoRow)=some false)
  (k_NoPair_NoRow:PySem.W.kitOne K (.ref C_NoPair) (.ref C_NoRow)=some false)
  (k_NoRow_NoName:PySem.W.kitOne K (.ref C_NoRow) (.ref C_NoName)=some false)
  (k_NoName_NoName:PySem.W.kitOne K (.ref C_NoName) (.ref C_NoName)=some true)
  (k_NoText_NoName:PySem.W.kitOne K (.ref C_NoText) (.ref C_NoName)=some false)
  (k_TooMany_NoName:PySem.W.kitOne K (.ref C_TooMany) (.ref C_NoName)=some false)
  (k_NoNumber_NoName:PySem.W.kitOne K (.ref C_NoNumber) (.ref C_NoName)=some false)
  (k_NoWord_NoName:PySem.W.kitOne K (.ref C_NoWord) (.ref C_NoName)=some false)
  (k_NoPair_NoName:PySem.W.kitOne K (.ref C_NoPair) (.ref C_NoName)=some false)
  (k_NoRow_TooMany:PySem.W.kitOne K (.ref C_NoRow) (.ref C_TooMany)=some false)
  (k_NoName_TooMany:PySem.W.kitOne K (.ref C_NoName) (.ref C_TooMany)=some false)
  (k_NoText_TooMany:PySem.W.kitOne K (.ref C_NoText) (.ref C_TooMany)=some false)
  (k_TooMany_TooMany:PySem.W.kitOne K (.ref C_TooMany) (.ref C_TooMany)=some true)
  (k_NoNumber_TooMany:PySem.W.kitOne K (.ref C_NoNumber) (.ref C_TooMany)=some false)
  (k_NoWord_TooMany:PySem.W.kitOne K (.ref C_NoWord) (.ref C_TooMany)=some false)
  (k_NoPair_TooMany:PySem.W.kitOne K (.ref C_NoPair) (.ref C_TooMany)=some false)
  : ∃fd:FuncData,(∀(s:aE) (v:aa),BindsTo s fd ⟨[v],[]⟩ [("_law_script",v)])/\∀base:au,K.In base->base.Ns mainGlobals mg->FnOk l.prog w K mg base rz 7 fa fd ["_law_script"] (tu K 1 yl):=by
 obtain⟨f,fd,a,F⟩:=a33;have e:=hfa.symm.trans (bM X G a)
 cases e
 have Xx:=bM X G Wy.n;have Xy:=bM X G Ww.n;have Xz:=bM X G WA.n;have XA:=bM X G Wz.n;have XC:=bM X G Wx.n;have k:=bH X G XW;have W6:=bH X G XX;have O:=bH X G XY;have J:=bH X G XZ;have C:=bH X G X0;have B:=bH X G X3;have p:=bH X G X4;have N:=bH X G X5;have Xe:=bH X G X6;have Xf:=bH X G X7;have Xl:=bH X G X8;have V:=bH X G X9;have XD:=bH X G X_;have XF:=bH X G Yb;have WZ:=bH X G Yc;have W8:∃t,mg "SMALL_LETTERS" = some (.str (PySem.Str.ofString "abcdefghijklmnopqrstuvwxyz") t):=⟨XI,bM X G Yd⟩;have W9:∃t,mg "MOST_LETTERS" = some (.int 8 t):=⟨XJ,bM X G Ye⟩;have W_:∃t,mg "MOST_ROWS_BACK" = some (.int 20 t):=⟨XM,bM X G Yg⟩;have Xa:∃t,mg "MOST_NAMES" = some (.int 40 t):=⟨XQ,bM X G Yh⟩;have Xb:∃t,mg "FIGURES" = some (.str (PySem.Str.ofString "0123456789") t):=⟨XR,bM X G Yi⟩;have Xc:∃t,mg "MOST_FIGURES" = some (.int 30 t):=⟨XS,bM X G Yj⟩;have WQ:∃t,mg "MOST_THINGS_orders" = some (.int 20 t):=⟨XT,bM X G Yk⟩;have Xh:∃t,mg "MOST_NUMBERS" = some (.int 200 t):=⟨XU,bM X G Yl⟩;have j:∃a,mg "NAMES" = some (.ref a)/\KdS w K a iU:=⟨a_NAMES,bM X G Ym,⟨_,n_NAMES,rfl,by decide +kernel,sm_NAMES,kp_NAMES⟩⟩;have g:∃a,mg "WITH_NUMBERS" = some (.ref a)/\Q6 K a=some (["keep", "lead"]:ar):=⟨a_WITH_NUMBERS,bM X G Yn,kp_WITH_NUMBERS⟩;have d:ClK K "Desk" C_Desk:=⟨n_Desk,q_Desk⟩;have m:=bM X G n_Desk;refine⟨fd,λs v=>(by obtain⟨_,_,_,_,_,_,_,_,_,rfl,_,_⟩:=F.ex;exact .of_eq rfl),λbase _ _=>?_⟩;have E:En l.prog w K mg base:=⟨h,X,G⟩;have XG:=a1.mk (P:=l.prog) (w:=w) (mg:=mg) (base:=base) (λF=>uP F d nf_orders nf_past)<|E6 λ_ _ _ _ _ _ _=>rfl;have W0:=a2.kA E (λF=>B6 F k W6 O)<|BL λ_ _ _ _ _ _ _ _=>rfl;have L:=a3.kA E (λF=>y9 F)<|BL λ_ _ _ _ _ _ _ _=>rfl;have XH:=a4.kA E (λF=>yQ F J L)<|BL λ_ _ _ _ _ _ _ _=>rfl;have W7:=a5.kA E (λF=>BZ F C J k B L)<|BL λ_ _ _ _ _ _ _ _=>rfl;have W5:=a6.kA E (λF=>zg F C J B L W7)<|BL λ_ _ _ _ _ _ _ _=>rfl;have WY:=a7.kA E (λF=>Cc F p k W8 W9)<|E6 λ_ _ _ _ _ _ _=>rfl;have Xo:=a8.kA E (λF=>AM F k p j g WY)<|E6 λ_ _ _ _ _ _ _=>rfl;have Xp:=a9.mk (P:=l.prog) (w:=w) (mg:=mg) (base:=base) (λF=>yW F d nf_past nf_orders Wx)<|E6 λ_ _ _ _ _ _ _=>rfl;have WO:=a10.mk (P:=l.prog) (w:=w) (mg:=mg) (base:=base) (λF=>uq F d nf_past nf_orders W_)<|BL λ_ _ _ _ _ _ _ _=>rfl;have WW:=a11.mk (P:=l.prog) (w:=w) (mg:=mg) (base:=base) (λF=>z7 F d nf_orders Wx k Xa WO)<|VF λ_ _ _ _ _ _ _ _ _=>rfl;have Xd:=a12.kX E (λF=>vU F Ww p k O Xb Xc)<|E6 λ_ _ _ _ _ _ _=>rfl;have Y:=a13.kX E (λF=>vv F Xd)<|E6 λ_ _ _ _ _ _ _=>rfl;have Z:=a14.kA E (λF=>zZ F N Xe O)<|E6 λ_ _ _ _ _ _ _=>rfl;have Xg:=a15.kA E (λF=>Au F k N B p Xf C J WQ Z)<|E6 λ_ _ _ _ _ _ _=>rfl;have Xq:=a16.kX E (λF=>xZ F Ww B Y Xg)<|E6 λ_ _ _ _ _ _ _=>rfl;have WT:=a17.kA E (λF=>wL F Z)<|BL λ_ _ _ _ _ _ _ _=>rfl;have Xi:=a18.kA E (λF=>C2 F k N C p Xh WT)<|BL λ_ _ _ _ _ _ _ _=>rfl;have Xr:=a19.kX E (λF=>zU F Ww WQ Y Xi)<|E6 λ_ _ _ _ _ _ _=>rfl;have Xj:=a20.kA E (λF=>rq F C B)<|VF λ_ _ _ _ _ _ _ _ _=>rfl;have Xk:=a21.kX E (λF=>zq F Wy k WT Xj)<|BL λ_ _ _ _ _ _ _ _=>rfl;have Xs:=a22.kX E (λF=>FL F Xk)<|BL λ_ _ _ _ _ _ _ _=>rfl;have WM:=a23.mk (P:=l.prog) (w:=w) (mg:=mg) (base:=base) (λF=>xW F d nf_orders Wz)<|BL λ_ _ _ _ _ _ _ _=>rfl;have Xu:=a24.mk (P:=l.prog) (w:=w) (mg:=mg) (base:=base) (λF=>zf F d nf_orders WM WO)<|BL λ_ _ _ _ _ _ _ _=>rfl;have Xv:=a25.kA E (λF=>M_ F k Xl B)<|E6 λ_ _ _ _ _ _ _=>rfl;have Xm:=a26.kA E (λF=>vz F V)<|E6 λ_ _ _ _ _ _ _=>rfl;have Xn:=a27.kA E (λF=>xS F Xm)<|E6 λ_ _ _ _ _ _ _=>rfl;have Xw:=a28.kX E (λF=>vG F Xn)<|BL λ_ _ _ _ _ _ _ _=>rfl;have T:=a29.mk (P:=l.prog) (w:=w) (mg:=mg) (base:=base) (λF=>AN F d WA k Xo Xp WW Xq Xr Xs WM Xu Xv Xw)<|BL λ_ _ _ _ _ _ _ _=>rfl;have WN:=a30.kA E (λF=>Av F V)<|E6 λ_ _ _ _ _ _ _=>rfl;have WV:=a31.kA E (λF=>vq F d u0 u1 WA Wz Ww Wx WB Wy WC Xx Xy Xz XA XC k_NoRow_NoWord k_NoName_NoWord k_NoText_NoWord k_TooMany_NoWord k_NoNumber_NoWord k_NoWord_NoWord k_NoPair_NoWord k_NoRow_NoText k_NoName_NoText k_NoText_NoText k_TooMany_NoText k_NoNumber_NoText k_NoWord_NoText k_NoPair_NoText k_NoRow_NoRow k_NoName_NoRow k_NoText_NoRow k_TooMany_NoRow k_NoNumber_NoRow k_NoWord_NoRow k_NoPair_NoRow k_NoRow_NoName k_NoName_NoName k_NoText_NoName k_TooMany_NoName k_NoNumber_NoName k_NoWord_NoName k_NoPair_NoName k_NoRow_TooMany k_NoName_TooMany k_NoText_TooMany k_TooMany_TooMany k_NoNumber_TooMany k_NoWord_TooMany k_NoPair_TooMany N XD XF T)<|BL λ_ _ _ _ _ _ _ _=>rfl;have WX:=a32.kA E (λF=>zy F d p T WN)<|BL λ_ _ _ _ _ _ _ _=>rfl;exact OJ F d m J WZ XG W0 XH W5 L T WN WV WX
def walk{l:PySem.W.OpenLaw}{q:ah}{U:(Str->bd)->au->Prop}{L:af->au->Prop}{d:DefRec}{K:Params->az}(hn:l.most=some 63)(J:d.params.defaults=[])
  (Z:∀(w:af) (h:au),L w h->(K w.params).In h)
  (F:∀(w:af) (mg:Str->bd) (fa:aj) (h:au),(K w.params).In h->h.Ns mainGlobals mg->mg d.name=some (.ref fa) ->
   ∃fd:FuncData,(∀(s:aE) (u:aa),BindsTo s fd ⟨[u],[]⟩ [("_law_script",u)])/\∀base:au,(K w.params).In base->base.Ns mainGlobals mg->FnOk l.prog w (K w.params) mg base rz 7 fa fd ["_law_script"] (tu (K w.params) 1 yl)) :
  PySem.W.WalkO q loose U L l.row.toRowW d [] (λf vs=>PySem.call f vs):=
 L2.Nk (n:=63) (k:=7) (x := "_law_script") (CX:=λ_=>rz) (sp:=λw=>tu (K w.params) 1 yl) hn ⋯ J ⟨rfl,by decide,by decide,rfl⟩ Z F (λ_ H a ns j m g=>Gg m g<|Pb ns j) λ_ _ _ _ _ z=>z
end K87
open PySem PySem.W PyProof.Rows
namespace PySem.W.Fast
local macro_rules|`(command|universe $x*)=>do return Lean.mkNullNode (←x.mapM λx=>`(command|def $x:ident:=Nat))
universe tw7726825388853274149 tw6917824707437678423 tw16381717977456836465 tw3897859251818702093 tw16216462859212788913 tw7156377807079135098 tw8975488260969610925 tw17058745903464544804 tw4912285374586804308 tw292421013705099660 tw16194981716686616998 tw6333043172634580583 tw9024175623562058715 tw6574424034632341603 tw4817947218678824823 tw4700554961717010564 tw3238085470357968394 tw13941049747884620726 tw7882368044060312499 tw8778260669318388211 tw2728377860386393909 tw14906530346174243562 tw14394801548423993743 tw6511167068306407098 tw6990058934373847606 tw7713827181856190765 tw9698066798024387524 tw17101202608128508727 tw7108312220644740711 tw2801844971088653565 tw15696291998281357768 tw483462733603036712 tw13497346171757763255 tw18411833749954996656 tw767083958851062024 tw2236692200000761573 tw3558656204074039346 tw8615055065141110437 tw3886480467040847282 tw11723748938742691332 tw8415372643796769945 tw4930534078752593282 tw15656182151787541544 tw18163859840641366964 tw13380765901694566103 tw15949726506636550192 tw778346541709060058 tw15402106636578428898 tw14218218214872377943 tw7174604425374481220 tw12437153449072575130 tw15450950393406071687 tw352026093457200040 tw17313655144954535347 tw1539956679321870560 tw8751090076182606245 tw12914030474301418466 tw432629898229555915 tw3310376469033199690 tw11376439835683057825 tw12257525934804336965 tw16326851392028767574 tw6027181430423582935 tw10434447002502275408 tw7007271481154786376 tw2896331288508458256 tw3468069937556922947 tw170074006532201443 tw8066303984933809833 tw15886048146906559763 tw2423711859024354383 tw17512082452600979659 tw6411142765663561356 tw10402797743829800997 tw8521136239168151866 tw18026245142514918830 tw16583691404224935307 tw832301645643088448 tw12537886545362899418 tw18331168999213419073 tw4757361118790975188 tw9497069825242974300 tw1111474211231984903 tw14074562794928845625 tw11267904197148458394 tw1728617285427738575 tw12116073447060363099 tw10106345766891469016 tw7069306421933411153 tw1815611617100108923 tw1776669425024845118 tw17172534801766810588 tw365218021095569832 tw10920400664437347420 tw15058680321550941909 tw7730171625286991633 tw326385671133557227 tw13120283655474836765 tw8778983621500843038 tw8494260669196581533 tw5239767295371046419 tw11632217456659516937 tw18407938581345632496 tw16747356992954892666 tw13003865531149905536 tw9341198681679382218 tw6689498806263212321 tw15343463701992700378 tw2013902076703570980 tw5400249694271854468 tw17754263875514606736 tw17125755727812057950 tw16907551781708431379 tw8015578879887429932 tw14838199198729997158 tw6130957024160923537 tw9134431640548952995 tw10928178403154112382 tw3165556330163842519 tw14943729577824759617 tw3690781646430503598 tw6468533820704589128 tw16780934619962509602 tw12598581544765724339 tw11952599727768047580 tw2516326696149363272 tw14494097030104966652 tw14035971043402367407 tw108076598753817610 tw16303364066176205492 tw9101925252191899229 tw15755794026011002502 tw11875179418522127430 tw9334384976164489569 tw167045056465796880 tw13756965690950328404 tw18101681434538611603 tw2656682783992996680 tw14436369945550675566 tw16902655046065520257
end PySem.W.Fast
set_option maxRecDepth 100000 in
set_option maxHeartbeats 0 in
theorem PySem.Challenge.cw_undercells_k87_forty_names_and_twenty_ro_holds : PySem.Challenge.rw_undercells_k87_forty_names_and_twenty_ro.Holds := by
 w_on;o_law;k_head;(case hw=>w_witness2)
 k_fill
 refine K87.walk (l:=PySem.Challenge.rw_undercells_k87_forty_names_and_twenty_ro) rfl rfl (fun w h Y=>PySem.W.kIn_of Y) ?F
 case F=>
  intro w mg fa h KX G hmg;refine' K87.all_mk KX G hmg (.of ?_ ?_ ?_ ?_) (.of ?_ ?_ ?_ ?_) (.of ?_ ?_ ?_ ?_) (.of ?_ ?_ ?_ ?_) (.of ?_ ?_ ?_ ?_) (.of ?_ ?_ ?_ ?_) (.of ?_ ?_ ?_ ?_) (.of ?_ ?_ ?_ ?_) (.of ?_ ?_ ?_ ?_) (.of ?_ ?_ ?_ ?_) (.of ?_ ?_ ?_ ?_) (.of ?_ ?_ ?_ ?_) (.of ?_ ?_ ?_ ?_) (.of ?_ ?_ ?_ ?_) (.of ?_ ?_ ?_ ?_) (.of ?_ ?_ ?_ ?_) (.of ?_ ?_ ?_ ?_) (.of ?_ ?_ ?_ ?_) (.of ?_ ?_ ?_ ?_) (.of ?_ ?_ ?_ ?_) (.of ?_ ?_ ?_ ?_) (.of ?_ ?_ ?_ ?_) (.of ?_ ?_ ?_ ?_) (.of ?_ ?_ ?_ ?_) (.of ?_ ?_ ?_ ?_) (.of ?_ ?_ ?_ ?_) ?_ ?_ ?_ ?_ ?_ ?_ ?_ ?_ ?_ ?_ ?_ ?_ ?_ ?_ ?_ ?_ ?_ ?_ ?_ ?_ ?_ ?_ ?_ ?_ ?_ ?_ ?_ ?_ ?_ ⟨?_,?_,?_,?_⟩ (show PySem.W.findIn _ _ _=_ from ?_) (show PySem.W.findIn _ _ _=_ from ?_) (.of ?_ ?_ ?_ ?_ ?_ ?_ ?_) (.of ?_ ?_ ?_ ?_ ?_) (.of ?_ ?_ ?_ ?_ ?_) (.of ?_ ?_ ?_ ?_ ?_) (.of ?_ ?_ ?_ ?_ ?_) (.of ?_ ?_ ?_ ?_ ?_) (.of ?_ ?_ ?_ ?_ ?_) ?_ ?_ ⟨(show nsIn _ _ _=_ from ?_),?_,?_,⟨?_,?_,?_,?_,?_⟩,?_,?_⟩ ⟨(show nsIn _ _ _=_ from ?_),?_,?_,⟨?_,?_,?_,?_,?_⟩,?_,?_⟩ ⟨(show nsIn _ _ _=_ from ?_),?_,?_,⟨?_,?_,?_,?_,?_⟩,?_,?_⟩ ⟨(show nsIn _ _ _=_ from ?_),?_,?_,⟨?_,?_,?_,?_,?_⟩,?_,?_⟩ ⟨(show nsIn _ _ _=_ from ?_),?_,?_,⟨?_,?_,?_,?_,?_⟩,?_,?_⟩ ⟨(show nsIn _ _ _=_ from ?_),?_,?_,⟨?_,?_,?_,?_,?_⟩,?_,?_⟩ ⟨(show nsIn _ _ _=_ from ?_),?_,?_,⟨?_,?_,?_,?_,?_⟩,?_,?_⟩ ?_ ?_ ?_ ?_ ?_ ?_ ?_ ?_ ?_ ?_ ?_ ?_ ?_ ?_ ?_ ?_ ?_ ?_ ?_ ?_ ?_ ?_ ?_ ?_ ?_ ?_ ?_ ?_ ?_ ?_ ?_ ?_ ?_ ?_ ?_
  any_goals first|k_is|kernel_rfl
