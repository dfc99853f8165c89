import PyProof.Rows.All
import Wide.All
import OpenK.AllK
import Wide.FinOn
import Lean
import PyProof.EqAt
import PyProof.EqKinds
import PyProof.TupleCall
import PySem.Challenge.RW_termcourt_k58_whole_by_days
set_option Elab.async false
set_option compiler.extract_closed false
set_option bootstrap.genMatcherCode false
set_option linter.all false
set_option maxRecDepth 100000
open Option renaming some->HA,none->HD
open PySem renaming Addr->HC,Value->HE,Stmt->HN,World->HQ,Expr->HS,Heap->HX,Scope->IS
open Bool renaming true->HG,false->HH
def HF:=@if_neg
def HI:=@if_pos
def HJ:=@decide_eq_true
def HK:=@of_decide_eq_true
def HM:=@decide_eq_false
def HR:=@congrArg
def HU:=@beq_iff_eq
theorem HP {A B:Type}{P:A->B->Prop}(a:A)(b:B)(h:P a b):∃a b,P a b:=⟨a,b,h⟩
theorem HW {A B C:Type}{P:A->B->C->Prop}(a:A)(b:B)(c:C)(h:P a b c):∃a b c,P a b c:=⟨a,b,c,h⟩
theorem Hv {A B C D:Type}{P:A->B->C->D->Prop}(a:A)(b:B)(c:C)(d:D)(h:P a b c d):∃a b c d,P a b c d:=⟨a,b,c,d,h⟩
theorem J0 {A B C D E:Type}{P:A->B->C->D->E->Prop}(a:A)(b:B)(c:C)(d:D)(e:E)(h:P a b c d e):∃a b c d e,P a b c d e:=⟨a,b,c,d,e,h⟩
theorem K9 {A B C D E F:Type}{P:A->B->C->D->E->F->Prop}(a:A)(b:B)(c:C)(d:D)(e:E)(f:F)(h:P a b c d e f):∃a b c d e f,P a b c d e f:=⟨a,b,c,d,e,f,h⟩
theorem Ic {A B C D E F G I:Type}{P:A->B->C->D->E->F->G->I->Prop}(a:A)(b:B)(c:C)(d:D)(e:E)(f:F)(g:G)(i:I)(h:P a b c d e f g i):∃a b c d e f g i,P a b c d e f g i:=⟨a,b,c,d,e,f,g,i,h⟩
theorem hid0{G:Prop}(h:∀X:Prop,(G->X)->X):G:=h G id
local macro_rules
|`(tactic|obtain ⟨$p,$q,$r,$s,*⟩ := $e:term)=>`(tactic|(refine hid0 fun X h=>?_;rcases $e:term with ⟨$p,$q,$r,$s,*⟩<;>(refine h ?_;clear h X)))
|`(tactic|cases $e:ident)=>`(tactic|first|subst $e:ident|((fail_if_success injection $e:ident with a b);injection $e:ident with $e:ident;cases $e:ident)|cases ($e))
local macro_rules|`(sh)=>`(by intro z;first|contradiction|(intro z;contradiction))|`(sZ)=>`(by lia)|`(Uk)=>`(by decide +kernel)|`(Ud)=>`(by decide)
open PySem.Str renaming ofString->Aa,empty->AN
open List renaming length_map->Ab,getElem?_eq_some_iff->Ac,getElem?_eq_getElem->Ad,length_append->Ae,size_toArray->Ah,getElem?_map->Ai,mem_singleton->Aj,getD_eq_getElem?_getD->Ak,mem_cons_self->Am,range->An,map_append->Aq,length_range->Ar,mem_append->As,mem_of_getElem?->Au,mem_cons->Ax,mem_cons_of_mem->A1,mem_append_right->A3,not_mem_nil->A9,length_cons->AA,getElem?_append_left->AB,mem_range->AE,length_singleton->AG,getElem?_eq_none->AH,mem_map->AQ,getElem?_range->AS,set_cons_succ->AT,set_cons_zero->AU,getElem?_append_right->AV,map_cons->AW,pairwise_iff_getElem->Ba,take_length->Bc,pairwise_append->Bg,eq_nil_or_concat->Bm,concat_eq_append->Bo,length_take->Bp,append_nil->Br,range_succ->Bs,getElem?_of_mem->Bx,take_add_one->B1,contains_iff_mem->B2,length_reverse->B3,length_pos_iff->B4,all_eq_true->B8,getElem_mem->B9,mem_append_left->BA,pairwise_cons->BF,filterMap_cons_some->BK,map_congr_left->BL,take_append_drop->BM,lookup_cons->BR,drop_eq_getElem_cons->BS,eq_nil_of_length_eq_zero->BW,mem_filter->Cb,map_map->Cc,mem_filterMap->Ce,length_drop->Cg,getElem?_concat_length->Ci,pairwise_map->Ck,ext_getElem?->Cm,filter_append->Cs,Nodup->Ct,filter_cons_of_pos->Cz,nodup_cons->C2,find?_cons->C3,getElem_of_mem->C4,append_eq_nil_iff->C9,getElem_range->CI,mem_of_find?_eq_some->CJ,length_dropLast->CN,foldl_append->CP,any_cons->CU,filterMap_cons_none->CV,any_eq_true->CW,pairwise_singleton->CY,filter_cons_of_neg->CZ,lookup->Da,any_append->Df,length_filter_le->Di,getElem?_reverse->Dj,reverse_cons->Dk,take_zero->Dl,nodup_range->Dr,getLast?_eq_getElem?->Du,getElem?_eq_none_iff->Dv,length->DB,getElem?_cons_succ->DE,getElem?_set_self->DF,filterMap->DK,take_of_length_le->DN,filter_cons->DT,all_cons->DW,getElem?_set_ne->DY,getLast?_append->Eb,length_take_le'->Ec,length_set->Ed,length_nil->Ee,filterMap_cons->Eg,nodup_append->Ey,getElem_take->Ez,getElem?_inj->EA
open PySem renaming Shared->Af,Spec->Ao,wpAny_bind->A2,sizeLine->A4,mainGlobals->A7,PassesOwn->AI,Program->AJ,Around->AO,wpAny_pure->Bi,sizeLine_eq->Bv,NameKind->Bz,wpAny_truthy_bool->B0,FuncData->BC,wpAny_passesOwn->BH,Builtin->BJ,wpAny_mono->Cd,mem_of_lookup->Co,wpAny_Call_Name_kw->Cr,tupleKind_room_in1->CH,wpAny_holding->Dh,Paired->Dw,wpAny_execs_nil->D4,call_meets->DS,call_meetsIn->Ek,slot_list_getitem->Ev
open PySem.W renaming Frag->Ag,kitOne->AK,nsIn->AM,mg_of->Be,findIn->Bf,fnOf->Bl,mg_none_of->Bq,keepIn->Bw,codeIn->BG,kia_one->BO,emptyDict->BU,instObj->C0,typeIn->CD,kia_tup->De,plainGet->Dn,peek->Dp,callWith_K->D7,hasDictIn->DG,methodCall_KW->DP,kla_obj->DX,plainGet_of->Eh,isFn->Ej,lookIn->El,kitAny->Er,methodObj->Es,plainOver->Et,kitx_list->Eu
open Nat renaming le_refl->Al,lt_of_lt_of_le->Ay,le_trans->Az,ne_of_lt->AD,zero_le->AR,not_lt_zero->Bj,le_of_lt->Bt,le_of_eq->BN,lt_succ_self->BQ,le_succ_of_le->BV,lt_irrefl->BY,ne_of_gt->Cv,le_succ->CA,succ_le_succ->CB,lt_of_le_of_lt->CF,add_le_add_right->CQ,add_sub_cancel->D9,sub_self->DL,lt_succ_of_lt->DM,not_lt->DU,min_le_left->Ef,mul_le_mul_left->Ei
open PySem.PassesOwn renaming never->Av
open PySem.Heap renaming get?_push_of_some->Aw,lt_size->AC,get?_push_size->AX,SameBut->CM,size_push->DH,get?_update_other->DJ
open PySem.F renaming plainAttrs_list->A0,slot_list_append->A5,type_list_append->A6,slot_dict_get->BX,entry_dict_get->C7,slot_list_extend->Dy,type_list_extend->Dz,args_dict_get_2->DC
open Option.some renaming inj->A8
open Bool renaming false_ne_true->AF,and_eq_true->B7,and_false->BI,or_false->Ca,not_eq_true->Cu,false_and->Cy,eq_iff_iff->CK,or_true->Dt,false_or->Dx,or_eq_true->D6,false_eq_true->Em
open PySem.SeqAt renaming EqAt->AY
open Int renaming le_refl->AZ,toNat_natCast->Bb,lt_of_lt_of_le->Bd,le_trans->Bh,not_lt->B6,zero_add->BD,emod_nonneg->BP,emod_lt_of_pos->Cf,add_zero->Cw,toNat_of_nonneg->C5,lt_trans->CO,le_of_lt->Do,ofNat_le->Dq,natCast_nonneg->D8,ofNat_lt->DO,natCast_zero->DV,le_of_lt_add_one->Ea,lt_of_le_of_lt->En,le_add_one->Eo,not_le->Ep
open PySem.Value renaming ref->Bk,type->Cq,none->CS,int->Dg,str->Dm,bool->DR
open PySem.NameKind renaming free->Bu
open Ne renaming symm->By
open PySem.Obj renaming mapSeq->BE
open Option renaming isSome_iff_exists->BZ,map_some->D5,isSome_map->Ex
open PyProof.Rows renaming callWith_type1->Ch
open True renaming intro->Cj
open Array renaming length_toList->Cn,getD_eq_getD_getElem?->C8,getElem?_toList->DQ
open False renaming elim->C1
open Or renaming inl->C6,inr->CG
open Sum renaming inr->CL
open PySem.Calls renaming spliced_cons->Db,callWith_builtin->Dc,spliced_nil->DI,evalArgs_plain->DZ
open ForInStep renaming yield->Dd
open List.Pairwise renaming nil->Ew
theorem uF(_:True:=by rfl):True:=⟨⟩
def uG:=uF._auto_1
theorem uH(_:True:=by decide):True:=⟨⟩
def uI:=uH._auto_1
theorem uJ(_:True:=by first|exact .inl rfl|exact .inr rfl|assumption):True:=⟨⟩
def uK:=uJ._auto_1
theorem uL(_:True:=by intro _;rfl):True:=⟨⟩
def uM:=uL._auto_1
theorem uN(_:True:=by first|exact C6 rfl|exact CG (C6 rfl)|exact CG (CG rfl)):True:=⟨⟩
theorem uO(_:True:=by with_unfolding_all rfl):True:=⟨⟩
theorem uP(_:True:=by (decide +kernel)):True:=⟨⟩
theorem uQ(_:True:=by intro _ _ _ _ _ _;first|exact OI λ_=>rfl|exact VA λ_ _=>rfl|exact U9 λ_ _ _=>rfl|exact Q4 λ_ _ _ _=>rfl|exact U8 λ_ _ _ _ _=>rfl|exact Q3 λ_ _ _ _ _ _=>rfl):True:=⟨⟩
theorem uR(_:True:=by first|exact C6 rfl|exact CG rfl):True:=⟨⟩
noncomputable section
theorem Z.{u}{α:Sort u}{a:α}:a=a:=rfl
abbrev sr:=List (Option Nat)
abbrev tD:=Array (Option HE)
abbrev tE:=List Bool
abbrev tG:=List PySem.Str
abbrev tH:=List HE
abbrev tI:=List HC
abbrev tJ:=Option Int
abbrev tK:=Option HE
abbrev tL:=List Int
abbrev tM:=Option Nat
abbrev tN:=List HS
abbrev tO:=Array HE
abbrev tP:=List Nat
abbrev tQ:=Option HC
abbrev tR:=HE->PySem.Shared->Prop
abbrev tS:=PySem.Str->Option HE
abbrev tT:=Nat->HC
abbrev tU:=Int->Bool
abbrev tV:=Nat->Nat->HC
namespace L2
open PySem PySem.Spec PyProof.Rows
noncomputable abbrev IC:=Sum Int Str
def RY:IC->HE->Bool
 |.inl k,v=>Value.isInt k v
 |.inr x,v=>Value.isStrOf x v
def YE (w:HQ):IC->Int
 |.inl k=>hashInt k
 |.inr x=>hashStr w x
theorem LK:∀{k:IC}{v:HE},RY k v=HG->(∃i t,k=Sum.inl i/\v=Dg i t)\/(∃x t,k=CL x/\v=Dm x t)
 |.inl i,v,h=>by obtain⟨t,e⟩:=Value.isInt_shape (k:=i) (v:=v) h;exact .inl (HP i t ⟨Z,e⟩)
 |.inr x,v,h=>by obtain⟨t,e⟩:=Value.isStrOf_shape (x:=x) (v:=v) h;exact .inr<|HP x t ⟨Z,e⟩
def qwy (i:Int)(t:Tok):RY (.inl i) (.int i t)=HG:=by simp[RY,Value.isInt]
def qwz (x:Str)(t:Tok):RY (.inr x) (.str x t)=HG:=by simp[RY,Value.isStrOf]
def Ua (a b:Int):decide ((Sum.inl a:IC)=Sum.inl b)=(a == b):=by
 by_cases e:a=b
 .subst e;simp
 .have h:¬(Sum.inl a:IC)=Sum.inl b:=λq=>e<|Sum.inl.inj q;rw[HM h];exact(beq_eq_false_iff_ne.mpr e).symm
def UX (a b:Str):decide ((CL a:IC)=CL b)=decide (a=b):=by
 by_cases e:a=b
 .subst e;simp
 .have h:¬(CL a:IC)=CL b:=λq=>e<|CL.inj q;rw[HM h,HM e]
def UZ (a:Int)(b:Str):decide ((Sum.inl a:IC)=CL b)=HH:=HM<|sh
def UY (a:Str)(b:Int):decide ((CL a:IC)=Sum.inl b)=HH:=HM<|sh
def Jl (prog:AJ)(w:HQ):PySem.KeyKind prog w IC where
 is:=RY
 hash:=YE w
 inj:=λv a b ha hb=>by
  rcases LK ha with ⟨i,t,rfl,rfl⟩|⟨x,t,rfl,rfl⟩
  .rcases LK hb with ⟨j,u,rfl,e⟩|⟨y,u,rfl,e⟩
   .injection e with e1 _;rw[e1]
   .exact nomatch e
  .rcases LK hb with ⟨j,u,rfl,e⟩|⟨y,u,rfl,e⟩
   .exact nomatch e
   .injection e with e1 _;rw[e1]
 byValue:=λk v h=>by rcases LK h with ⟨i,t,rfl,rfl⟩|⟨x,t,rfl,rfl⟩ <;>rfl
 pyHash:=λhv h=>by
  rcases LK hv with ⟨i,t,rfl,rfl⟩|⟨x,t,rfl,rfl⟩
  .exact wpAny_pyHash_int h
  .exact wpAny_pyHash_str h
 eqBool:=λhu hv h=>by
  rcases LK hu with ⟨i,t,rfl,rfl⟩|⟨x,t,rfl,rfl⟩
  .rcases LK hv with ⟨j,u,rfl,rfl⟩|⟨y,u,rfl,rfl⟩
   .rw[Ua]at h;exact wpAny_eqBool_int h
   .rw[UZ]at h;exact AY.int_str i t y u _ _ _ _ h
  .rcases LK hv with ⟨j,u,rfl,rfl⟩|⟨y,u,rfl,rfl⟩
   .rw[UY]at h;exact AY.str_int x t j u _ _ _ _ h
   .rw[UX]at h;exact wpAny_eqBool_str h
 «strs» := λk x t v h=>by
  rcases LK h with ⟨i,u,rfl,e⟩|⟨y,u,rfl,e⟩
  .exact nomatch e
  .injection e with e1 _;subst e1;cases v <;>rfl
def qrj (prog:AJ)(w:HQ)(i:Int)(t:Tok):(Jl prog w).is (.inl i) (.int i t)=HG:=qwy i t
def qrk (prog:AJ)(w:HQ)(x:Str)(t:Tok):(Jl prog w).is (.inr x) (.str x t)=HG:=qwz x t
end L2
namespace L2
open PySem PySem.Spec PyProof.Rows
inductive V where
 |non|bl (b:Bool)|int (i:Int)|str (x:Str)|byt (b:Array UInt8)|flt (b:UInt64)|ref (a:HC)|ty (n:String)
 deriving DecidableEq
abbrev _root_.tW:=List V
abbrev _root_.tX:=Option V
abbrev _root_.tY:=List (Str×V)
section
variable {u o:HO}{H:Hp}{a b:HC}
def RelV:V->HE->Prop
 |.non,u=>u=CS
 |.bl b,u=>u=DR b
 |.int i,u=>∃t,u=Dg i t
 |.str x,u=>∃t,u=Dm x t
 |.byt b,u=>∃t,u=Value.bytes b t
 |.flt b,u=>∃t,u=Value.float b t
 |.ref a,u=>u=Bk a
 |.ty n,u=>u=Cq n
abbrev Vals:tW->tH->Prop:=Dw RelV
theorem Vals.length {xs:tW}{us:tH}(r:Vals xs us):xs.length=us.length:=Dw.length r
theorem Vals.get:∀{xs:tW}{us:tH}{i:Nat}{x:V},Vals xs us->xs[i]?=HA x->∃u,us[i]?=HA u/\RelV x u
 |_,_,_,_,.nil,e=>by simp at e
 |_,_,0,_,.cons r _,e=>by simp at e;subst e;exact⟨_,Z,r⟩
 |_,_,i+1,x,.cons _ t,e=>by obtain⟨u,b,a⟩:=Vals.get (i:=i) (x:=x) t (by simpa using e);exact⟨u,by simpa using b,a⟩
theorem Vals.set {x:V}{u:HE}(r:RelV x u):∀{xs:tW}{us:tH}(i:Nat),Vals xs us->Vals (xs.set i x) (us.set i u)
 |_,_,_,.nil=>.nil
 |_,_,0,.cons _ t=>.cons r t
 |_,_,i+1,.cons q t=>.cons q<|Vals.set r i t
theorem Vals.append:∀{xs ys:tW}{us a:tH},Vals xs us->Vals ys a->Vals (xs++ys) (us++a)
 |_,_,_,_,.nil,s=>s
 |_,_,_,_,.cons r t,s=>.cons r<|Vals.append t s
theorem Vals.take:∀{xs:tW}{us:tH}(n:Nat),Vals xs us->Vals (xs.take n) (us.take n)
 |_,_,0,_=>.nil
 |_,_,_+1,.nil=>.nil
 |_,_,n+1,.cons r t=>.cons r<|Vals.take n t
theorem Vals.drop:∀{xs:tW}{us:tH}(n:Nat),Vals xs us->Vals (xs.drop n) (us.drop n)
 |_,_,0,r=>r
 |_,_,_+1,.nil=>.nil
 |_,_,n+1,.cons _ t=>Vals.drop n t
def RelO:tX->tK->Prop
 |some v,HA u=>RelV v u
 |none,HD=>True
 |_,_=>False
def KV {κ:Type}:List (κ×V)->List (κ×HE)->Prop:=Dw λ(p:κ×V)(q:κ×HE)=>p.1=q.1/\RelV p.2 q.2
def kV:IC->V
 |.inl i=>.int i
 |.inr x=>.str x
inductive HO where
 /-- a list -/
 |lst (xs:tW)
 /-- a tuple (never changes) -/
 |tup (xs:tW)
 /-- a dict whose keys are ints and texts;one whose keys are tuples of ints and texts (the empty one is both) -/
 |dK (kvs:List (IC×V))|dT (kvs:List (List IC×V))
 /-- a set of ints: its members,its size -/
 |set (S:tU) (n:Nat)
 /-- an instance of the class at C,its dict at dx,its attributes -/
 |ins (C dx:HC) (fs:tY)
 /-- the dict of the instance at x -/
 |own (x:HC)
 /-- the dict of an exception -/
 |xd (fs:tY)
 /-- a bound method,f of x -/
 |met (f x:HC)
 /-- a range object lo,lo+1,.. below hi -/
 |rng (lo hi:Int)
 /-- a thing that is known to the object (the script;a dict while a loop walks it): read,never written while it is so -/
 |frz (o:Obj) (u:HO)
 /-- a code object's table -/
 |tbl (ps:tO)
 /-- any other thing,by what is HG of its one object (a def of one's own: SetO a S n:=HO.ext λh=>..) -/
 |ext (φ:HX->Prop)
noncomputable abbrev Hp:=HC->Option HO
noncomputable def upd (H:Hp)(a:HC)(o:HO):Hp:=λb=>if b=a then HA o else H b
theorem qk:upd H a o a=HA o:=by unfold upd;rw[HI Z]
theorem qr (h:b≠a):upd H a o b=H b:=by unfold upd;rw[HF h]
theorem qu8:upd (upd H a o) a u=upd H a u:=by funext b;unfold upd;split <;>rfl
theorem X6 (h:H a=HA o)(h':H b=HA u)(d:o≠u):a≠b:=by intro e;subst e;rw[h]at h';exact d<|A8 h'
theorem Iz (h:H a=HA o)(h':H b=HD):a≠b:=by intro e;subst e;rw[h]at h';cases h'
end
section
variable (P:AJ)(w:HQ)
def ObjOk (H:Hp)(h:HX)(a:HC):HO->Prop
 |.lst xs=>xs.length<=A4/\∃(its:tH)(n:Nat),Vals xs its/\h.get? a=HA {cls:=.type "list",data:=.seq its.toArray n}
 |.tup xs=>xs.length<=A4/\∃its:tH,Vals xs its/\IsTup h a its.toArray
 |.dK kvs=>kvs.length<=A4/\(a == sysModules)=HH/\∃vs,KV kvs vs/\h.DictOf (Jl P w) a vs
 |.dT kvs=>kvs.length<=A4/\(a == sysModules)=HH/\∃xs:List (List IC×HC×HE),
   Dw (λ(p:List IC×V)(q:List IC×HC×HE)=>p.1=q.1/\H q.2.1=HA (.tup<|p.1.map kV)/\RelV p.2 q.2.2) kvs xs /\
   ∃o es ep,h.get? a=HA o/\o.ExactDict/\o.data=.dict es ep/\es.toList=xs.map (entryOfKey<|tupleKind<|Jl P w)/\(xs.map (·.1)).Nodup
 |.set S n=>h.SetOf (intKind P w) a S n
 |.ins C dx fs=>H dx=HA (.own a)/\fs.length<=1000/\dx≠a/\h.get? a=HA (C0 C dx) /\
   ∃mA,h.Ns1 dx mA/\(∀f,RelO (fs.lookup f)<|mA f)/\PySem.Within mA (fs.map (·.1))
 |.own _=>∃o,h.get? a=HA o
 |.xd fs=>∃mA,h.Ns1 a mA/\∀f,RelO (fs.lookup f) (mA f)
 |.rng lo hi=>∃t u v,h.get? a=HA {cls:=.type "range",data:=.fields #[.int lo t,.int hi u,.int 1 v]}
 |.frz o u=>h.get? a=HA o/\ObjOk H h a u
 |.tbl ps=>h.get? a=HA {cls:=.none,data:=.fields ps}
 |.met f x=>h.get? a=HA (Es (.ref f)<|.ref x)
 |.ext φ=>φ h/\(∃o,h.get? a=HA o)/\∀h1 h2:HX,φ h1->(∀o,h1.get? a=HA o->h2.get? a=HA o)->φ h2
def HOk (H:Hp)(h:HX):Prop:=∀a o,H a=HA o->ObjOk P w H h a o
end
section
variable {P:AJ}{w:HQ}{H H':Hp}{h h':HX}{a:HC}{o:HO}
theorem ObjOk.lt (x:ObjOk P w H h a o):a<h.objs.size:=by
 cases o with
 |lst xs=>obtain⟨_,_,_,_,e⟩:=x;exact AC e
 |tup xs=>obtain⟨_,_,_,p⟩:=x;exact p.lt
 |dK kvs=>obtain⟨_,_,_,_,o,_,_,e,_⟩:=x;exact AC e
 |dT kvs=>obtain⟨_,_,_,_,o,_,_,e,_⟩:=x;exact AC e
 |set S n=>obtain⟨o,_,_,_,e,_⟩:=x;exact AC e
 |ins C dx fs=>obtain⟨_,_,_,e,_⟩:=x;exact AC e
 |own y=>obtain⟨_,e⟩:=x;exact AC e
 |xd fs=>obtain⟨_,⟨_,_,_,e,_⟩,_⟩:=x;exact AC e
 |rng lo hi=>obtain⟨_,_,_,e⟩:=x;exact AC e
 |frz ob u=>obtain⟨e,_⟩:=x;exact AC e
 |tbl ps=>exact AC (show h.get? a=HA _ from x)
 |met f y=>exact AC (show h.get? a=HA _ from x)
 |ext φ=>obtain⟨_,⟨_,e⟩,_⟩:=x;exact AC e
theorem Dw.mapP {α β:Type}{F G:α->β->Prop}:∀{d:List α}{c:List β},Dw F d c->(∀a b,F a b->G a b)->Dw G d c
 |_,_,.nil,_=>.nil
 |_,_,.cons r t,f=>.cons (f _ _ r)<|Dw.mapP t f
theorem ObjOk.stay (x:ObjOk P w H h a o)(k:∀b u,(b=a\/H b=HA (.own a))->h.get? b=HA u->h'.get? b=HA u)
  (s:∀b,H b=HA (.own a)->H' b=HA (.own a))(l:∀b xs,H b=HA (.tup xs)->H' b=HA (.tup xs)):ObjOk P w H' h' a o:=by
 induction o with
 |lst xs=>obtain⟨z,its,n,r,e⟩:=x;exact⟨z,its,n,r,k _ _ (.inl Z) e⟩
 |tup xs=>obtain⟨z,its,r,g,e,c⟩:=x;exact⟨z,its,r,g,k _ _ (.inl Z) e,c⟩
 |dK kvs=>obtain⟨z,y,vs,r,g,es,ep,e,c⟩:=x;exact⟨z,y,vs,r,g,es,ep,k _ _ (.inl Z) e,c⟩
 |dT kvs =>obtain⟨z,y,xs,r,g,es,ep,e,c⟩:=x;exact⟨z,y,xs,Dw.mapP r λp q z=>⟨z.1,l _ _ z.2.1,z.2.2⟩,g,es,ep,k _ _ (.inl Z) e,c⟩
 |set S n=>obtain⟨g,es,ep,t,e,c⟩:=x;exact(Hv g es ep t ⟨k _ _ (.inl Z) e,c⟩)
 |ins C dx fs =>obtain⟨d,z,A,e,j,⟨i,es,ep,m,c⟩,r⟩:=x;exact⟨s _ d,z,A,k _ _ (.inl Z) e,j,HW i es ep ⟨k _ _ (.inr d) m,c⟩,r⟩
 |own y=>obtain⟨g,e⟩:=x;exact⟨g,k _ _ (.inl Z) e⟩
 |xd fs=>obtain⟨j,⟨i,es,ep,e,c⟩,r⟩:=x;exact⟨j,HW i es ep ⟨k _ _ (.inl Z) e,c⟩,r⟩
 |rng lo hi=>obtain⟨t,u,v,e⟩:=x;exact(HW t u v<|k _ _ (.inl Z) e)
 |frz g u ih=>obtain⟨e,q⟩:=x;exact⟨k _ _ (.inl Z) e,ih q⟩
 |tbl ps =>have e:h.get? a=HA {cls:=.none,data:=.fields ps}:=x;show h'.get? a=HA {cls:=.none,data:=.fields ps};exact k a _ (.inl Z) e
 |met f y =>have e:h.get? a=HA (Es (.ref f)<|.ref y):=x;show h'.get? a=HA (Es (.ref f)<|.ref y);exact k a _ (.inl Z) e
 |ext φ=>obtain⟨p,⟨o,e⟩,st⟩:=x;exact⟨st _ _ p λo q=>k _ _ (.inl Z) q,⟨o,k _ _ (.inl Z) e⟩,st⟩
def HOk.lt (x:HOk P w H h)(e:H a=HA o):a<h.objs.size:=(x a o e).lt
def HOk.fresh (x:HOk P w H h)(e:h.objs.size<=a):H a=HD:=by
 cases q:H a with|none=>rfl|some u=>exact absurd (Ay (x.lt q) e)<|BY _
def HOk.kept (x:HOk P w H h)(k:∀b u,h.get? b=HA u->h'.get? b=HA u):HOk P w H h':=λa o e =>
 (x a o e).stay (λb u _ q=>k b u q) (λ_ q=>q) λ_ _ q=>q
def HOk.laid (x:HOk P w H h)(k:∀b u,h.get? b=HA u->h'.get? b=HA u)(i:h.objs.size<=a)(d:ObjOk P w (upd H a o) h' a o):HOk P w (upd H a o) h':=λb u e=>by
 have f:=x.fresh i;by_cases g:b=a
 .subst g;rw[qk]at e;cases e;exact d
 .rw[qr g]at e;exact(x b u e).stay (λc v _ q=>k c v q) (λc q=>by rwa[qr<|Iz q f]) λc _ q=>by rwa[qr<|Iz q f]
end
def Rd (H:Hp)(a:HC)(u:HO):Prop:=H a=HA u \/ ∃o,H a=HA (.frz o u)
def Rd.ok {P:AJ}{w:HQ}{H:Hp}{h:HX}{a:HC}{u:HO}(r:Rd H a u)(x:HOk P w H h):ObjOk P w H h a u:=by
 rcases r with r|⟨o,r⟩
 .exact x a u r
 .obtain⟨_,q⟩:=x a _ r;exact q
def Yg:Option HO->Prop
 |some (.lst _)=>True
 |some (.dK _)=>True
 |some (.dT _)=>True
 |some (.set _ _)=>True
 |some (.ins _ _ _)=>True
 |some (.ext _)=>True
 |_=>False
section
variable {P:AJ}{w:HQ}{H:Hp}{h h':HX}{x e:HC}{o':HO}
theorem HOk.write (ok:HOk P w H h)(g:Yg (H x))(n:e=x\/H e=HA (.own x))(k:∀b u,b≠e->h.get? b=HA u->h'.get? b=HA u)(m:∃u,h'.get? e=HA u)
  (o:ObjOk P w (upd H x o') h' x o'):HOk P w (upd H x o') h':=λb u q=>by
 have d:∀c y,H c=HA (.own y)->c≠x:=λc y r z=>by subst z;rwa[r]at g
 have j:∀c xs,H c=HA (.tup xs)->c≠x:=λc xs r z=>by subst z;rwa[r]at g
 by_cases i:b=x
 .subst i;rw[qk]at q;cases q;exact o
 .rw[qr i]at q;by_cases a:b=e
  .have l:H b=HA (.own x):=by
    rcases n with z|z
    .exact absurd (a.trans z) i
    .rwa[a]
   rw[q]at l;cases l
   obtain⟨v,p⟩:=m
   exact⟨v,by rwa[a]⟩
  .refine(ok b u q).stay (λc v f r=>k c v ?_ r) (λc r=>by rwa[qr<|d c b r]) λc xs r=>by rwa[qr<|j c xs r]
   rcases f with rfl|f
   .exact a
   .rintro rfl;rcases n with z|z
    .exact d c b f z
    .rw[f]at z;cases z;exact i rfl
end
structure Un (fs ex:tI)(H H':Hp)(h h':HX):Prop where
 keep:∀b o,h.get? b=HA o->H b=HD->b∉fs->b∉ex->h'.get? b=HA o
 slot:∀b o,h.get? b=HA o->H b=HD->b∈fs->b∉ex->∃sl,h'.get? b=HA {o with slots:=sl}
 free:∀b o,h.get? b=HA o->H b=HD->b∉ex->H' b=HD
 there:∀b o,h.get? b=HA o->b∉ex->∃o',h'.get? b=HA o'
 tups:∀b xs,H b=HA (.tup xs)->H' b=HA (.tup xs)
 frzs:∀b o u,H b=HA (.frz o u)->H' b=HA (.frz o u)
 tbls:∀b ps,H b=HA (.tbl ps)->∃more,H' b=HA (.tbl<|ps++more)
section
variable {fs fs' ex ex':tI}{H H1 H2:Hp}{h h1 h2 h':HX}{a x e:HC}{o:HO}
def Un.any (u:Un fs ex H H1 h h1){b:HC}{a:Obj}(q:h.get? b=HA a)(n:H b=HD)(c:b∉ex):∃sl,h1.get? b=HA {a with slots:=sl}:=by
 by_cases d:b∈fs
 .exact u.slot b a q n d c
 .exact⟨a.slots,u.keep b a q n d c⟩
def Un.kept (k:∀b u,h.get? b=HA u->h'.get? b=HA u):Un fs ex H H h h' :=
 ⟨λb a q _ _ _=>k b a q,λb a q _ _ _=>⟨a.slots,k b a q⟩,λ_ _ _ n _=>n,λb a q _=>⟨a,k b a q⟩,λ_ _ q=>q,λ_ _ _ q=>q,λ_ _ q=>⟨#[],by rw[q];simp⟩⟩
def Un.refl:Un fs ex H H h h:=Un.kept λ_ _ q=>q
theorem Un.laid (k:∀b u,h.get? b=HA u->h'.get? b=HA u)(d:h.objs.size<=a)(c:H a=HD):Un fs ex H (upd H a o) h h' where
 keep:=λb u q _ _ _=>k b u q
 slot:=λb u q _ _ _=>⟨u.slots,k b u q⟩
 free:=λb u q n _=>by rwa[qr<|AD<|Ay (AC q) d]
 there:=λb u q _=>⟨u,k b u q⟩
 tups:=λb xs q=>by rwa[qr<|Iz q c]
 frzs:=λb u xs q=>by rwa[qr<|Iz q c]
 tbls:=λb _ q=>⟨#[],by rw[qr<|Iz q c,q];simp⟩
def Un.write (a:Yg (H x))(j:e=x\/H e=HA (.own x))(k:∀b u,b≠e->h.get? b=HA u->h'.get? b=HA u)(g:∃u,h'.get? e=HA u):Un fs ex H (upd H x o) h h':=by
 have f:∀b,H b=HD->b≠x:=λb n z=>by subst z;rwa[n]at a
 have i:∀b,H b=HD->b≠e:=λb n z=>by
  subst z;rcases j with r|r
  .exact f b n r
  .rw[n]at r;cases r
 have d:∀b u,H b=HA u->¬Yg (HA u)->b≠x:=λb u q nm z=>by subst z;rw[q]at a;exact nm a
 refine⟨λb u q n _ _=>k b u (i b n) q,λb u q n _ _=>⟨u.slots,k b u (i b n) q⟩,λb u q n _=>by rwa[qr<|f b n],λb u q _=>?_,
  λb xs q=>by rwa[qr<|d b _ q λz=>z],λb u xs q=>by rwa[qr<|d b _ q λz=>z],λb _ q=>⟨#[],by rw[qr<|d b _ q λz=>z,q];simp⟩⟩
 by_cases c:b=e
 .subst c;exact g
 .exact⟨u,k b u c q⟩
end
noncomputable def Yl (h:HX)(H:Hp):tI:=(An h.objs.size).filter λa=>(H a).isSome
def Pa (h:HX)(H:Hp):HX:=PySem.W.hideAll h<|Yl h H
def qw0 (h:HX)(H:Hp):(Pa h H).objs.size=h.objs.size:=PySem.W.hideAll_size _ _
def Zm {h:HX}{H:Hp}{b:HC}{o:Obj}(e:h.get? b=HA o)(n:H b=HD):(Pa h H).get? b=HA o :=
 PySem.W.hideAll_get _ e λa=>by have q:(H b).isSome=HG:=(Cb.mp a).2;rw[n]at q;simp at q
def QA {h:HX}{H:Hp}{b:HC}{o:Obj}(e:(Pa h H).get? b=HA o):h.get? b=HA o/\H b=HD:=by
 have a:h.get? b=HA o:=PySem.W.of_hideAll (Yl h H) e;refine⟨a,?_⟩;cases q:H b with|none=>rfl|some x =>have c:b∈Yl h H:=Cb.mpr ⟨AE.mpr<|AC a,by simp[q]⟩;have z:(Pa h H).get? b=HD:=PySem.W.hideAll_none (Yl h H) c;rw[z]at e;cases e
noncomputable def Q6 (g h:HX)(L:HC):List (HC×Obj):=(An h.objs.size).filterMap λa=>if a=L\/(g.get? a).isSome=HG then HD else (h.get? a).map λo=>(a,o)
def JF (g h:HX)(L d:HC):List (HC×Obj):=(Q6 g h L).filter λp=>decide (p.1≠d)
end L2
namespace L2
open PySem PySem.Spec PyProof.Rows
structure Mod (K:Ag)(mg:Str->tK)(base:HX):Prop where
 kin:K.In base
 glob:base.Ns A7 mg
 blt:∃mb,base.Ns builtinsNs mb/\∀x:Str,x ≠ "__name__" -> mb x=bootBuiltins x
 nolimit:base.NoLimit
structure Cx where
 prog:AJ
 w:HQ
 K:Ag
 mg:Str->tK
 base:HX
 A:AO
 N:tG
 s₀:Af
 H₀:Hp
 env:Env
 outer:List Env
 stack:List Env
 ex:tI
 fn:Str->Bool
 calm:Bool
 pn:List (HC×Obj)
 xe:HE->Af->Prop
noncomputable def Lx (l:List Env):tI:=l.filterMap (·.frame)
abbrev Cx.fs (X:Cx):tI:=Lx X.outer
def Q9 (sc:IS)(x:Str):Prop:=sc.names.lookup x=HA .local\/sc.names.lookup x=HA .cell\/sc.names.lookup x=HA .free
def VD (sc:IS)(x:Str):Prop:=sc.names.lookup x=HA .local\/sc.names.lookup x=HA .cell
def sN (env:Env)(h:HX)(m:Str->tK)(x:Str)(u:HE):Prop :=
 (env.kindOf x=HA .local/\m x=HA u)\/((env.kindOf x=HA .cell\/env.kindOf x=HA .free)/\∃c,env.cells.lookup x=HA c/\h.IsCell c (HA u))
structure Cx.Ok (X:Cx):Prop where
 mod:Mod X.K X.mg X.base
 kind:X.env.scope.kind=.function
 glob:X.env.globals=A7
 blt:X.env.builtins=builtinsNs
 above:X.s₀.heap.objs.size<=X.env.locals
 inj:∀x y c,X.env.cells.lookup x=HA c->X.env.cells.lookup y=HA c->x=y
 has:∀x,(X.env.kindOf x=HA .cell\/X.env.kindOf x=HA .free)->∃c,X.env.cells.lookup x=HA c
 cab:∀x c,X.fn x=HG->X.env.cells.lookup x=HA c->X.s₀.heap.objs.size<=c
 hd:X.calm=HG->X.A.handled=HD
 frames:X.A.frames=HA X.stack
 stk:X.stack=X.outer\/(X.stack=X.env::X.outer/\X.env.frame=HA X.env.locals)
 exf:∀b∈X.ex,b≠X.env.locals/\∀x c,X.env.cells.lookup x=HA c->c≠b
 bs:∀b o,X.base.get? b=HA o->X.s₀.heap.get? b=HA o/\X.H₀ b=HD
 bsz:X.base.objs.size<=X.s₀.heap.objs.size
 noex:∀b o,X.base.get? b=HA o->b∉X.ex
 exfs:∀b∈X.ex,b∉X.fs
 funs:X.s₀.heap.FunFrames X.base X.outer
 frf:∀b∈X.fs,X.H₀ b=HD
structure Inv (X:Cx)(pins:List (HC×Obj))(σ:List tX)(H:Hp)(s:Af):Prop where
 ok:X.Ok
 os:s.os=X.s₀.os
 bare:AllBare s.gens
 base:Un X.fs X.ex X.H₀ H X.s₀.heap s.heap
 loc:∃m,s.heap.Ns X.env.locals m/\∀(i:Nat)(x:Str)(v:V),X.N[i]?=HA x->σ[i]?=HA (HA v)->Q9 X.env.scope x->∃u,RelV v u/\sN X.env s.heap m x u
 cell:∀x c,X.env.cells.lookup x=HA c->∃v,s.heap.IsCell c v
 free:H X.env.locals=HD
 freeC:∀x c,X.env.cells.lookup x=HA c->H c=HD
 pin:∀p∈X.pn++pins,s.heap.get? p.1=HA p.2/\H p.1=HD/\p.1≠X.env.locals/\p.1∉X.fs/\∀v,p.2.data ≠ .cell v
 hok:HOk X.prog X.w H s.heap
 len:σ.length=X.N.length
section
variable {X:Cx}{pins:List (HC×Obj)}{σ:List tX}{H H':Hp}{s:Af}{h':HX}
def Cx.Ok.nofr (ok:X.Ok){b:HC}{o:Obj}(e:X.base.get? b=HA o):b∉X.fs:=λa=>by have:=(ok.funs.mem a).1;rw[e]at this;cases this
def Inv.bs (I:Inv X pins σ H s):∀b o,X.base.get? b=HA o->s.heap.get? b=HA o/\H b=HD:=λb o e =>
 ⟨I.base.keep b o (I.ok.bs b o e).1 (I.ok.bs b o e).2 (I.ok.nofr e)<|I.ok.noex b o e,I.base.free b o (I.ok.bs b o e).1 (I.ok.bs b o e).2<|I.ok.noex b o e⟩
def Inv.bk (I:Inv X pins σ H s):∀b o,X.base.get? b=HA o->s.heap.get? b=HA o:=λb o e=>(I.bs b o e).1
def Inv.mod (I:Inv X pins σ H s):Mod X.K X.mg X.base:=I.ok.mod
def Inv.kIn (I:Inv X pins σ H s):X.K.In s.heap:=I.ok.mod.kin.keeps I.bk
def Inv.nolimit (I:Inv X pins σ H s):s.heap.NoLimit:=I.ok.mod.nolimit.keeps I.bk
def Inv.lt (I:Inv X pins σ H s):X.env.locals<s.heap.objs.size:=let ⟨_,hn,_⟩:=I.loc;hn.lt
def Inv.sz (I:Inv X pins σ H s):X.s₀.heap.objs.size<=s.heap.objs.size:=Az I.ok.above<|Bt I.lt
def Inv.nofs (I:Inv X pins σ H s){a:HC}(h:s.heap.objs.size<=a):a∉X.fs:=λc=>by obtain⟨_,o,b,_⟩:=I.ok.funs.mem c;exact absurd (Ay (AC b)<|Az I.sz h)<|BY _
def Inv.cne (I:Inv X pins σ H s):∀x c,X.env.cells.lookup x=HA c->c≠X.env.locals:=λx c e z=>by obtain⟨v,o,b,a⟩:=I.cell x c e;obtain⟨m,⟨_,_,_,f,d,_⟩,_⟩:=I.loc;rw[z,f]at b;cases b;rw[d]at a;cases a
def Inv.funs (I:Inv X pins σ H s):s.heap.FunFrames X.base X.outer:=by
 have all:∀(l:List Env),(∀b∈Lx l,b∈X.fs)->X.s₀.heap.FunFrames X.base l->s.heap.FunFrames X.base l:=by
  intro l
  induction l with
  |nil=>intro _ _;trivial
  |cons env r ih =>intro f h;obtain⟨k,⟨L,o,d,j,i,m⟩,g⟩:=h;have a:L∈X.fs:=f L (by unfold Lx;rw[Eg,d];exact Am);obtain⟨_,e⟩:=I.base.slot L o i (I.ok.frf L a) a λz=>I.ok.exfs L z a;exact⟨k,HP L _ ⟨d,j,e,m⟩,ih (λb c=>f b (by unfold Lx;rw[Eg,d];exact A1 _ c)) g⟩
 exact all X.outer (λ_ c=>c) I.ok.funs
def Inv.stack (I:Inv X pins σ H s):s.heap.FunFrames X.base X.stack:=by
 rcases I.ok.stk with e|⟨e,b⟩
 .rw[e];exact I.funs
 .rw[e];obtain⟨m,a,_⟩:=I.loc;refine .cons (by rw[I.ok.kind];decide) b a ?_ I.funs;exact Heap.get?_none_of_le<|Az I.ok.bsz I.ok.above
def Inv.stkSub (I:Inv X pins σ H s):∀b∈Lx X.stack,b∈X.env.locals::X.fs:=λb a=>by
 rcases I.ok.stk with e|⟨e,c⟩
 .rw[e]at a;exact A1 _ a
 .rw[e]at a;unfold Lx at a;rwa[Eg,c]at a
def Inv.stkFree (I:Inv X pins σ H s):∀b∈Lx X.stack,H b=HD:=λb a=>by
 rcases Ax.mp (I.stkSub b a) with e|a
 .rw[e];exact I.free
 .obtain⟨_,o,c,_⟩:=I.ok.funs.mem a;exact I.base.free b o c (I.ok.frf b a) λz=>I.ok.exfs b z a
theorem Inv.step {g':Array GenState}{t':Nat}{d':Drawn}{ch:tI}(I:Inv X pins σ H s)
  (g:∀b∈ch,(b∈X.ex\/X.s₀.heap.objs.size<=b)/\b≠X.env.locals/\(∀x c,X.env.cells.lookup x=HA c->c≠b)/\∀p∈X.pn++pins,p.1≠b)
  (keep:∀b o,b≠X.env.locals->b∉X.fs->b∉ch->s.heap.get? b=HA o->H b=HD->h'.get? b=HA o)
  (slot:∀b o,b≠X.env.locals->b∈X.fs->b∉ch->s.heap.get? b=HA o->H b=HD->∃E,h'.get? b=HA {o with slots:=E})(free:∀b o,b∉ch->s.heap.get? b=HA o->H b=HD->H' b=HD)
  (there:∀b o,b∉ch->s.heap.get? b=HA o->∃o',h'.get? b=HA o')
  (tups:∀b xs,H b=HA (.tup xs)->H' b=HA (.tup xs))(frzs:∀b o u,H b=HA (.frz o u)->H' b=HA (.frz o u))(tbls:∀b ps,H b=HA (.tbl ps)->∃more,H' b=HA (.tbl<|ps++more))
  (ns:∀m,s.heap.Ns X.env.locals m->h'.Ns X.env.locals m)(hok:HOk X.prog X.w H' h')(hg:AllBare g') :
  Inv X pins σ H' {s with heap:=h',gens:=g',drawn:=d',toks:=t'}:=by
 have C:∀b o,X.s₀.heap.get? b=HA o->b≠X.env.locals:=λb o e=>AD<|Ay (AC e) I.ok.above;have y:∀b o,X.s₀.heap.get? b=HA o->b∉X.ex->b∉ch:=λb o e a j=>by
  rcases (g b j).1 with z|z
  .exact a z
  .exact absurd (Ay (AC e) z)<|BY _
 have t:∀x c,X.env.cells.lookup x=HA c->∀v,s.heap.IsCell c v->h'.IsCell c v:=by
  intro x c e v w';obtain⟨o,A,D⟩:=w'
  have h:c∉ch:=λz=>(g c z).2.2.1 x c e rfl;by_cases F:c∈X.fs
  .obtain⟨E,q⟩:=slot c o (I.cne x c e) F h A<|I.freeC x c e;exact⟨_,q,D⟩
  .exact⟨o,keep c o (I.cne x c e) F h A<|I.freeC x c e,D⟩
 refine⟨I.ok,I.os,hg,⟨λb o e n j a=>?_,λb o e n j a=>?_,λb o e n a=>?_,λb o e a=>?_,λb xs e=>tups b xs<|I.base.tups b xs e,λb o xs e=>frzs b o xs<|I.base.frzs b o xs e,λb ps e=>?_⟩,?_,λx c e=>?_,?_,λx c e=>?_,λp K=>?_,hok,I.len⟩
 .exact keep b o (C b o e) j (y b o e a) (I.base.keep b o e n j a)<|I.base.free b o e n a
 .obtain⟨E,f⟩:=I.base.slot b o e n j a;obtain⟨G,B⟩:=slot b _ (C b o e) j (y b o e a) f<|I.base.free b o e n a;exact⟨G,B⟩
 .obtain⟨o',f⟩:=I.base.there b o e a;exact free b o' (y b o e a) f<|I.base.free b o e n a
 .obtain⟨o',f⟩:=I.base.there b o e a;exact there b o' (y b o e a) f
 .obtain⟨Q,f⟩:=I.base.tbls b ps e;obtain⟨O,B⟩:=tbls b _ f;exact⟨Q++O,by rw[B,Array.append_assoc]⟩
 .obtain⟨m,P,N⟩:=I.loc;refine⟨m,ns m P,λi x v f B M=>?_⟩;obtain⟨u,r,l⟩:=N i x v f B M;refine⟨u,r,?_⟩;rcases l with l|⟨k,c,e,z⟩
  .exact .inl l
  .exact .inr ⟨k,c,e,t x c e _ z⟩
 .obtain⟨v,z⟩:=I.cell x c e;exact⟨v,t x c e v z⟩
 .obtain⟨m,⟨o,_,_,A,_⟩,_⟩:=I.loc;exact free _ o (λz=>(g _ z).2.1 Z) A I.free
 .obtain⟨v,o,A,D⟩:=I.cell x c e;exact free c o (λz=>(g c z).2.2.1 x c e Z) A<|I.freeC x c e
 .obtain⟨e,n,L,J,d⟩:=I.pin p K;have h:p.1∉ch:=λz=>(g p.1 z).2.2.2 p K rfl;exact⟨keep p.1 p.2 L J h e n,free p.1 p.2 h e n,L,J,d⟩
def Inv.un {t':Nat}(I:Inv X pins σ H s)(u:Un X.fs [] H H' s.heap h')(h:HOk X.prog X.w H' h'):Inv X pins σ H' {s with heap:=h',toks:=t'}:=by obtain⟨m,⟨o,_,_,d,r⟩,_⟩:=id I.loc;obtain⟨_,i⟩:=u.any d I.free (by simp);exact I.step (g':=s.gens) (d':=s.drawn) (ch:=[]) sh (λb o _ c _ e n=>u.keep b o e n c<|by simp) (λb o _ c _ e n=>u.slot b o e n c<|by simp) (λb o _ e n=>u.free b o e n<|by simp) (λb o _ e=>u.there b o e<|by simp) u.tups u.frzs u.tbls (λ_ j=>by obtain⟨_,f,g,a,k⟩:=j;rw[d]at a;cases a;exact HW _ f g ⟨i,k⟩) h I.bare
theorem Inv.call {g':Array GenState}{t':Nat}{d':Drawn}{ch:tI}(I:Inv X pins σ H s)(u:Un (Lx X.stack) ch H H' s.heap h')(k:HOk X.prog X.w H' h')(q:AllBare g')
  (f:∀b∈ch,(b∈X.ex\/X.s₀.heap.objs.size<=b)/\b≠X.env.locals/\(∀x c,X.env.cells.lookup x=HA c->c≠b)/\∀p∈X.pn++pins,p.1≠b) :
  Inv X pins σ H' {s with heap:=h',gens:=g',drawn:=d',toks:=t'}:=by
 obtain⟨m,⟨o,_,_,h,r⟩,_⟩:=id I.loc;obtain⟨_,g⟩:=u.any h I.free λz=>(f _ z).2.1 rfl;exact I.step (ch:=ch) f (λb o g t a e n=>u.keep b o e n (λz=>(Ax.mp<|I.stkSub b z).elim g t) a) (λb o _ _ a e n=>u.any e n a) (λb o a e n=>u.free b o e n a) (λb o a e=>u.there b o e a) u.tups u.frzs u.tbls (λ_ l=>by obtain⟨_,i,j,d,v⟩:=l;rw[h]at d;cases d;exact HW _ i j ⟨g,v⟩) k q
theorem Inv.turned {t':Nat}{it:HC}(I:Inv X pins σ H s)(k:∀b o,b≠it->s.heap.get? b=HA o->h'.get? b=HA o)(l:H it=HD)(f:it≠X.env.locals)
  (t:it∈X.ex\/X.s₀.heap.objs.size<=it)(g:∀x c,X.env.cells.lookup x=HA c->c≠it)(w:∀p∈X.pn++pins,p.1≠it):Inv X pins σ H {s with heap:=h',toks:=t'}:=by
 have d:∀b u,H b=HA u->b≠it:=λb u e z=>by rw[z,l]at e;cases e
 refine I.step (g':=s.gens) (d':=s.drawn) (ch:=[it]) (λb i=>?_) (λb o _ _ a e _=>k b o (λz=>a (by simp[z])) e) (λb o _ _ a e _=>⟨o.slots,k b o (λz=>a (by simp[z])) e⟩) (λ_ _ _ _ n=>n)
  (λb o a e=>⟨o,k b o (λz=>a (by simp[z])) e⟩) (λ_ _ e=>e) (λ_ _ _ e=>e) (λb _ e=>⟨#[],by rw[e];simp⟩) (λm h=>?_) (λb u e=>?_) I.bare
 .have e:b=it:=by simpa using i
  subst e;exact⟨t,f,g,w⟩
 .obtain⟨o,es,ep,j,r⟩:=h;exact HW o es ep ⟨k _ o (By f) j,r⟩
 .refine(I.hok b u e).stay (λc v a q=>k c v ?_ q) (λ_ q=>q) λ_ _ q=>q;rcases a with z|z
  .rw[z];exact d b u e
  .exact d c _ z
def Inv.tok (I:Inv X pins σ H s)(t:Nat):Inv X pins σ H {s with toks:=t}:=I.un (h':=s.heap) (t':=t) Un.refl I.hok
def Inv.kept {t':Nat}(I:Inv X pins σ H s)(k:∀b u,s.heap.get? b=HA u->h'.get? b=HA u):Inv X pins σ H {s with heap:=h',toks:=t'}:=I.un (Un.kept k)<|I.hok.kept k
theorem Inv.laid {a:HC}{o:HO}{t':Nat}(I:Inv X pins σ H s)(k:∀b u,s.heap.get? b=HA u->h'.get? b=HA u)(c:s.heap.objs.size<=a)(d:ObjOk X.prog X.w (upd H a o) h' a o) :
  Inv X pins σ (upd H a o) {s with heap:=h',toks:=t'}:=I.un (Un.laid k c<|I.hok.fresh c)<|I.hok.laid k c d
theorem Inv.write {x e:HC}{o:HO}{t':Nat}(I:Inv X pins σ H s)(d:Yg (H x))(c:e=x\/H e=HA (.own x))(k:∀b u,b≠e->s.heap.get? b=HA u->h'.get? b=HA u)(a:∃u,h'.get? e=HA u)
  (f:ObjOk X.prog X.w (upd H x o) h' x o):Inv X pins σ (upd H x o) {s with heap:=h',toks:=t'}:=I.un (Un.write d c k a)<|I.hok.write d c k a f
def Inv.pins_of {a:List (HC×Obj)}(I:Inv X pins σ H s)(h:∀p∈a,s.heap.get? p.1=HA p.2/\H p.1=HD/\p.1≠X.env.locals/\p.1∉X.fs/\∀v,p.2.data ≠ .cell v):Inv X a σ H s :=
 ⟨I.ok,I.os,I.bare,I.base,I.loc,I.cell,I.free,I.freeC,λp b=>(As.mp b).elim (λz=>I.pin p<|BA _ z)<|h p,I.hok,I.len⟩
def qrl {N:tG}(d:N.Nodup){i j:Nat}{x:Str}(a:N[i]?=HA x)(b:N[j]?=HA x):i=j:=by obtain⟨_,e⟩:=Ac.mp a;obtain⟨_,c⟩:=Ac.mp b;exact(List.getElem_inj d).mp<|e.trans c.symm
theorem qw1 {M:Model}{A:AO}{E:tR}{i:Nat}{x:Str}{v:V}{u:HE}{Q:Unit->Af->Prop}(I:Inv X pins σ H s)(hN:X.N.Nodup)(L:X.N[i]?=HA x)(t:VD X.env.scope x)(r:RelV v u)
  (h:∀s',Inv X pins (σ.set i<|HA v) H s'->(∃a,CM a s.heap s'.heap/\(a=X.env.locals\/X.env.cells.lookup x=HA a))->Q () s')(hf:autoParam (X.fn x=HG\/X.env.scope.names.lookup x=HA .local) uK):wpAny M A (storeName X.env x u) Q E s:=by
 obtain⟨m,hn,hl⟩:=id I.loc;have ae:(X.env.scope.kind == .class || (X.env.scope.kind == .module && X.env.locals != X.env.globals))=HH:=by rw[I.ok.kind];rfl
 have W:i<σ.length:=by rw[I.len];exact(Ac.mp L).1
 have cne:=I.cne;have B:∀{a:HC}{h':HX},(∃o,s.heap.get? a=HA o/\H a=HD)->CM a s.heap h'->HOk X.prog X.w H h':=λ{a h'} ha f b ob e=>by
  obtain⟨_,_,J⟩:=ha;refine(I.hok b ob e).stay (λc O l q=>(f.2 c ?_).trans q) (λ_ q=>q) λ_ _ q=>q;rintro rfl;rcases l with rfl|l
  .rw[J]at e;cases e
  .rw[J]at l;cases l
 rcases t with D|D
 .refine wpAny_storeName_local D hn (λh' ag f=>?_) ae;obtain⟨oL,_,_,af,_⟩:=id hn;refine h _ ⟨I.ok,I.os,I.bare,⟨λb o e n G t=>?_,λb o e n G t=>?_,I.base.free,λb o e t=>?_,I.base.tups,I.base.frzs,I.base.tbls⟩,⟨_,ag,λj y v' g C Y=>?_⟩,λy c e=>?_,I.free,I.freeC,λp hp=>?_,B ⟨oL,af,I.free⟩ f,by simpa using I.len⟩ ⟨_,f,.inl Z⟩
  .exact(f.2 b<|AD<|Ay (AC e) I.ok.above).trans<|I.base.keep b o e n G t
  .obtain⟨sl,g⟩:=I.base.slot b o e n G t;exact⟨sl,(f.2 b<|AD<|Ay (AC e) I.ok.above).trans g⟩
  .obtain⟨o',g⟩:=I.base.there b o e t;exact⟨o',(f.2 b<|AD<|Ay (AC e) I.ok.above).trans g⟩
  .by_cases F:j=i
   .subst F;rw[L]at g;cases g;rw[DF W]at C;cases C;exact⟨u,r,.inl ⟨D,by simp⟩⟩
   .rw[DY<|By F]at C;obtain⟨u',r',q⟩:=hl j y v' g C Y;refine⟨u',r',?_⟩;rcases q with ⟨k,e⟩|⟨k,c,e,z⟩
    .refine .inl ⟨k,?_⟩;have:y≠x:=λe=>F<|qrl hN g<|e ▸ L;simp[this,e]
    .exact .inr ⟨k,c,e,z.sameBut f<|cne y c e⟩
  .obtain⟨O,z⟩:=I.cell y c e;exact⟨O,z.sameBut f<|cne y c e⟩
  .obtain⟨e,n,R,nf,d⟩:=I.pin p hp;exact⟨(f.2 p.1 R).trans e,n,R,nf,d⟩
 .have K:X.fn x=HG:=by
   rcases hf with z|z
   .exact z
   .rw[z]at D;cases D
  obtain⟨c,l⟩:=I.ok.has x<|.inl D
  obtain⟨O,z⟩:=I.cell x c l
  refine wpAny_storeName_cell I.ok.kind D l z<|λh' T f=>?_
  obtain⟨oc,U,ad⟩:=id z
  refine h {s with heap:=h'} ⟨I.ok,I.os,I.bare,⟨λb o e n G t=>?_,λb o e n G t=>?_,I.base.free,λb o e t=>?_,I.base.tups,I.base.frzs,I.base.tbls⟩,⟨m,hn.sameBut f<|By<|cne x c l,λj y v' g C Y=>?_⟩,λy P e=>?_,I.free,I.freeC,λp hp=>?_,B ⟨oc,U,I.freeC x c l⟩ f,by simpa using I.len⟩ ⟨c,f,.inr l⟩
  .exact(f.2 b<|AD<|Ay (AC e)<|I.ok.cab x c K l).trans<|I.base.keep b o e n G t
  .obtain⟨sl,g⟩:=I.base.slot b o e n G t;exact⟨sl,(f.2 b<|AD<|Ay (AC e)<|I.ok.cab x c K l).trans g⟩
  .obtain⟨o',g⟩:=I.base.there b o e t;exact⟨o',(f.2 b<|AD<|Ay (AC e)<|I.ok.cab x c K l).trans g⟩
  .by_cases F:j=i
   .subst F;rw[L]at g;cases g;rw[DF W]at C;cases C;exact⟨u,r,.inr ⟨.inl D,c,l,T⟩⟩
   .rw[DY<|By F]at C;obtain⟨u',r',q⟩:=hl j y v' g C Y;refine⟨u',r',?_⟩;rcases q with q|⟨k,P,e,z'⟩
    .exact .inl q
    .refine .inr ⟨k,P,e,z'.sameBut f ?_⟩;rintro rfl;exact F<|qrl hN g<|I.ok.inj _ _ _ e l ▸ L
  .by_cases S:P=c
   .subst S;exact⟨_,T⟩
   .obtain⟨w2,z2⟩:=I.cell y P e;exact⟨w2,z2.sameBut f S⟩
  .obtain⟨e,n,R,nf,d⟩:=I.pin p hp;refine⟨(f.2 p.1 ?_).trans e,n,R,nf,d⟩;intro q;rw[q,U]at e;have q':oc=p.2:=A8 e;exact d O (by rwa[<- q'])
theorem o5 {M:Model}{A:AO}{E:tR}{i:Nat}{x:Str}{v:V}{u:HE}{Q:Unit->Af->Prop}(I:Inv X pins σ H s)(b:X.N.Nodup)(d:X.N[i]?=HA x)(c:VD X.env.scope x)(r:RelV v u)
  (h:∀a,Inv X pins (σ.set i<|HA v) H a->Q () a)(e:autoParam (X.fn x=HG\/X.env.scope.names.lookup x=HA .local) uK):wpAny M A (storeName X.env x u) Q E s :=
 qw1 I b d c r (λa f _=>h a f) e
theorem Inv.call' {a:Af}{ch:tI}(I:Inv X pins σ H s)(g:a.os=s.os)(u:Un (Lx X.stack) ch H H' s.heap a.heap)(f:HOk X.prog X.w H' a.heap)(h:AllBare a.gens)
  (d:∀b∈ch,(b∈X.ex\/X.s₀.heap.objs.size<=b)/\b≠X.env.locals/\(∀x c,X.env.cells.lookup x=HA c->c≠b)/\∀p∈X.pn++pins,p.1≠b):Inv X pins σ H' a:=by
 obtain⟨_,g',d',t',o'⟩:=a;have e:o'=s.os:=g;subst e;exact I.call (g':=g') (t':=t') (d':=d') u f h d
end
abbrev XK:=HE->tQ->Hp->Prop
noncomputable abbrev St:=List<|tX
abbrev VK:=V->Hp->Prop
abbrev TE:=St->Hp->VK->Prop
abbrev TT:=St->Hp->(Bool->Hp->Prop)->Prop
abbrev TA:=St->Hp->(tW->Hp->Prop)->Prop
structure Ends where
 nx:St->Hp->Prop
 rt:VK
 bk:St->Hp->Prop:=λ_ _=>False
 ct:St->Hp->Prop:=λ_ _=>False
abbrev TS:=Ends->St->Hp->Prop
def EP (X:Cx)(pins:List (HC×Obj))(σ:St)(Q:VK)(u:HE)(s':Af):Prop:=∃v H',Inv X pins σ H' s'/\RelV v u/\Q v H'
def TP (X:Cx)(pins:List (HC×Obj))(σ:St)(Q:Bool->Hp->Prop)(b:Bool)(s':Af):Prop:=∃H',Inv X pins σ H' s'/\Q b H'
def AP (X:Cx)(pins:List (HC×Obj))(σ:St)(Q:tW->Hp->Prop)(us:tH)(s':Af):Prop:=∃vs H',Inv X pins σ H' s'/\Vals vs us/\Q vs H'
def SP (X:Cx)(pins:List (HC×Obj))(D:Ends)(f:Flow)(s':Af):Prop :=
 match f with
 |.next=>∃σ' H',Inv X pins σ' H' s'/\D.nx σ' H'
 |.brk=>∃σ' H',Inv X pins σ' H' s'/\D.bk σ' H'
 |.cont=>∃σ' H',Inv X pins σ' H' s'/\D.ct σ' H'
 |.ret u=>∃v σ' H',Inv X pins σ' H' s'/\RelV v u/\D.rt v H'
def PE (X:Cx)(e:HS)(t:TE):Prop :=
 ∀(pins:List (HC×Obj))(s:Af)(σ:St)(H:Hp)(Q:VK),Inv X pins σ H s->t σ H Q->wpAny (model X.prog X.w) X.A (eval e X.env) (EP X pins σ Q) X.xe s
def PT (X:Cx)(e:HS)(t:TT):Prop :=
 ∀(pins:List (HC×Obj))(s:Af)(σ:St)(H:Hp)(Q:Bool->Hp->Prop),Inv X pins σ H s->t σ H Q->wpAny (model X.prog X.w) X.A (isTrue e X.env<|eval e X.env) (TP X pins σ Q) X.xe s
def PW (X:Cx)(e:HS)(t:TT):Prop :=
 ∀(whole:Sem HE)(pins:List (HC×Obj))(s:Af)(σ:St)(H:Hp)(Q:Bool->Hp->Prop),Inv X pins σ H s->t σ H Q->wpAny (model X.prog X.w) X.A (isTrue e X.env whole) (TP X pins σ Q) X.xe s
def PW.pt {X:Cx}{e:HS}{t:TT}(h:PW X e t):PT X e t:=h _
def PA (X:Cx)(es:tN)(t:TA):Prop :=
 ∀(pos:Pos)(pins:List (HC×Obj))(s:Af)(σ:St)(H:Hp)(Q:tW->Hp->Prop),Inv X pins σ H s->t σ H Q->wpAny (model X.prog X.w) X.A (spliced<|backTo pos<|starEach es X.env) (AP X pins σ Q) X.xe s
def PS (X:Cx)(st:HN)(t:TS):Prop :=
 ∀(pins:List (HC×Obj))(s:Af)(σ:St)(H:Hp)(D:Ends),Inv X pins σ H s->t D σ H->wpAny (model X.prog X.w) X.A (exec st X.env) (SP X pins D) X.xe s
def PSs (X:Cx)(st:List HN)(t:TS):Prop :=
 ∀(pins:List (HC×Obj))(s:Af)(σ:St)(H:Hp)(D:Ends),Inv X pins σ H s->t D σ H->wpAny (model X.prog X.w) X.A (execs st X.env) (SP X pins D) X.xe s
def Hy {α:Type}{t:Sem α}{Q b:α->Af->Prop}{M:Model}{A:AO}{E:tR}{s:Af}(h:wpAny M A t Q E s)(c:∀a s,Q a s->b a s):wpAny M A t b E s:=Cd h c λ_ _ x=>x
end L2
namespace L2
open PySem PySem.Spec PyProof.Rows
section
variable {X:Cx}
section
variable {x:Str}{a:List (HC×Obj)}{s:Af}{σ:St}{H:Hp}{u:HE}{Q:tR}{v:V}
def Wm (i:Nat):TE:=λσ H Q=>∃v,σ[i]?=HA (HA v)/\Q v H
def tC (v:V):TE:=λ_ H Q=>Q v H
theorem T9 {i:Nat}{pos:Pos}(q:X.N[i]?=HA x)(k:Q9 X.env.scope x)(f:autoParam ((x == ("__debug__" : Str))=HH) uI)(hcd:autoParam ((x == ("__classdict__" : Str))=HH) uI):PE X (.Name x pos) (Wm i):=by
 intro g s σ H Q I h;obtain⟨v,e,h⟩:=h;obtain⟨m,p,o⟩:=I.loc;obtain⟨u,r,l⟩:=o i x v q e k;have d:EP X g σ Q u s:=HP v H ⟨I,r,h⟩;rcases l with ⟨a,n⟩|⟨a,c,j,b⟩
 .exact wpAny_Name (wpAny_loadName_local I.ok.kind a p n d) f
 .rcases a with a|a
  .exact wpAny_Name (wpAny_loadName_cell I.ok.kind a j b d) f
  .exact wpAny_Name (wpAny_loadName_free I.ok.kind a j b d hcd) f
theorem qi {i j pos}:PE X (.Constant (.int i) j pos) (tC<|.int i):=λ_ _ _ H _ I h=>wpAny_Constant_int<|HP (.int i) H ⟨I.tok _,⟨_,Z⟩,h⟩
theorem JV {b j pos}:PE X (.Constant (.bool b) j pos) (tC<|.bl b):=λ_ _ _ H _ I h=>Constant_bool<|HP (.bl b) H ⟨I,Z,h⟩
theorem Io {j pos}:PE X (.Constant .none j pos) (tC .non):=λ_ _ _ H _ I h=>Constant_none<|HP .non H ⟨I,Z,h⟩
theorem zg {x j pos}:PE X (.Constant (.str x) j pos) (tC<|.str x):=λ_ _ _ H _ I h=>Calls.Constant_str<|HP (.str x) H ⟨I.tok _,⟨_,Z⟩,h⟩
def Gl (X:Cx)(x:Str):Prop:=X.env.kindOf x=HA .globalImplicit
theorem oA {E:tR}{pos:Pos}(I:Inv X a σ H s)(d:Gl X x)(c:X.mg x=HA u)(h:Q u s)
  (b:autoParam ((x == ("__debug__" : Str))=HH) uI):wpAny (model X.prog X.w) X.A (eval (.Name x pos) X.env) Q E s :=
 Calls.Name_function_global I.ok.kind d (Calls.loadGlobal_global (by rw[I.ok.glob];exact I.mod.glob.keeps I.bk) c h) b
theorem Rh {E:tR}{pos:Pos}(I:Inv X a σ H s)(f:Gl X x)(d:X.mg x=HD)(c:bootBuiltins x=HA u)(h:Q u s)
  (e:x ≠ "__name__" := by decide)(hd:autoParam ((x == ("__debug__" : Str))=HH) uI):wpAny (model X.prog X.w) X.A (eval (.Name x pos) X.env) Q E s:=by
 obtain⟨_,g,b⟩:=I.mod.blt;exact Calls.Name_function_global I.ok.kind f (Calls.loadGlobal_builtin (by rw[I.ok.glob];exact I.mod.glob.keeps I.bk) d (by rw[I.ok.blt];exact g.keeps I.bk) ((b x e).trans c) h) hd
theorem LG {pos:Pos}(c:Gl X x)(b:X.mg x=HA u)(r:RelV v u)(a:autoParam ((x == ("__debug__" : Str))=HH) uI):PE X (.Name x pos) (tC v) :=
 λ_ _ _ H _ I h=>oA I c b (HP v H ⟨I,r,h⟩) a
theorem KD {pos:Pos}(d:Gl X x)(b:X.mg x=HD)(a:bootBuiltins x=HA u)(r:RelV v u)(c:x ≠ "__name__" := by decide)(hd:autoParam ((x == ("__debug__" : Str))=HH) uI):PE X (.Name x pos) (tC v) :=
 λ_ _ _ H _ I h=>Rh I d b a (HP v H ⟨I,r,h⟩) c hd
end
variable {a b:HS}{ta tb:TE}{pos:Pos}
def PC (X:Cx)(op:CmpOp)(a b:HS)(t:TE):Prop :=
 ∀(pins:List (HC×Obj))(s:Af)(σ:St)(H:Hp)(Q:VK),Inv X pins σ H s->t σ H Q ->
  wpAny (model X.prog X.w) X.A (eval a X.env) (λv s₁=>wpAny (model X.prog X.w) X.A (eval b X.env) (λu s₂=>wpAny (model X.prog X.w) X.A (compareOp op v u) (EP X pins σ Q) X.xe s₂) X.xe s₁) X.xe s
def tB (t:TE):TT:=λσ H Q=>t σ H λx H1=>∃c,x=.bl c/\Q c H1
def qy1 {op:CmpOp}{t:TE}(h:PC X op a b t)(e:behindInMarks op b=HH:=by first|exact nobehind _ Ud Ud|rfl):PT X (.Compare a [op] [b] pos) (tB t):=by intro f s σ H Q I l;refine wpAny_isTrue_Compare1 (Hy (h f s σ H _ I l) λv _ e=>Hy e λu _ i=>Hy i λc _ g=>?_) e;obtain⟨x,m,k,n,j⟩:=g;obtain⟨d,rfl,q⟩:=j;cases n;exact B0 ⟨m,k,q⟩
def zf {e:HS}{t:TE}(h:PE X e t)(f:autoParam (∀whole,isTrue e X.env whole=(do let v <- whole;standAt e.pos;holding [v] (truthy v))) uM):PT X e (tB t):=by intro a s σ H Q I i;refine isTrue_plain (Hy (h a s σ H _ I i) λv _ b=>?_)<|f _;obtain⟨x,j,g,k,c⟩:=b;obtain⟨d,rfl,q⟩:=c;cases k;exact B0 ⟨j,g,q⟩
variable {tA tB':TT}{JF:tN}
def iC (t u:TT):TT:=λσ H Q=>t σ H λc H1=>if c=HG then u σ H1 Q else Q HH H1
def tOr (t u:TT):TT:=λσ H Q=>t σ H λc H1=>if c=HG then Q HG H1 else u σ H1 Q
def hK (t:TT):TT:=λσ H Q=>t σ H λc H1=>Q (!c) H1
def KW (d:PT X a tA):PW X (.BoolOp .And [a] pos) tA:=by
 intro _ b s σ H Q I h;refine isTrue_and<|Hy (d b s σ H Q I h) λc _ e=>?_;cases c with|true=>exact isTrue_and_nil e|false=>exact e
def Ku (d:PT X a tA):PW X (.BoolOp .Or [a] pos) tA:=by
 intro _ b s σ H Q I h;refine isTrue_or<|Hy (d b s σ H Q I h) λc _ e=>?_;cases c with|false=>exact isTrue_or_nil e|true=>exact e
def KC (j:PT X a tA)(l:PW X (.BoolOp .And (b::JF) pos) tB'):PW X (.BoolOp .And (a::b::JF) pos) (iC tA tB'):=by
 intro m d s σ H Q I h;refine isTrue_and<|Hy (j d s σ H _ I h) λc k e=>?_;obtain⟨i,f,g⟩:=e;cases c with|true=>exact l m d k σ i Q f g|false=>exact⟨i,f,g⟩
def Kh (j:PT X a tA)(l:PW X (.BoolOp .Or (b::JF) pos) tB'):PW X (.BoolOp .Or (a::b::JF) pos) (tOr tA tB'):=by
 intro m d s σ H Q I h;refine isTrue_or<|Hy (j d s σ H _ I h) λc k e=>?_;obtain⟨i,f,g⟩:=e;cases c with|true=>exact⟨i,f,g⟩|false=>exact l m d k σ i Q f g
def Kx (d:PT X a tA):PT X (.UnaryOp .Not a pos) (hK tA):=by intro b s σ H Q I h;exact isTrue_not<|d b s σ H (λc e=>Q (!c) e) I h
def WM (ta tb:TE):TE:=λσ H Q=>ta σ H λx H1=>∃c,x=.bl c/\if c=HG then tb σ H1 Q else Q (.bl HH) H1
def hI (ta tb:TE):TE:=λσ H Q=>ta σ H λx H1=>∃c,x=.bl c/\if c=HG then Q (.bl HG) H1 else tb σ H1 Q
def WD (ta:TE):TE:=λσ H Q=>ta σ H λx H1=>∃c,x=.bl c/\Q (.bl (!c)) H1
def Lp {op}{t:TE}(h:PE X a t):PE X (.BoolOp op [a] pos) t:=λb s σ H Q I c=>BoolOp_one<|h b s σ H Q I c
def Lc (k:PE X a ta)(l:PE X (.BoolOp .And (b::JF) pos) tb):PE X (.BoolOp .And (a::b::JF) pos) (WM ta tb):=by
 intro d s σ H Q I h;refine BoolOp_and<|Hy (k d s σ H _ I h) λv j f=>?_;obtain⟨x,i,g,m,e⟩:=f;obtain⟨c,rfl,e⟩:=e;cases m;refine B0 ?_;cases c with|true=>exact l d j σ i Q g e|false=>exact⟨.bl HH,i,g,Z,e⟩
def Rv (k:PE X a ta)(l:PE X (.BoolOp .Or (b::JF) pos) tb):PE X (.BoolOp .Or (a::b::JF) pos) (hI ta tb):=by
 intro d s σ H Q I h;refine BoolOp_or<|Hy (k d s σ H _ I h) λv j f=>?_;obtain⟨x,i,g,m,e⟩:=f;obtain⟨c,rfl,e⟩:=e;cases m;refine B0 ?_;cases c with|false=>exact l d j σ i Q g e|true=>exact⟨.bl HG,i,g,Z,e⟩
def ZE (i:PE X a ta):PE X (.UnaryOp .Not a pos) (WD ta):=by intro d s σ H Q I h;refine UnaryOp_<|Hy (i d s σ H _ I h) λv _ e=>?_;obtain⟨x,j,f,g,b⟩:=e;obtain⟨c,rfl,b⟩:=b;cases g;exact not_of<|B0 ⟨.bl (!c),j,f,Z,b⟩
def tIf (t:TT)(ta tb:TE):TE:=λσ H Q=>t σ H λc H1=>if c=HG then ta σ H1 Q else tb σ H1 Q
def Rp {c:HS}(l:PT X c tA)(m:PE X a ta)(n:PE X b tb):PE X (.IfExp c a b pos) (tIf tA ta tb):=by
 intro e s σ H Q I h;refine wpAny_IfExp<|Hy (l e s σ H _ I h) λd j f=>?_;obtain⟨k,g,i⟩:=f;cases d with|true=>exact m e j σ k Q g i|false=>exact n e j σ k Q g i
end
end L2
namespace L2
open PySem PySem.Spec PyProof.Rows
def SqL (K:Ag)(H:Hp)(a:HC)(xs:tW):Prop :=
 Rd H a (.lst xs) \/
  ∃(o:Obj)(its:tO)(n:Nat),K.lookup a=HA o/\o.cls=.type "list" /\ o.dict=HD/\o.data=.seq its n/\its.size<=A4/\Vals xs its.toList
def SqT (K:Ag)(H:Hp)(a:HC)(xs:tW):Prop :=
 Rd H a (.tup xs) \/
  ∃(o:Obj)(its:tO)(n:Nat),K.lookup a=HA o/\o.cls=.type "tuple" /\ o.data=.seq its n/\its.size<=A4/\Vals xs its.toList
noncomputable def ry:HE->tX
 |.none=>HA .non
 |.bool b=>HA (.bl b)
 |.int i _=>HA (.int i)
 |.str x _=>HA (.str x)
 |.bytes b _=>HA (.byt b)
 |.float b _=>HA (.flt b)
 |.ref a=>HA (.ref a)
 |.type n=>HA (.ty n)
 |_=>HD
theorem RelV.abs {x:V}{u:HE}(r:RelV x u):ry u=HA x:=by
 cases x with
 |non=>cases r;rfl
 |bl _=>cases r;rfl
 |int _=>obtain⟨t,rfl⟩:=r;rfl
 |str _=>obtain⟨t,rfl⟩:=r;rfl
 |byt _=>obtain⟨t,rfl⟩:=r;rfl
 |flt _=>obtain⟨t,rfl⟩:=r;rfl
 |ref _=>cases r;rfl
 |ty _=>cases r;rfl
def RelV.inj {x y:V}{u:HE}(r:RelV x u)(q:RelV y u):x=y:=A8<|r.abs.symm.trans q.abs
theorem Vals.inj:∀{xs ys:tW}{us:tH},Vals xs us->Vals ys us->xs=ys
 |_,_,_,.nil,.nil=>rfl
 |_,_,_,.cons r t,.cons r' t'=>by rw[r.inj r',Vals.inj t t']
section
variable {X:Cx}{pins:List (HC×Obj)}{σ:St}{H:Hp}{s:Af}{a:HC}{xs ys:tW}
def SqL.of {K:Ag}(h:H a=HA (.lst xs)):SqL K H a xs:=.inl<|.inl h
def SqT.of {K:Ag}(h:H a=HA (.tup xs)):SqT K H a xs:=.inl<|.inl h
def Inv.list (I:Inv X pins σ H s)(h:SqL X.K H a xs):∃its:tH,Vals xs its/\PlainL s.heap a its.toArray/\xs.length<=A4:=by
 rcases h with h|⟨o,its,n,d,b,c,f,hz,r⟩
 .obtain⟨z,its,n,r,e⟩:=h.ok I.hok;exact⟨its,r,HP _ n ⟨e,Z,Z,Z⟩,z⟩
 .refine⟨its.toList,r,HP o n ⟨I.kIn a o d,b,c,by simpa using f⟩,?_⟩;have e:=r.length;simp only[Cn]at e;lia
def Inv.tuple (I:Inv X pins σ H s)(h:SqT X.K H a xs):∃its:tH,Vals xs its/\IsTup s.heap a its.toArray/\xs.length<=A4:=by
 rcases h with h|⟨o,its,n,c,b,d,hz,r⟩
 .obtain⟨z,its,r,p⟩:=h.ok I.hok;exact⟨its,r,p,z⟩
 .refine⟨its.toList,r,⟨o,I.kIn a o c,b,n,by simpa using d⟩,?_⟩;have e:=r.length;simp only[Cn]at e;lia
def Inv.list_inj (I:Inv X pins σ H s)(h:SqL X.K H a xs)(h':SqL X.K H a ys):xs=ys:=by
 obtain⟨its,r,⟨o,n,e,_,_,d⟩,_⟩:=I.list h;obtain⟨its',c,⟨_,_,b,_,_,d'⟩,_⟩:=I.list h';rw[e]at b;cases b;rw[d]at d';injection d' with d1 _;have:its=its':=by simpa using HR Array.toList d1
 subst this;exact r.inj c
end
noncomputable abbrev Cx.wish (X:Cx)(E:tR):Cx:={X with xe:=E}
abbrev Cx.nox (X:Cx):Cx:=X.wish λ_ _=>False
def Cx.Ok.wish {X:Cx}(ok:X.Ok)(E:tR):(X.wish E).Ok :=
 ⟨ok.mod,ok.kind,ok.glob,ok.blt,ok.above,ok.inj,ok.has,ok.cab,ok.hd,ok.frames,ok.stk,ok.exf,ok.bs,ok.bsz,ok.noex,ok.exfs,ok.funs,ok.frf⟩
def Cx.Ok.unwish {X:Cx}{E:tR}(ok:(X.wish E).Ok):X.Ok :=
 ⟨ok.mod,ok.kind,ok.glob,ok.blt,ok.above,ok.inj,ok.has,ok.cab,ok.hd,ok.frames,ok.stk,ok.exf,ok.bs,ok.bsz,ok.noex,ok.exfs,ok.funs,ok.frf⟩
section
variable {X:Cx}{pins:List (HC×Obj)}{σ:St}{H:Hp}{s:Af}{E:tR}
def Inv.wish (I:Inv X pins σ H s)(E:tR):Inv (X.wish E) pins σ H s:=⟨I.ok.wish E,I.os,I.bare,I.base,I.loc,I.cell,I.free,I.freeC,I.pin,I.hok,I.len⟩
def Inv.unwish (I:Inv (X.wish E) pins σ H s):Inv X pins σ H s:=⟨I.ok.unwish,I.os,I.bare,I.base,I.loc,I.cell,I.free,I.freeC,I.pin,I.hok,I.len⟩
theorem SP.unwish {D:Ends}{f:Flow}{a:Af}(h:SP (X.wish E) pins D f a):SP X pins D f a:=by
 cases f with
 |next=>obtain⟨σ',H',I,q⟩:=h;exact(HP σ' H' ⟨I.unwish,q⟩)
 |brk=>obtain⟨σ',H',I,q⟩:=h;exact(HP σ' H' ⟨I.unwish,q⟩)
 |cont=>obtain⟨σ',H',I,q⟩:=h;exact(HP σ' H' ⟨I.unwish,q⟩)
 |ret u=>obtain⟨v,σ',H',I,r,q⟩:=h;exact HW v σ' H' ⟨I.unwish,r,q⟩
def PSs.nox {st:List HN}{t:TS}(h:PSs X.nox st t):PSs X st t:=λa s σ H D I b =>
 Cd (h a s σ H D (I.wish _) b) (λ_ _ q=>q.unwish) λ_ _ z=>C1 z
end
section
variable {X:Cx}{st:HN}{JF:List HN}{t u:TS}{e:HS}{te:TE}{pos:Pos}
def RH:TS:=λD σ H=>D.nx σ H
def Ks (t u:TS):TS:=λD σ H=>t {D with nx:=u D} σ H
def IG:PSs X [] RH:=λ_ _ σ H _ I h=>D4<|HP σ H ⟨I,h⟩
theorem qf (e:PS X st t)(b:PSs X JF u):PSs X (st::JF) (Ks t u):=by
 intro a s σ H D I h;refine wpAny_execs_cons<|Hy (e a s σ H {D with nx:=u D} I h) λf c q=>?_;cases f with
 |next =>obtain⟨σ',H',d,q⟩:=q;exact b a c σ' H' D d q
 |ret v=>exact q
 |brk=>exact q
 |cont=>exact q
def qj (b:PS X st t):PSs X [st] t:=by
 intro a s σ H D I h;refine wpAny_execs_cons<|Hy (b a s σ H D I h) λf _ q=>?_;cases f with|next=>exact D4 q|ret v=>exact q|brk=>exact q|cont=>exact q
def SY:TS:=λD σ H=>D.bk σ H
def qrm:PS X (.Break pos) SY:=λ_ _ σ H _ I h=>wpAny_Break<|HP σ H ⟨I,h⟩
def Inv.quiet {a:List (HC×Obj)}{σ:St}{H:Hp}{s:Af}(I:Inv X a σ H s):interactive X.env=HH:=by simp[interactive,I.ok.kind]
def WI (te:TE):TS:=λD σ H=>te σ H λ_ H1=>D.nx σ H1
def qz (d:PE X e te)(f:autoParam (swapsWith e HD pos.line X.env=pure HH) uG):PS X (.Expr e pos) (WI te):=by intro a s σ H D I h;exact wpAny_Expr_any (Hy (d a s σ H _ I h)<|by intro v _ w';obtain⟨x,g,b,_,c⟩:=w';exact HP σ g ⟨b,c⟩) I.quiet f
def WB (te:TE):TS:=λD σ H=>te σ H D.rt
def qo (f:PE X e te):PS X (.Return (HA e) pos) (WB te):=by intro a s σ H D I h;exact wpAny_Return_some<|Hy (f a s σ H _ I h)<|by intro v _ w';obtain⟨x,g,b,c,d⟩:=w';exact HW x σ g ⟨b,c,d⟩
def WA:TS:=λD _ H=>D.rt .non H
def nc:PS X (.Return HD pos) WA:=λ_ _ σ H _ I h=>wpAny_Return_none<|HW .non σ H ⟨I,Z,h⟩
def h8 (c:TT)(t u:TS):TS:=λD σ H=>c σ H λb H1=>if b=HG then t D σ H1 else u D σ H1
def zb {c:HS}{a b:List HN}{g:TT}(m:PT X c g)(n:PSs X a t)(o:PSs X b u):PS X (.If c a b pos) (h8 g t u):=by
 intro e s σ H D I h;refine wpAny_If<|Hy (m e s σ H _ I h) λd f j=>?_;obtain⟨l,k,i⟩:=j;cases d with|true=>exact n e f σ l D k i|false=>exact o e f σ l D k i
def SS:TS:=λ_ _ _=>False
def Vo:PS X st SS:=λ_ _ _ _ _ _ h=>h.elim
end
abbrev TG:=V->St->Hp->(St->Hp->Prop)->Prop
abbrev RA:=tW->St->Hp->(St->Hp->Prop)->Prop
def PG (X:Cx)(target:HS)(t:TG):Prop :=
 ∀(pins:List (HC×Obj))(s:Af)(σ:St)(H:Hp)(v:V)(u:HE)(Q:St->Hp->Prop),Inv X pins σ H s->RelV v u->t v σ H Q ->
  wpAny (model X.prog X.w) X.A (assign target X.env u) (λ_ s'=>∃σ' H',Inv X pins σ' H' s'/\Q σ' H') X.xe s
def Ye (X:Cx)(ts:tN)(t:RA):Prop :=
 ∀(pins:List (HC×Obj))(s:Af)(σ:St)(H:Hp)(vs:tW)(us:tH)(Q:St->Hp->Prop),Inv X pins σ H s->Vals vs us->t vs σ H Q ->
  wpAny (model X.prog X.w) X.A (assignInOrder ((assignEach ts X.env).map (·.2)) us) (λ_ s'=>∃σ' H',Inv X pins σ' H' s'/\Q σ' H') X.xe s
abbrev VC:=V->V->V->Hp->(Hp->Prop)->Prop
def Yd (X:Cx)(t:VC):Prop :=
 ∀(pins:List (HC×Obj))(s:Af)(σ:St)(H:Hp)(o i v:V)(ov iv u:HE)(Q:Hp->Prop),Inv X pins σ H s->RelV o ov->RelV i iv->RelV v u->t o i v H Q ->
  wpAny (model X.prog X.w) X.A (setItem ov iv u) (λ_ s'=>∃H',Inv X pins σ H' s'/\Q H') X.xe s
abbrev Yb:=V->V->Hp->VK->Prop
def eP (X:Cx)(op:Operator)(t:Yb):Prop :=
 ∀(pins:List (HC×Obj))(s:Af)(σ:St)(H:Hp)(x y:V)(v u:HE)(Q:VK),Inv X pins σ H s->RelV x v->RelV y u->t x y H Q ->
  wpAny (model X.prog X.w) X.A (inplaceOp op v u) (EP X pins σ Q) X.xe s
section
variable {X:Cx}{pos:Pos}
section
variable {i:Nat}{x:Str}{e:HS}{es:tN}{d c q:TE}
def Ja (i:Nat):TG:=λv σ H Q=>Q (σ.set i<|HA v) H
theorem Lr (a:X.N.Nodup)(d:X.N[i]?=HA x)(b:VD X.env.scope x)(e:autoParam (X.fn x=HG\/X.env.scope.names.lookup x=HA .local) uK):PG X (.Name x pos) (Ja i):=by intro _ s σ H v u Q I r h;exact wpAny_assign_Name<|o5 I a d b r (λ_ c=>HP _ H ⟨c,h⟩) e
def rW:RA:=λvs σ H Q=>vs=[]/\Q σ H
def YR (t:TG)(u:RA):RA:=λvs σ H Q=>∃v r,vs=v::r/\t v σ H λσ' H'=>u r σ' H' Q
theorem K0:Ye X [] rW:=by intro _ s σ H _ _ Q I r h;obtain⟨e,h⟩:=h;subst e;cases r;exact assignInOrder_nil<|HP σ H ⟨I,h⟩
theorem Ip {t:TG}{u:RA}(i:PG X e t)(d:Ye X es u)
  (k:autoParam ((assignEach (e::es) X.env).map (·.2)=assign e X.env::(assignEach es X.env).map (·.2)) uG):Ye X (e::es) (YR t u):=by
 intro a s σ H _ _ Q I r h;obtain⟨v,_,g,h⟩:=h;subst g;cases r with
 |cons r rr =>rw[k];refine assignInOrder_cons<|Hy (i a s σ H _ _ _ I r h) λ_ c b=>?_;obtain⟨σ1,l,j,f⟩:=b;exact d a c σ1 l _ _ Q j rr f
def Qf (K:Ag)(n:Nat)(t:RA):TG:=λv σ H Q=>∃a xs,v=.ref a/\SqT K H a xs/\xs.length=n/\t xs σ H Q
theorem Kw {k:Nat}{t:RA}{n:Nat}(f:X.calm=HG)(h:Ye X es t)
  (m:autoParam ((assignEach es X.env).length=n) uG)(hst:autoParam ((assignEach es X.env).findIdx? (·.1)=HD) uG):PG X (.Tuple es k pos) (Qf X.K n t):=by
 intro c s σ H v u Q I r d;obtain⟨a,xs,i,l,g,d⟩:=d;subst i;cases r;obtain⟨_,rv,q,_⟩:=I.tuple l;refine assign_Tuple_tuple (I.ok.hd f) q (by simp[m,<- g,rv.length]) hst λh' j=>?_;have p:Inv X c σ H {s with heap:=h'}:=I.kept (t':=s.toks) λb o e=>j b o (AD<|AC e) e;exact h c _ σ H xs _ Q p (by simpa using rv) d
def rV (to ti:TE)(t:VC):TG:=λv σ H Q=>to σ H λo H1=>ti σ H1 λi H2=>t o i v H2 λH3=>Q σ H3
theorem qy2 {o i:HS}{e:TE}{t:VC}(m:PE X o e)(B:PE X i d)(A:Yd X t)
  (j:autoParam (∀v,assign (.Subscript o i pos) X.env v=(do
   let ov <- holding [v] (eval o X.env)
   let c <- holding [v,ov] (eval i X.env)
   standAt pos
   holding [v,ov,c] (setItem ov c v)
   release [v,ov,c] [])) uM):PG X (.Subscript o i pos) (rV e d t):=by
 intro b s σ H v u Q I r h
 rw[j]
 refine A2<|Dh<|Hy (m b s σ H _ I h) λov f a=>?_
 obtain⟨x,C,w,D,l⟩:=a
 refine A2<|Dh<|Hy (B b f σ C _ w l) λc k a=>?_
 obtain⟨y,g,n,E,z⟩:=a
 refine A2<|wpAny_standAt<|A2<|Dh<|Hy (A b k σ g x y v ov c u _ n D E r z) λ_ _ a=>?_
 obtain⟨F,p,q⟩:=a
 exact wpAny_release ⟨σ,F,p,q⟩
def VS (te:TE)(g:TG):TS:=λD σ H=>te σ H λx H1=>g x σ H1 D.nx
theorem XA {a:HS}{g:TG}(k:PE X e c)(i:PG X a g)(m:autoParam (swapsWithSole [a] e pos.line X.env=pure HH) uG)(hw:autoParam (swappedStores [a] e X.env=pure HD) uG)
  (h1:autoParam ((assignEach [a] X.env).map (·.2)=[assign a X.env]) uG):PS X (.Assign [a] e pos) (VS c g):=by
 intro b s σ H D I h;refine wpAny_Assign_stores (Hy (k b s σ H _ I h) λv f d=>?_) m hw;obtain⟨x,n,l,o,j⟩:=d;rw[h1];exact Hy (i b f σ n x v _ l o j) λ_ _ q=>q
theorem qu {a:Pos}(m:X.N.Nodup)(o:X.N[i]?=HA x)(g:VD X.env.scope x)(j:PE X e c)(n:autoParam (swapsWith e (HA<|.Name x a) pos.line X.env=pure HH) uG)(hf:autoParam (X.fn x=HG\/X.env.scope.names.lookup x=HA .local) uK) :
  PS X (.Assign [.Name x a] e pos) (VS c<|Ja i):=by
 intro b s σ H D I h;refine wpAny_Assign_Name (Hy (j b s σ H _ I h) λv _ d=>?_) n;obtain⟨y,p,l,q,f⟩:=d;exact o5 l m o g q (λ_ k=>⟨_,p,k,f⟩) hf
def iB (i:Nat)(te:TE)(ti:Yb):TS:=λD σ H=>∃x,σ[i]?=HA (HA x)/\te σ H λy H1=>ti x y H1 λz H2=>D.nx (σ.set i<|HA z) H2
theorem W7 {op:Operator}{o:Yb}{g:Pos}(Y:X.N.Nodup)(t:X.N[i]?=HA x)(j:VD X.env.scope x)(P:PE X e q)(O:eP X op o)(T:autoParam (X.fn x=HG\/X.env.scope.names.lookup x=HA .local) uK) :
  PS X (.AugAssign (.Name x g) op e pos) (iB i q o):=by
 intro b s σ H D I h;obtain⟨v,M,h⟩:=h;obtain⟨m,Q,K⟩:=I.loc;have p:Q9 X.env.scope x:=by rcases j with k|k;exact .inl k;exact .inr<|.inl k
 obtain⟨u,r,l⟩:=K i x v t M p;refine wpAny_AugAssign_Name ?_;have n:wpAny (model X.prog X.w) X.A (eval e X.env) (λw G=>wpAny (model X.prog X.w) X.A (inplaceOp op u w) (λr U=>wpAny (model X.prog X.w) X.A (storeName X.env x r) (λ_=>SP X b D .next) X.xe U) X.xe G) X.xe s:=by refine Hy (P b s σ H _ I h) λw C d=>?_;obtain⟨y,H1,V,F,L⟩:=d;refine Hy (O b C σ H1 v y u w _ V r F L) λz _ d=>?_;obtain⟨_,E,R,r2,W⟩:=d;exact o5 R Y t j r2 (λ_ S=>⟨_,E,S,W⟩) T
 rcases l with ⟨a,J⟩|⟨a,c,B,f⟩
 .exact wpAny_loadName_local I.ok.kind a Q J n
 .rcases a with a|a
  .exact wpAny_loadName_cell I.ok.kind a B f n
  .rcases j with k|k
   .have:X.env.scope.names.lookup x=HA .free:=a;rw[k]at this;cases this
   .have:X.env.scope.names.lookup x=HA .free:=a;rw[k]at this;cases this
noncomputable def ipI (f:Int->Int->Int):Yb:=λx y H Q=>∃i j,x=.int i/\y=.int j/\Q (.int<|f i j) H
theorem jP:eP X .Add (ipI λi j=>i+j):=by intro _ s σ H x y v u Q I c d h;obtain⟨i,j,b,a,q⟩:=h;subst b;subst a;obtain⟨t,rfl⟩:=c;obtain⟨_,rfl⟩:=d;exact iadd_int<|HP (.int _) H ⟨I.tok _,⟨_,Z⟩,q⟩
theorem Ug:eP X .Sub (ipI λi j=>i-j):=by intro _ s σ H x y v u Q I c d h;obtain⟨i,j,b,a,q⟩:=h;subst b;subst a;obtain⟨t,rfl⟩:=c;obtain⟨_,rfl⟩:=d;exact isub_int<|HP (.int _) H ⟨I.tok _,⟨_,Z⟩,q⟩
end
end
section
variable {X:Cx}{pos:Pos}
def SQ (c:TT)(tb:TS):TS:=λD σ H=>∃W:Nat->St->Hp->Prop,(∃m,W m σ H)/\∀m σ H,W m σ H ->
 c σ H λb H1=>if b=HG then ∃N:St->Hp->Prop,(∀σ' H',N σ' H'->∃m',m'<m/\W m' σ' H')/\tb {D with nx:=N,ct:=N,bk:=D.nx} σ H1 else D.nx σ H1
theorem Ro {c:HS}{d:List HN}{r:TT}{tb:TS}(t:AI (model X.prog X.w) X.A X.env X.xe)(B:PT X c r)(G:PSs X d tb):PS X (.While c d [] pos) (SQ r tb):=by
 intro a s σ H D I h;obtain⟨W,⟨C,L⟩,l⟩:=h;refine wpAny_While<|codeAny_whileLoop (λn K=>∃σ' H',Inv X a σ' H' K/\W n σ' H') ?_ C ⟨σ,H,I,L⟩;intro n E w';obtain⟨σ1,z,M,J⟩:=w';refine BH t<|Hy (B a E σ1 z _ M<|l n σ1 z J) λb F x=>?_;obtain⟨q,u,i⟩:=x;cases b with
 |true =>
  obtain⟨N,y,i⟩:=i;rw[HI Z];refine BH t<|Hy (G a F σ1 q _ u i) λf _ g=>?_;cases f with
  |next =>obtain⟨σ3,e,o,m⟩:=g;obtain⟨p,j,k⟩:=y σ3 e m;exact⟨p,j,σ3,e,o,k⟩
  |cont =>obtain⟨σ3,e,o,m⟩:=g;obtain⟨p,j,k⟩:=y σ3 e m;exact⟨p,j,σ3,e,o,k⟩
  |brk=>exact g
  |ret v=>exact g
 |false =>rw[HF AF];exact D4 ⟨σ1,q,u,i⟩
end
structure It where
 go:Nat->Hp->Prop
 yld:Nat->Hp->V->Hp->Prop
 stop:Nat->Hp->Prop
def La (X:Cx)(pins:List (HC×Obj))(H:Hp)(b:HC):Prop :=
 H b=HD/\b≠X.env.locals/\b∉X.fs/\(b∈X.ex\/X.s₀.heap.objs.size<=b)/\(∀x c,X.env.cells.lookup x=HA c->c≠b)/\∀p∈X.pn++pins,p.1≠b
def Inv.fpOk {X:Cx}{a:List (HC×Obj)}{σ:St}{H H':Hp}{s:Af}{b:HC}(I:Inv X a σ H s)(d:s.heap.objs.size<=b)(g:H' b=HD):La X a H' b:=by
 refine⟨g,Cv<|Ay I.lt d,I.nofs d,.inr<|Az I.sz d,λx c e z=>?_,λp f z=>?_⟩
 .obtain⟨v,q⟩:=I.cell x c e;exact absurd (Ay q.lt (by rwa[z]))<|BY _
 .exact absurd (Ay (AC (I.pin p f).1) (by rwa[z]))<|BY _
structure Turn (P:AJ)(w:HQ)(K:Ag)(tg:HS)(J:It)(fp:tI)(it:HC)(tn:Nat->HX->Prop):Prop where
 mem:it∈fp
 obj:∀i h,tn i h->∀b∈fp,∃o,h.get? b=HA o/\∀v,o.data ≠ .cell v
 keep:∀i h h',tn i h->(∀b∈fp,∀o,h.get? b=HA o->h'.get? b=HA o)->tn i h'
 item:∀(X:Cx),X.prog=P->X.w=w->X.K=K->X.calm=HG->∀(i:Nat)(pins:List (HC×Obj))(s:Af)(σ:St)(H:Hp)(E:tR),Inv X pins σ H s->(∀b∈fp,La X pins H b)->tn i s.heap->J.go i H ->
  wpAny (model P w) X.A (pyNext<|.ref it) (λr s1=>∃u,r=HA u /\
   wpAny (model P w) X.A (letOwnedTupleGo tg (.ref it) u) (λ_ s2=>∃x H',Inv X pins σ H' s2/\RelV x u/\J.yld i H x H'/\tn (i+1) s2.heap/\∀b∈fp,H' b=HD) E s1) E s
 done:∀(X:Cx),X.prog=P->X.w=w->X.K=K->X.calm=HG->∀(i:Nat)(pins:List (HC×Obj))(s:Af)(σ:St)(H:Hp)(E:tR),Inv X pins σ H s->(∀b∈fp,La X pins H b)->tn i s.heap->J.stop i H ->
  wpAny (model P w) X.A (pyNext<|.ref it) (λr s1=>r=HD/\Inv X pins σ H s1) E s
 self:∀(A:AO)(i:Nat)(s:Af)(Q:tR)(E:tR),tn i s.heap->Q (.ref it) s->wpAny (model P w) A (pyIter<|.ref it) Q E s
abbrev TI:=St->Hp->(It->Hp->Prop)->Prop
def PIE (X:Cx)(pins:List (HC×Obj))(σ:St)(tg:HS)(R:It->Hp->Prop)(itv:HE)(s2:Af):Prop :=
 ∃(it:HC)(fp:tI)(tn:Nat->HX->Prop)(J:It)(H':Hp),itv=.ref it/\Inv X pins σ H' s2/\Turn X.prog X.w X.K tg J fp it tn/\tn 0 s2.heap/\(∀b∈fp,La X pins H' b)/\R J H'
def PI (X:Cx)(tg iter:HS)(wi:TI):Prop :=
 ∀(pins:List (HC×Obj))(s:Af)(σ:St)(H:Hp)(R:It->Hp->Prop),Inv X pins σ H s->wi σ H R ->
  wpAny (model X.prog X.w) X.A (eval iter X.env) (λv s1=>wpAny (model X.prog X.w) X.A (pyIter v) (PIE X pins σ tg R) X.xe s1) X.xe s
theorem R8 {M:Model}{A:AO}{E:tR}{s:Af}{b:HS}{it:HC}{u:HE}{o:Obj}{n:String}{vs:tO}{Q:Unit->Af->Prop}(e:s.heap.get? it=HA o)(c:o.cls=.type n)(d:o.data=.fields vs)
  (f:["enumerate","zip","dict_itemiterator","dict_reverseitemiterator","odict_iterator","itertools.zip_longest","itertools.pairwise"].contains n=HH)(a:Q () s):wpAny M A (letOwnedTupleGo b (.ref it) u) Q E s:=by
 unfold letOwnedTupleGo;cases b <;>first
  |exact Bi a
  | (cases u <;>first
    |exact Bi a
    | (refine A2<|wpAny_load e ?_
       rw[c,d]
       show wpAny M A (if (["enumerate","zip","dict_itemiterator","dict_reverseitemiterator","odict_iterator","itertools.zip_longest","itertools.pairwise"].contains n && vs[0]? == HA (rawInt _))=HG then _ else _) Q E s
       rw[HF (by intro h;rw[f,Cy]at h;cases h)]
       exact Bi a))
noncomputable def Vz (K:Ag)(a:HC):It :=
 ⟨λi H=>∃xs x,SqL K H a xs/\xs[i]?=HA x,λi H x H'=>H'=H/\∀xs,SqL K H a xs->xs[i]?=HA x,λi H=>∃xs,SqL K H a xs/\xs.length<=i⟩
noncomputable def VE (lo:Int)(n:Nat):It:=⟨λi _=>i<n,λi H x H'=>H'=H/\x=.int (lo+i),λi _=>n<=i⟩
theorem qw3 {P:AJ}{w:HQ}{K:Ag}{M:HS}(a it:HC):Turn P w K M (Vz K a) [it] it (λi h=>h.IsListIter it a i) where
 mem:=by simp
 obj:=λi h st b f=>by
  have e:b=it:=by simpa using f
  subst e;obtain⟨o,e,c,d⟩:=st;exact⟨o,e,λv z=>by rw[d]at z;cases z⟩
 keep:=λi h h' st k=>st.at λo e=>k it (by simp) o e
 item:=by intro X y t n F i g s σ H E I l st m;subst y t n;obtain⟨xs,x,j,r⟩:=m;obtain⟨its,rv,p,hz⟩:=I.list j;obtain⟨u,L,N⟩:=rv.get r;obtain⟨q,C,R,D,B,A⟩:=l it (by simp);refine wpAny_pyNext_list_item st p.isList (x:=u) (by simpa using L) λh' st' G=>?_;have Q:Inv X g σ H {s with heap:=h'}:=I.turned (t':=s.toks) (λb o f e=>(G.2 b f).trans e) q C D B A;obtain⟨o,e,c,d⟩:=id st';exact⟨u,Z,R8 (s:={s with heap:=h'}) e c d Ud<|HP x H ⟨Q,N,⟨Z,λ_ O=>by rwa[I.list_inj O j]⟩,st',λb f=>(l b f).1⟩⟩
 done:=by intro X y t n F i g s σ H E I l st m;subst y t n;obtain⟨xs,j,r⟩:=m;obtain⟨its,rv,p,hz⟩:=I.list j;obtain⟨q,C,R,D,B,A⟩:=l it (by simp);have hl:=rv.length;exact wpAny_pyNext_list_end (I.ok.hd F) st p.isList (by simp;lia) λh' J=>⟨Z,I.turned (t':=s.toks) (λb o f e=>J b o f e) q C D B A⟩
 self:=λ_ _ _ _ _ st h=>wpAny_pyIter_listiter st h
theorem qtt {P:AJ}{w:HQ}{K:Ag}{C:HS}(it:HC)(lo:Int)(n:Nat):Turn P w K C (VE lo n) [it] it (λi h=>IsRangeIter h it (lo+(i:Nat)*1) ((n:Int)-(i:Nat)) 1) where
 mem:=by simp
 obj:=λi h st b a=>by
  have e:b=it:=by simpa using a
  subst e;exact⟨_,st,λv z=>by have F:Data.fields _=Data.cell v:=z;cases F⟩
 keep:=λi h h' st k=>k it (by simp) _ st
 item:=by intro X p m j f i c s σ H E I d st g;subst p m j;obtain⟨l,u,G,x,r,q⟩:=d it (by simp);have W:=Walks.range (prog:=X.prog) (w:=X.w) (I.ok.hd f) it lo 1 n;refine W.item i s _ _ g st λv h' tk y st' A=>?_;obtain⟨t,rfl⟩:=y;have D:Inv X c σ H {s with heap:=h',toks:=tk}:=I.turned (λb o a e=>A b o (by simpa using a) e) l u x r q;refine⟨_,Z,R8 (s:={s with heap:=h',toks:=tk}) (n := "range_iterator") st' Z Z Ud<|HP (.int<|lo+i) H ⟨D,⟨t,?_⟩,⟨Z,Z⟩,st',λb a=>(d b a).1⟩⟩;rw[Int.mul_one]
 done:=by intro X p m j f i c s σ H E I d st g;subst p m j;obtain⟨l,u,G,x,r,q⟩:=d it (by simp);exact wpAny_pyNext_range_end (I.ok.hd f) st (by have:n<=i:=g;lia) λh' B=>⟨Z,I.turned (t':=s.toks) (λb o a e=>B b o a e) l u x r q⟩
 self:=λ_ _ _ _ _ st h=>wpAny_pyIter_rangeiter st h
end L2
namespace L2
open PySem PySem.Spec PyProof.Rows
section
variable {X:Cx}{tg:HS}
section
variable {c a:List (HC×Obj)}{σ:St}{H:Hp}{s:Af}{fp:tI}{h:HX}
def YO (K:Ag)(tl:TE):TI:=λσ H R=>tl σ H λx H1=>∃a,x=.ref a/\(∃xs,SqL K H1 a xs)/\R (Vz K a) H1
theorem Jk {l:HS}{g:TE}(j:PE X l g):PI X tg l (YO X.K g):=by
 intro f s σ H R I h;refine Hy (j f s σ H _ I h) λv c i=>?_;obtain⟨x,r,d,t,m⟩:=i;obtain⟨a,e,⟨_,n⟩,q⟩:=m;subst e;cases t;obtain⟨_,_,p,_⟩:=d.list n;refine wpAny_pyIter_list p.isList ?_;refine⟨c.heap.objs.size,[c.heap.objs.size],_,_,r,Z,d.kept (t':=c.toks) λb o e=>Aw _ e,qw3 a _,⟨_,AX _ Z,Z,Z⟩,λb k=>?_,q⟩;have e:b=c.heap.objs.size:=by simpa using k
 subst e;exact d.fpOk (Al _)<|d.hok.fresh<|Al _
theorem qy3 {R:It->Hp->Prop}{E:tR}{lo a:Int}{t u v:Tok}{tk:Nat}(I:Inv X c σ H s)(l : -(2 ^ 62)<=lo)(f:lo<2 ^ 62)(k : -(2 ^ 62)<=a)(h:a<2 ^ 62)
  (q:R (VE lo (a-lo).toNat) H):wpAny (model X.prog X.w) X.A (pyIter<|.ref s.heap.objs.size) (PIE X c σ tg R) E {s with heap:=s.heap.push {cls:=.type "range",data:=.fields #[.int lo t,.int a u,.int 1 v]},toks:=tk}:=by
 refine wpAny_pyIter_range (IsRange.new ..) (small_one l f k h) ?_;have d:Inv X c σ H {s with heap:=s.heap.push {cls:=.type "range",data:=.fields #[.int lo t,.int a u,.int 1 v]},toks:=tk}:=I.kept λb o e=>Aw _ e;refine(J0 ((s.heap.push {cls:=.type "range",data:=.fields #[.int lo t,.int a u,.int 1 v]}).objs.size) [(s.heap.push {cls:=.type "range",data:=.fields #[.int lo t,.int a u,.int 1 v]}).objs.size] _ _ H ⟨Z, 
  d.kept (t':=tk) λb o e=>Aw _ e,qtt _ lo (a-lo).toNat,?_,λb g=>?_,q⟩)
 .have j:lo+((0:Nat):Int)*1=lo:=by simp
  have i:(((a-lo).toNat:Nat):Int)-((0:Nat):Int)=BJ.Range.rangeSize lo a 1:=by rw[rangeSize_one];split <;>lia
  show IsRangeIter _ _ (lo+((0:Nat):Int)*1) ((((a-lo).toNat:Nat):Int)-((0:Nat):Int)) 1;rw[j,i];exact AX _ rfl
 .have e:b=(s.heap.push {cls:=.type "range",data:=.fields #[.int lo t,.int a u,.int 1 v]}).objs.size:=by simpa using g
  subst e;exact d.fpOk (Al _)<|d.hok.fresh<|Al _
def YN (ta:TA):TI:=λσ H R=>ta σ H λvs H1=>∃j:Int,vs=[.int j] /\ -(2 ^ 62)<=j/\j<2 ^ 62/\R (VE 0 j.toNat) H1
theorem LH {a:HS}{f:TA}{p pos:Pos}(k:Gl X "range")(g:X.mg "range"=HD)(i:PA X [a] f)(n:autoParam (starEach [a] X.env=[(HH,eval a X.env)]) uG):PI X tg (.Call (.Name "range" p) [a] [] pos) (YN f):=by
 intro c s σ H R I h;refine Call_<|Rh I k g boot_range<|Ch (Hy (i pos c s σ H _ I h) λ_ _ d=>?_) n Z;obtain⟨_,_,l,o,b⟩:=d;obtain⟨j,e,b,m,q⟩:=b;subst e;cases o with
 |cons r rr =>cases rr;obtain⟨t,rfl⟩:=r;exact call_range_1 (qy3 l sZ sZ b m (by simpa using q))
def h9 (wi:TI)(g:TG)(tb:TS):TS:=λD σ H=>wi σ H λJ H1=>∃W:Nat->Nat->St->Hp->Prop,(∃m,W 0 m σ H1)/\∀i m σ H,W i m σ H ->
 (J.stop i H/\D.nx σ H)\/(J.go i H/\∃N:St->Hp->Prop,(∀σ' H',N σ' H'->∃m',m'<m/\W (i+1) m' σ' H')/\∀x H',J.yld i H x H'->g x σ H' λσ2 H2=>tb {D with nx:=N,ct:=N,bk:=D.nx} σ2 H2)
noncomputable def Vc (fp:tI)(h:HX):List (HC×Obj):=fp.filterMap λb=>(h.get? b).map λo=>(b,o)
theorem Xq {b:HC}{o:Obj}(a:b∈fp)(e:h.get? b=HA o):(b,o)∈Vc fp h:=Ce.mpr ⟨b,a,by rw[e];rfl⟩
theorem qw4 {p:HC×Obj}(a:p∈Vc fp h):p.1∈fp/\h.get? p.1=HA p.2:=by
 obtain⟨b,d,e⟩:=Ce.mp a;cases q:h.get? b with|none=>rw[q]at e;cases e|some o =>rw[q]at e;have c:(b,o)=p:=A8 e;subst c;exact⟨d,q⟩
theorem Inv.pinned (I:Inv X a σ H s)(j:∀b∈fp,La X a H b)(h:∀b∈fp,∃o,s.heap.get? b=HA o/\∀v,o.data ≠ .cell v):Inv X (a++Vc fp s.heap) σ H s :=
 I.pins_of λp i=>(As.mp i).elim (λz=>I.pin p<|A3 _ z) λz=>by obtain⟨c,e⟩:=qw4 z;obtain⟨g,k,l,_⟩:=j p.1 c;obtain⟨o,f,d⟩:=h p.1 c;rw[e]at f;cases f;exact⟨e,g,k,l,d⟩
theorem Inv.unpinned {pl:List (HC×Obj)}(I:Inv X (a++pl) σ H s):Inv X a σ H s:=I.pins_of λp b=>I.pin p<|A3 _<|BA _ b
theorem JD {q:HS}{E:List HN}{wi:TI}{g:TG}{tb:TS}{pos:Pos}(B:AI (model X.prog X.w) X.A X.env X.xe)(U:X.calm=HG)(hi:PI X tg q wi)(hg:PG X tg g)(l:PSs X E tb)
  (hs:autoParam (∀x,foldedSetIterable q X.env x=pure x) uM):PS X (.For tg q E [] pos) (h9 wi g tb):=by
 intro a s σ H D I h;refine wpAny_For (Hy (hi a s σ H _ I h) λv _ h1=>Hy h1 λ_ _ h2=>?_) hs;obtain⟨_,fp,S,J,H2,e,I2,T,V,f2,W,⟨m0,w0⟩,L⟩:=h2;subst e
 -- what stays HG of the iterator's objects through the loop
 have t:∀{H':Hp},(∀b∈fp,H' b=HD)->∀b∈fp,La X a H' b:=λhn b l=>⟨hn b l,(f2 b l).2⟩;refine codeAny_forLoop_any (λn R=>∃i σ' H',Inv X a σ' H' R/\S i R.heap/\(∀b∈fp,H' b=HD)/\W i n σ' H') ?_ m0 ⟨0,σ,H2,I2,V,λb l=>(f2 b l).1,w0⟩;intro n s3 w';obtain⟨i,σ3,F,Q,G,K,w3⟩:=w';rcases L i n σ3 F w3 with ⟨stop,qn⟩|⟨go,N,hN,step⟩
 .refine BH B<|Hy (T.done X Z Z Z U i a s3 σ3 F X.xe Q (t K) G stop) λr s4 k=>?_;obtain⟨M,I4⟩:=k;subst M;exact D4 ⟨σ3,F,I4,qn⟩
 .refine BH B<|Hy (T.item X Z Z Z U i a s3 σ3 F X.xe Q (t K) G go) λr s4 k=>?_;obtain⟨u,M,h4⟩:=k;subst M;refine BH B<|Hy h4 λ_ s5 k=>?_;obtain⟨x,H5,I5,r5,y5,C,Y⟩:=k;have P:=I5.pinned (t Y)<|T.obj _ _ C;refine BH B<|Hy (hg _ s5 σ3 H5 x u _ P r5<|step x H5 y5) λ_ s6 k=>?_;obtain⟨σ6,H6,I6,q6⟩:=k;refine BH B<|Hy (l _ s6 σ6 H6 _ I6 q6) λf O p=>?_;have y:∀{σ7:St}{c:Hp},Inv X (a++Vc fp s5.heap) σ7 c O->N σ7 c->∃m,m<n/\∃i σ' H',Inv X a σ' H' O/\S i O.heap/\(∀b∈fp,H' b=HD)/\W i m σ' H':=λ{σ7 c} j z=>by obtain⟨m',hm,w7⟩:=hN σ7 c z;refine⟨m',hm,i+1,σ7,c,j.unpinned,T.keep _ _ _ C λb l o e=>(j.pin (b,o)<|A3 _<|A3 _<|Xq l e).1,λb l=>?_,w7⟩;obtain⟨o,e,d⟩:=T.obj _ _ C b l;exact(j.pin (b,o)<|A3 _<|A3 _<|Xq l e).2.1
  cases f with
  |next=>obtain⟨σ7,c,j,z⟩:=p;exact y j z
  |cont=>obtain⟨σ7,c,j,z⟩:=p;exact y j z
  |brk=>obtain⟨σ7,c,j,p⟩:=p;exact⟨σ7,c,j.unpinned,p⟩
  |ret v=>obtain⟨x7,σ7,c,j,r7,p⟩:=p;exact⟨x7,σ7,c,j.unpinned,r7,p⟩
end
end
theorem KE {K:Ag}{a:HC}{xs:tW}{g:TG}{tb:TS}{D:Ends}{σ:St}{H:Hp}(b:Nat->St->Hp->Prop)(l:b 0 σ H)(h:∀i σ H,i<=xs.length->b i σ H->SqL K H a xs)
  (j:∀i x σ H,xs[i]?=HA x->b i σ H->g x σ H λσ2 d=>tb {D with nx:=b<|i+1,ct:=b<|i+1,bk:=D.nx} σ2 d)(hd:∀σ H,b xs.length σ H->D.nx σ H) :
  ∃W:Nat->Nat->St->Hp->Prop,(∃m,W 0 m σ H)/\∀i m σ H,W i m σ H ->
   ((Vz K a).stop i H/\D.nx σ H)\/((Vz K a).go i H/\∃N:St->Hp->Prop,(∀σ' H',N σ' H'->∃m',m'<m/\W (i+1) m' σ' H')/\∀x H',(Vz K a).yld i H x H'->g x σ H' λσ2 d=>tb {D with nx:=N,ct:=N,bk:=D.nx} σ2 d):=by
 refine⟨λi m σ H=>m=xs.length-i/\i<=xs.length/\b i σ H,⟨xs.length,by simp,AR _,l⟩,?_⟩
 intro i m σ H w';obtain⟨rfl,k,p⟩:=w'
 have q:=h i σ H k p
 by_cases c:i<xs.length
 .refine .inr ⟨HP xs (xs[i]) ⟨q,by simp[c]⟩,b<|i+1,λσ' H' f=>⟨xs.length-(i+1),sZ,Z,c,f⟩,λx H' y=>?_⟩;obtain⟨e,y⟩:=y;subst e;exact j i x σ _ (y xs q) p
 .have e:i=xs.length:=by lia
  subst e;exact .inl ⟨⟨xs,q,Al _⟩,hd σ H p⟩
theorem Mj {lo:Int}{n:Nat}{g:TG}{tb:TS}{D:Ends}{σ:St}{H:Hp}(a:Nat->St->Hp->Prop)(h:a 0 σ H)
  (f:∀i σ H,i<n->a i σ H->g (.int<|lo+i) σ H λσ2 c=>tb {D with nx:=a<|i+1,ct:=a<|i+1,bk:=D.nx} σ2 c)(hd:∀σ H,a n σ H->D.nx σ H) :
  ∃W:Nat->Nat->St->Hp->Prop,(∃m,W 0 m σ H)/\∀i m σ H,W i m σ H ->
   ((VE lo n).stop i H/\D.nx σ H)\/((VE lo n).go i H/\∃N:St->Hp->Prop,(∀σ' H',N σ' H'->∃m',m'<m/\W (i+1) m' σ' H')/\∀x H',(VE lo n).yld i H x H'->g x σ H' λσ2 c=>tb {D with nx:=N,ct:=N,bk:=D.nx} σ2 c):=by
 refine⟨λi m σ H=>m=n-i/\i<=n/\a i σ H,⟨n,by simp,AR _,h⟩,?_⟩
 intro i m σ H w';obtain⟨rfl,_,p⟩:=w'
 by_cases b:i<n
 .refine .inr ⟨b,a<|i+1,λσ' H' d=>⟨n-(i+1),sZ,Z,b,d⟩,λx H' y=>?_⟩;obtain⟨e,y⟩:=y;subst e y;exact f i σ _ b p
 .have e:i=n:=by lia
  subst e;exact .inl ⟨Al _,hd σ H p⟩
end L2
namespace L2
open PySem PySem.Spec PyProof.Rows
abbrev R2:=V->V->Hp->VK->Prop
def JH (X:Cx)(f:HE->HE->Sem HE)(r:R2):Prop :=
 ∀(pins:List (HC×Obj))(s:Af)(σ:St)(H:Hp)(x y:V)(v u:HE)(Q:VK),Inv X pins σ H s->RelV x v->RelV y u->r x y H Q ->
  wpAny (model X.prog X.w) X.A (f v u) (EP X pins σ Q) X.xe s
def sG (X:Cx)(f:HE->Sem HE)(r:V->Hp->VK->Prop):Prop :=
 ∀(pins:List (HC×Obj))(s:Af)(σ:St)(H:Hp)(x:V)(v:HE)(Q:VK),Inv X pins σ H s->RelV x v->r x H Q ->
  wpAny (model X.prog X.w) X.A (f v) (EP X pins σ Q) X.xe s
def Lm (X:Cx)(f:HE)(r:tW->Hp->VK->Prop):Prop :=
 ∀(pins:List (HC×Obj))(s:Af)(σ:St)(H:Hp)(xs:tW)(us:tH)(Q:VK),Inv X pins σ H s->Vals xs us->r xs H Q ->
  wpAny (model X.prog X.w) X.A (call f us) (EP X pins σ Q) X.xe s
def sH (X:Cx)(r:V->Hp->(Bool->Hp->Prop)->Prop):Prop :=
 ∀(pins:List (HC×Obj))(s:Af)(σ:St)(H:Hp)(x:V)(v:HE)(Q:Bool->Hp->Prop),Inv X pins σ H s->RelV x v->r x H Q ->
  wpAny (model X.prog X.w) X.A (truthy v) (TP X pins σ Q) X.xe s
def VF (r:R2)(ta tb:TE):TE:=λσ H Q=>ta σ H λx H1=>tb σ H1 λy H2=>r x y H2 Q
def tUn (r:V->Hp->VK->Prop)(ta:TE):TE:=λσ H Q=>ta σ H λx H1=>r x H1 Q
def rI (C:Int->Int->Prop)(g:Int->Int->V):R2:=λx y H Q=>∃i j,x=.int i/\y=.int j/\C i j/\Q (g i j) H
def RN (g:Int->Int->V):R2:=λx y H Q=>∃i j,x=.int i/\y=.int j/\Q (g i j) H
def rU (g:Int->V):V->Hp->VK->Prop:=λx H Q=>∃i,x=.int i/\Q (g i) H
section
variable {X:Cx}{a b c:HS}{ta tb tc:TE}{pos:Pos}
theorem U6 (m:PE X a ta)(n:PE X b tb){c:List (HC×Obj)}{s:Af}{σ:St}{H:Hp}{R:V->V->Hp->Prop}(I:Inv X c σ H s)
  (h:ta σ H λx i=>tb σ i λy d=>R x y d){Q:tR}{f:HE->HE->Sem HE}
  (q:∀v u g x y d,Inv X c σ d g->RelV x v->RelV y u->R x y d->wpAny (model X.prog X.w) X.A (f v u) Q X.xe g) :
  wpAny (model X.prog X.w) X.A (eval a X.env) (λv j=>wpAny (model X.prog X.w) X.A (eval b X.env) (λu l=>wpAny (model X.prog X.w) X.A (f v u) Q X.xe l) X.xe j) X.xe s:=by
 refine Hy (m c s σ H _ I h) λv k e=>?_;obtain⟨x,i,r,z,o⟩:=e;refine Hy (n c k σ i _ r o) λu g e=>?_;obtain⟨y,d,p,B,t⟩:=e;exact q v u g x y d p z B t
def qv {op:Operator}{r:R2}(j:JH X (binaryOp op) r)(f:PE X a ta)(i:PE X b tb):PE X (.BinOp a op b pos) (VF r ta tb):=by intro c s σ H Q I h;exact wpAny_BinOp<|U6 f i I h λv u g x y l k d e q=>j c g σ l x y v u Q k d e q
def KN {op:UnaryOp}{r:V->Hp->VK->Prop}(i:sG X (unaryOp op) r)(f:PE X a ta):PE X (.UnaryOp op a pos) (tUn r ta):=by intro b s σ H Q I h;exact UnaryOp_<|Hy (f b s σ H _ I h)<|by intro v g w';obtain⟨x,j,c,d,e⟩:=w';exact i b g σ j x v Q c d e
theorem eG {f:HE->HE->Sem HE}{C:Int->Int->Prop}{g:Int->Int->Int}
  (rule:∀(i j:Int)(t u:Tok)(s:Af)(Q:tR)(E:tR),C i j->Q (.int (g i j) s.toks) {s with toks:=s.toks+1}->wpAny (model X.prog X.w) X.A (f (.int i t)<|.int j u) Q E s) :
  JH X f (rI C λi j=>.int<|g i j):=by
 intro _ s σ H x y v u Q I b c h;obtain⟨i,j,rfl,rfl,a,q⟩:=h;obtain⟨t,rfl⟩:=b;obtain⟨t',rfl⟩:=c;exact rule i j t t' s _ _ a<|HP (.int<|g i j) H ⟨I.tok _,⟨_,Z⟩,q⟩
theorem X2 {f:HE->HE->Sem HE}{g:Int->Int->Int}
  (rule:∀(i j:Int)(t u:Tok)(s:Af)(Q:tR)(E:tR),Q (.int (g i j) s.toks) {s with toks:=s.toks+1}->wpAny (model X.prog X.w) X.A (f (.int i t)<|.int j u) Q E s) :
  JH X f (RN λi j=>.int<|g i j):=by
 intro _ s σ H x y v u Q I a b h;obtain⟨i,j,rfl,rfl,q⟩:=h;obtain⟨t,rfl⟩:=a;obtain⟨t',rfl⟩:=b;exact rule i j t t' s _ _<|HP (.int<|g i j) H ⟨I.tok _,⟨_,Z⟩,q⟩
theorem P8 {f:HE->HE->Sem HE}{g:Int->Int->Bool}
  (rule:∀(i j:Int)(t u:Tok)(s:Af)(Q:tR)(E:tR),Q (.bool<|g i j) s->wpAny (model X.prog X.w) X.A (f (.int i t)<|.int j u) Q E s) :
  JH X f (RN λi j=>.bl<|g i j):=by
 intro _ s σ H x y v u Q I a b h;obtain⟨i,j,rfl,rfl,q⟩:=h;obtain⟨t,rfl⟩:=a;obtain⟨t',rfl⟩:=b;exact rule i j t t' s _ _<|HP (.bl<|g i j) H ⟨I,Z,q⟩
def sR (i j:Int):Prop:=0<j/\j<1073741824
def sQ (i j:Int):Prop:=0<=j/\j<=1000000/\i.natAbs<2 ^ 64
def CMul (i j:Int):Prop:=(-(2 ^ 64)<i/\i<2 ^ 64)\/(-(2 ^ 64)<j/\j<2 ^ 64)
def CMul.ok {i j:Int}(h:CMul i j):IntMulOk i j:=by
 rcases h with ⟨b,a⟩|⟨b,a⟩
 .exact .of_left<|intBits_le_64 b a
 .exact .of_right<|intBits_le_64 b a
def IL:JH X (binaryOp .Add) (RN λi j=>.int<|i+j):=X2 λ_ _ _ _ _ _ _ q=>add_int q
def Jq:JH X (binaryOp .Sub) (RN λi j=>.int<|i-j):=X2 λ_ _ _ _ _ _ _ q=>sub_int q
def Jc:JH X (binaryOp .Mult) (rI CMul λi j=>.int<|i*j):=eG λ_ _ _ _ _ _ _ a q=>mul_int q a.ok
def JL:JH X (binaryOp .FloorDiv) (rI sR λi j=>.int<|i / j):=eG λi j _ _ _ _ _ a q=>by have h1:(0:Int)<j:=a.1;have h2:j<1073741824:=a.2;exact floordiv_int sZ (by rwa[Int.fdiv_eq_ediv_of_nonneg i<|sZ]) (.inl<|PyProof.noPylong_small<|sZ)
def Iw:JH X (binaryOp .Mod) (rI (λ_ j=>0<j) λi j=>.int<|i % j):=eG λi j _ _ _ _ _ a q=>by have h1:(0:Int)<j:=a;exact mod_int' sZ (by rwa[Int.fmod_eq_emod_of_nonneg i<|sZ])
def UD:JH X (binaryOp .Pow) (rI sQ λi j=>.int<|i ^ j.toNat):=eG λ_ _ _ _ _ _ _ a q=>pow_int_small a.1 a.2.1 a.2.2 q
theorem unI {f:HE->Sem HE}{g:Int->Int}
  (rule:∀(i:Int)(t:Tok)(s:Af)(Q:tR)(E:tR),Q (.int (g i) s.toks) {s with toks:=s.toks+1}->wpAny (model X.prog X.w) X.A (f<|.int i t) Q E s) :
  sG X f (rU λi=>.int<|g i):=by
 intro _ s σ H x v Q I a h;obtain⟨i,rfl,q⟩:=h;obtain⟨t,rfl⟩:=a;exact rule i t s _ _<|HP (.int<|g i) H ⟨I.tok _,⟨_,Z⟩,q⟩
def KQ:sG X (unaryOp .USub) (rU λi=>.int (-i)):=unI λ_ _ _ _ _ q=>neg_int q
end
noncomputable def Wl:V->V->Bool
 |.non,.non=>HG | .non,.int _=>HG | .int _,.non=>HG | .non,.bl _=>HG | .bl _,.non=>HG | .non,.str _=>HG | .str _,.non=>HG
 |.int _,.int _=>HG | .bl _,.bl _=>HG | .str _,.str _=>HG | .byt _,.byt _=>HG
 |.int _,.str _=>HG | .str _,.int _=>HG | .bl _,.str _=>HG | .str _,.bl _=>HG
 |_,_=>HH
def rEq:R2:=λx y H Q=>Wl x y=HG/\Q (.bl<|decide (x=y)) H
def rNe:R2:=λx y H Q=>Wl x y=HG/\Q (.bl (!decide (x=y))) H
def qu9 {i j:Int}:decide (V.int i=V.int j)=(i == j):=by rw[CK];simp
def qy5 {i j:Bool}:decide (V.bl i=V.bl j)=(i == j):=by rw[CK];simp
def qva {i j:Str}:decide (V.str i=V.str j)=(i == j):=by rw[CK];simp
def qvb {i j:Array UInt8}:decide (V.byt i=V.byt j)=(i.toList == j.toList):=by rw[CK];cases i;cases j;simp
section
variable {X:Cx}{a b c:HS}{ta tb tc:TE}{pos:Pos}
def JY {a:List (HC×Obj)}{σ:St}{H:Hp}{s:Af}{Q:VK}{k b:Bool}(I:Inv X a σ H s)(q:Q (.bl k) H)(e:k=b):EP X a σ Q (.bool b) s:=by subst e;exact HP (.bl k) H ⟨I,Z,q⟩
theorem JO:JH X (compareOp .Eq) rEq:=by
 intro _ s σ H x y v u Q I c a h;obtain⟨b,q⟩:=h;cases x with
 |non =>
  cases c;cases y with
  |non=>cases a;exact PySem.EqNone.eq_none_none (JY I q<|by simp)
  |bl j=>cases a;exact PySem.EqNone.eq_none_bool (JY I q<|by simp)
  |int j=>obtain⟨t',rfl⟩:=a;exact PySem.EqNone.eq_none_int (JY I q<|by simp)
  |str j=>obtain⟨t',rfl⟩:=a;exact PySem.EqNone.eq_none_str (JY I q<|by simp)
  |_=>exact absurd (show HH=HG from b) AF
 |bl i =>
  cases c;cases y with
  |non=>cases a;exact PySem.EqNone.eq_bool_none (JY I q<|by simp)
  |bl j=>cases a;exact eq_bool (JY I q qy5)
  |str j=>obtain⟨t',rfl⟩:=a;exact PySem.EqMixed.eq_bool_str (JY I q<|by simp)
  |_=>exact absurd (show HH=HG from b) AF
 |int i =>
  obtain⟨t,rfl⟩:=c;cases y with
  |non=>cases a;exact PySem.EqNone.eq_int_none (JY I q<|by simp)
  |int j=>obtain⟨t',rfl⟩:=a;exact eq_int (JY I q qu9)
  |str j=>obtain⟨t',rfl⟩:=a;exact PySem.EqMixed.eq_int_str (JY I q<|by simp)
  |_=>exact absurd (show HH=HG from b) AF
 |str i =>
  obtain⟨t,rfl⟩:=c;cases y with
  |non=>cases a;exact PySem.EqNone.eq_str_none (JY I q<|by simp)
  |bl j=>cases a;exact PySem.EqMixed.eq_str_bool (JY I q<|by simp)
  |int j=>obtain⟨t',rfl⟩:=a;exact PySem.EqMixed.eq_str_int (JY I q<|by simp)
  |str j=>obtain⟨t',rfl⟩:=a;exact eq_str (JY I q qva)
  |_=>exact absurd (show HH=HG from b) AF
 |byt i =>
  obtain⟨t,rfl⟩:=c;cases y with
  |byt j=>obtain⟨t',rfl⟩:=a;exact PySem.W.eq_bytes (JY I q qvb)
  |_=>exact absurd (show HH=HG from b) AF
 |_=>cases y <;>exact absurd (show HH=HG from b) AF
theorem OV:JH X (compareOp .NotEq) rNe:=by
 intro _ s σ H x y v u Q I c a h;obtain⟨b,q⟩:=h;cases x with
 |non =>
  cases c;cases y with
  |non=>cases a;exact PySem.EqNone.ne_none_none (JY I q<|by simp)
  |bl j=>cases a;exact PySem.EqNone.ne_none_bool (JY I q<|by simp)
  |int j=>obtain⟨t',rfl⟩:=a;exact PySem.EqNone.ne_none_int (JY I q<|by simp)
  |str j=>obtain⟨t',rfl⟩:=a;exact PySem.EqNone.ne_none_str (JY I q<|by simp)
  |_=>exact absurd (show HH=HG from b) AF
 |bl i =>
  cases c;cases y with
  |non=>cases a;exact PySem.EqNone.ne_bool_none (JY I q<|by simp)
  |bl j=>cases a;exact ne_bool (JY I q<|HR not qy5)
  |str j=>obtain⟨t',rfl⟩:=a;exact PySem.EqMixed.ne_bool_str (JY I q<|by simp)
  |_=>exact absurd (show HH=HG from b) AF
 |int i =>
  obtain⟨t,rfl⟩:=c;cases y with
  |non=>cases a;exact PySem.EqNone.ne_int_none (JY I q<|by simp)
  |int j=>obtain⟨t',rfl⟩:=a;exact ne_int (JY I q<|HR not qu9)
  |str j=>obtain⟨t',rfl⟩:=a;exact PySem.EqMixed.ne_int_str (JY I q<|by simp)
  |_=>exact absurd (show HH=HG from b) AF
 |str i =>
  obtain⟨t,rfl⟩:=c;cases y with
  |non=>cases a;exact PySem.EqNone.ne_str_none (JY I q<|by simp)
  |bl j=>cases a;exact PySem.EqMixed.ne_str_bool (JY I q<|by simp)
  |int j=>obtain⟨t',rfl⟩:=a;exact PySem.EqMixed.ne_str_int (JY I q<|by simp)
  |str j=>obtain⟨t',rfl⟩:=a;exact ne_str (JY I q<|HR not qva)
  |_=>exact absurd (show HH=HG from b) AF
 |byt i =>
  obtain⟨t,rfl⟩:=c;cases y with
  |byt j=>obtain⟨t',rfl⟩:=a;exact PySem.W.ne_bytes (JY I q<|HR not qvb)
  |_=>exact absurd (show HH=HG from b) AF
 |_=>cases y <;>exact absurd (show HH=HG from b) AF
def Kl:JH X (compareOp .Lt) (RN λi j=>.bl<|decide (i<j)):=P8 λ_ _ _ _ _ _ _ q=>lt_int q
def Kg:JH X (compareOp .LtE) (RN λi j=>.bl<|decide (i<=j)):=P8 λ_ _ _ _ _ _ _ q=>le_int q
def Ta:JH X (compareOp .Gt) (RN λi j=>.bl<|decide (j<i)):=P8 λ_ _ _ _ _ _ _ q=>gt_int q
def Ry:JH X (compareOp .GtE) (RN λi j=>.bl<|decide (j<=i)):=P8 λ_ _ _ _ _ _ _ q=>ge_int q
def KP:JH X (compareOp .Is) (λx y H Q=>y=.non/\Q (.bl<|decide (x=.non)) H):=by
 intro _ s σ H x y v u Q I a b h;obtain⟨rfl,q⟩:=h;cases b;refine is_none_gen<|JY I q ?_;cases x <;>first
  | (cases a;rfl)
  | (obtain⟨t,rfl⟩:=a;rfl)
def Lq:JH X (compareOp .IsNot) (λx y H Q=>y=.non/\Q (.bl (!decide (x=.non))) H):=by
 intro _ s σ H x y v u Q I a b h;obtain⟨rfl,q⟩:=h;cases b;refine isnot_none_gen<|JY I q ?_;cases x <;>first
  | (cases a;rfl)
  | (obtain⟨t,rfl⟩:=a;rfl)
def LD (b:HS){op:CmpOp}(h:autoParam (op ≠ .In) uI)(h2:autoParam (op ≠ .NotIn) uI):behindInMarks op b=HH:=by
 have c:(op == CmpOp.In)=HH:=by cases op <;>first|rfl|exact absurd rfl h
 have a:(op == CmpOp.NotIn)=HH:=by cases op <;>first|rfl|exact absurd rfl h2
 cases b <;>simp[behindInMarks,c,a]
def Kz {op:CmpOp}{r:R2}(k:JH X (compareOp op) r)(g:PE X a ta)(j:PE X b tb)(f:behindInMarks op b=HH):PE X (.Compare a [op] [b] pos) (VF r ta tb):=by intro c s σ H Q I h;exact wpAny_Compare1 (U6 g j I h λv u i x y m l d e q=>k c i σ m x y v u Q l d e q) f
def jF (t:TE):TT:=λσ H Q=>t σ H λx H'=>∃k,x=.bl k/\Q k H'
def qt {op:CmpOp}{r:R2}(p:JH X (compareOp op) r)(j:PE X a ta)(n:PE X b tb)(i:behindInMarks op b=HH):PT X (.Compare a [op] [b] pos) (jF<|VF r ta tb):=by
 intro d s σ H Q I h;refine wpAny_isTrue_Compare1 (Hy (j d s σ H _ I h) λv f w72a'=>?_) i;obtain⟨x,C,A,D,o⟩:=w72a';refine Hy (n d f σ C _ A o) λu l w71a'=>?_;obtain⟨y,g,q,E,B⟩:=w71a';refine Hy (p d l σ g x y v u _ q D E B) λc _ w70a'=>?_;obtain⟨z,F,t,m,k,e,w⟩:=w70a'
 subst e;cases m;exact B0 ⟨F,t,w⟩
def qy7 (r r':R2)(ta tb tc:TE):TE:=λσ H Q=>ta σ H λx H1=>tb σ H1 λy H2=>r x y H2 λz H3=>∃k,z=.bl k /\
 (if k=HG then tc σ H3 λw' H4=>r' y w' H4 Q else Q (.bl HH) H3)
theorem qrn {op g:CmpOp}{r i:R2}(L:JH X (compareOp op) r)(m:JH X (compareOp g) i)(B:PE X a ta)(G:PE X b tb)(p:PE X c tc)
  (A:autoParam (lastMarks [op,g] [b,c]=HH) uO._auto_1):PE X (.Compare a [op,g] [b,c] pos) (qy7 r i ta tb tc):=by
 intro f s σ H Q I h;refine Compare_chain (Hy (B f s σ H _ I h) λv q w69a'=>?_) A;obtain⟨x,T,P,V,K⟩:=w69a';refine chain_link (Hy (G f q σ T _ P K) λu D w68a'=>?_);obtain⟨y,t,M,o,R⟩:=w68a';refine Hy (L f D σ t x y v u _ M V o R) λd U w67a'=>?_;obtain⟨z,n,j,E,k,e,l⟩:=w67a'
 subst e;cases E;refine B0 ?_;cases k with|false=>exact ite_ff (HP (.bl HH) n ⟨j,Z,l⟩)|true=>exact ite_tt<|chain_last<|Hy (p f U σ n _ j l)<|by intro N O w';obtain⟨S,C,F,w,J⟩:=w';exact m f O σ C y S u N Q F o w J
theorem qro {op g:CmpOp}{r i:R2}(S:JH X (compareOp op) r)(m:JH X (compareOp g) i)(E:PE X a ta)(M:PE X b tb)(q:PE X c tc)
  (B:autoParam (lastMarks [op,g] [b,c]=HH) uO._auto_1):PT X (.Compare a [op,g] [b,c] pos) (jF<|qy7 r i ta tb tc):=by
 intro f s σ H Q I h;refine isTrue_chain (Hy (E f s σ H _ I h) λv t w65a'=>?_) B;obtain⟨x,H1,W,r1,P⟩:=w65a';refine test_link (Hy (M f t σ H1 _ W P) λu G w64a'=>?_);obtain⟨y,w,T,p,Y⟩:=w64a';refine Hy (S f G σ w x y v u _ T r1 p Y) λd s3 w63a'=>?_;obtain⟨z,o,j,J,k,e,l⟩:=w63a'
 subst e;cases J;refine B0 ?_;cases k with
 |false =>obtain⟨_,e',K⟩:=l;cases e';exact ite_ff ⟨o,j,K⟩
 |true =>refine ite_tt<|test_last<|Hy (q f s3 σ o _ j l) λU V w62a'=>?_;obtain⟨z',F,L,A,N⟩:=w62a';refine Hy (m f V σ F y z' u U _ L p A N) λ_ _ n=>?_;obtain⟨_,R,I5,C,_,O,D⟩:=n;subst O;cases C;exact B0 ⟨R,I5,D⟩
def Ya (K:Ag)(x:V)(H:Hp)(k:Bool):Prop :=
 match x with
 |.non=>k=HH
 |.bl b=>k=b
 |.int i=>k=(i != 0)
 |.str y=>y.length<=A4/\k=((y.length:Int) != 0)
 |.byt y=>y.size<=A4/\k=((y.size:Int) != 0)
 |.ref p=>(∃xs,SqL K H p xs/\k = !xs.isEmpty)\/(∃xs,SqT K H p xs/\k = !xs.isEmpty) \/ ∃kvs,H p=HA (.dK kvs)/\k = !kvs.isEmpty
 |_=>False
def qtu {κ:Type}{kvs:List (κ×V)}{vs:List (κ×HE)}(r:KV kvs vs):(!vs.isEmpty) = !kvs.isEmpty:=by cases r <;>rfl
def qm9 {xs:tW}{its:tH}(r:Vals xs its):(!its.toArray.isEmpty) = !xs.isEmpty:=by cases r <;>simp
def Vb:(A4:Nat)<2 ^ 63:=by rw[Bv];decide
theorem SL:sH X (λx H Q=>∃k,Ya X.K x H k/\Q k H):=by
 intro _ s σ H x v Q I c h;obtain⟨k,e,q⟩:=h;have hl:=Vb;have hs:A4=16777216:=Bv;cases x with
 |non =>cases c;have a:k=HH:=e;subst a;exact truthy_none ⟨H,I,q⟩
 |bl b =>cases c;have a:k=b:=e;subst a;exact B0 ⟨H,I,q⟩
 |int i =>obtain⟨t,rfl⟩:=c;have a:k=(i != 0):=e;subst a;exact PySem.P.truthy_int ⟨H,I,q⟩
 |str y =>obtain⟨t,rfl⟩:=c;obtain⟨hy,a⟩:y.length<=A4/\k=((y.length:Int) != 0):=e;subst a;exact PySem.P.truthy_str sZ ⟨H,I.tok _,q⟩
 |byt y =>obtain⟨t,rfl⟩:=c;obtain⟨hy,a⟩:y.size<=A4/\k=((y.size:Int) != 0):=e;subst a;exact PySem.W.truthy_bytes sZ ⟨H,I.tok _,q⟩
 |ref p =>
  cases c;have a:(∃xs,SqL X.K H p xs/\k = !xs.isEmpty)\/(∃xs,SqT X.K H p xs/\k = !xs.isEmpty) \/ ∃kvs,H p=HA (.dK kvs)/\k = !kvs.isEmpty:=e;rcases a with ⟨xs,d,a⟩|⟨xs,d,a⟩|⟨kvs,d,a⟩
  .subst a;obtain⟨its,r,pl,hz⟩:=I.list d;have f:=r.length;exact wpAny_truthy_list pl.isList (by simp only[Ah];lia) ⟨H,I.tok _,by rwa[qm9 r]⟩
  .subst a;obtain⟨its,r,pl,hz⟩:=I.tuple d;have f:=r.length;exact truthy_tuple pl (by simp only[Ah];lia) ⟨H,I.tok _,by rwa[qm9 r]⟩
  .subst a;obtain⟨hz,hS,vs,r,m⟩:kvs.length<=A4/\(p == sysModules)=HH/\∃vs,KV kvs vs/\s.heap.DictOf (Jl X.prog X.w) p vs:=I.hok p _ d;have f:kvs.length=vs.length:=Dw.length r;exact wpAny_truthy_dict hS m sZ ⟨H,I.tok _,by rwa[qtu r]⟩
 |_=>exact(show False from e).elim
theorem qy8 (f:PE X a ta)(i:∀whole,isTrue a X.env whole=(do let v <- whole;standAt a.pos;holding [v] (truthy v))) :
  PT X a (λσ H Q=>ta σ H λx H'=>∃k,Ya X.K x H' k/\Q k H'):=by
 intro b s σ H Q I h;exact isTrue_plain (Hy (f b s σ H _ I h)<|by intro v g w';obtain⟨x,j,c,d,e⟩:=w';exact SL b g σ j x v Q c d e)<|i _
def qtv:JH X (binaryOp .Add) (λx y H Q=>∃i j,x=.str i/\y=.str j/\i.length+j.length<=A4/\Q (.str<|i++j) H):=by intro _ s σ H x y v u Q I a b h;obtain⟨i,j,rfl,rfl,hz,q⟩:=h;obtain⟨t,rfl⟩:=a;obtain⟨t',rfl⟩:=b;exact add_str (λt' _=>HP (.str<|i++j) H ⟨I.tok _,⟨_,Z⟩,q⟩) hz
def RX {x:V}{us:tH}(r:Vals [x] us):∃u,us=[u]/\RelV x u:=by
 cases r with|cons r1 r2=>cases r2;exact⟨_,Z,r1⟩
theorem RG {x y:V}{us:tH}(r:Vals [x,y] us):∃u w',us=[u,w']/\RelV x u/\RelV y w':=by
 cases r with
 |cons r1 r2 =>
  cases r2 with|cons r3 r4=>cases r4;exact HP _ _ ⟨Z,r1,r3⟩
def qH (b:X.calm=HG):Lm X (.builtin "max") (λxs H Q=>∃i j,xs=[.int i,.int j]/\Q (.int (if j > i then j else i)) H):=by
 intro _ s σ H xs _ Q I r h;obtain⟨i,j,rfl,q⟩:=h;obtain⟨u,_,rfl,⟨t,rfl⟩,⟨_,rfl⟩⟩:=RG r;refine max_two_ints (I.ok.hd b) λ_ _ k=>HP _ H ⟨I.kept k,?_,q⟩;by_cases a:j > i
 .rw[HI a,HI a];exact⟨_,Z⟩
 .rw[HF a,HF a];exact⟨_,Z⟩
def qpc (b:X.calm=HG):Lm X (.builtin "min") (λxs H Q=>∃i j,xs=[.int i,.int j]/\Q (.int (if j<i then j else i)) H):=by
 intro _ s σ H xs _ Q I r h;obtain⟨i,j,rfl,q⟩:=h;obtain⟨u,_,rfl,⟨t,rfl⟩,⟨_,rfl⟩⟩:=RG r;refine min_two_ints (I.ok.hd b) λ_ _ k=>HP _ H ⟨I.kept k,?_,q⟩;by_cases a:j<i
 .rw[HI a,HI a];exact⟨_,Z⟩
 .rw[HF a,HF a];exact⟨_,Z⟩
def qw5:Lm X (.type "int") (λxs H Q=>(∃i,xs=[.int i]/\Q (.int i) H) \/ ∃k,xs=[.bl k]/\Q (.int (if k then 1 else 0)) H):=by
 intro _ s σ H xs _ Q I r h;rcases h with ⟨i,rfl,q⟩|⟨k,rfl,q⟩
 .obtain⟨u,rfl,t,rfl⟩:=RX r;exact call_int_int<|HP (.int i) H ⟨I,⟨_,Z⟩,q⟩
 .obtain⟨u,rfl,a⟩:=RX r;cases a;exact call_int_bool<|HP (.int (if k then 1 else 0)) H ⟨I.tok _,⟨_,Z⟩,q⟩
def sO (K:Ag)(x:V)(H:Hp)(n:Nat):Prop :=
 match x with
 |.str y=>y.length<=A4/\n=y.length
 |.byt y=>y.size<=A4/\n=y.size
 |.ref p=>(∃xs,SqL K H p xs/\n=xs.length) \/ ∃xs,SqT K H p xs/\n=xs.length
 |_=>False
theorem Ka:Lm X (.builtin "len") (λxs H Q=>∃x n,xs=[x]/\sO X.K x H n/\Q (.int n) H):=by
 intro _ s σ H xs _ Q I r h;obtain⟨x,n,rfl,e,q⟩:=h;obtain⟨u,rfl,c⟩:=RX r;have hl:=Vb;have hs:A4=16777216:=Bv;cases x with
 |str y =>obtain⟨t,rfl⟩:=c;obtain⟨hy,a⟩:y.length<=A4/\n=y.length:=e;subst a;exact len_str sZ (HP (.int _) H ⟨I.tok _,⟨_,Z⟩,q⟩)
 |byt y =>obtain⟨t,rfl⟩:=c;obtain⟨hy,a⟩:y.size<=A4/\n=y.size:=e;subst a;exact PySem.W.len_bytes sZ (HP (.int _) H ⟨I.tok _,⟨_,Z⟩,q⟩)
 |ref p =>
  cases c;have a:(∃xs,SqL X.K H p xs/\n=xs.length) \/ ∃xs,SqT X.K H p xs/\n=xs.length:=e;rcases a with ⟨xs,d,a⟩|⟨xs,d,a⟩
  .subst a;obtain⟨its,f,pl,hz⟩:=I.list d;have b:=f.length;exact Calls.call_len_list pl.isList (by simp only[Ah];lia) (HP (.int xs.length) H ⟨I.tok _,⟨_,by simp only[Ah];rw[b]⟩,q⟩)
  .subst a;obtain⟨its,f,pl,hz⟩:=I.tuple d;have b:=f.length;exact len_tuple pl (by simp only[Ah];lia) (HP (.int xs.length) H ⟨I.tok _,⟨_,by simp only[Ah];rw[b]⟩,q⟩)
 |_=>exact(show False from e).elim
end
end L2
namespace L2
open PySem PySem.Spec PyProof.Rows
structure ObjM (h:HX)(x dx C:HC)(mA:Str->tK):Prop where
 obj:h.get? x=HA (C0 C dx)
 ns:h.Ns1 dx mA
 ne:dx≠x
def qw6 {h:HX}{d:HC}{f:Str->tK}(n:h.Ns1 d f):∃od,h.get? d=HA od/\∀b,El b od=HA (f b):=by
 obtain⟨o,es,ep,j,m,k,_,g⟩:=n;refine⟨o,j,λb=>?_⟩;have e:=g b;unfold nsFind findBy at e;rw[<- Array.find?_toList]at e;unfold El;rw[m];dsimp only;split
 .rename_i y q;rw[q]at e;exact HR HA e
 .rename_i q;rw[q]at e;have a:es.toList.any (·.refKey)=HH:=by rw[List.any_eq_false];intro y i;obtain⟨z,t,c⟩:=k y<|Array.mem_toList_iff.mp i;simp[DictEntry.refKey,c]
  have l:¬es.toList.any (·.refKey)=HG:=by rw[a];exact AF
  rw[HF l];exact HR HA e
def ObjM.look {h:HX}{x b C:HC}{a:Str->tK}(I:ObjM h x b C a):∃od,PySem.W.InstAt h x (C0 C b) C (HA od)/\∀name,El name od=HA (a name) :=
 let ⟨od,ho,hl⟩:=qw6 I.ns
 ⟨od,⟨I.obj,Z,Z,ho⟩,hl⟩
section
variable {prog:AJ}{w:HQ}{A:AO}{E:tR}{s:Af}{K:Ag}{x dx C f:HC}{mA:Str->tK}{name:Str}{v:HE}
theorem QZ {a:Bool}{Q:tR}(X:K.In s.heap)(I:ObjM s.heap x dx C mA)(g:Dn K C name=HG)(d:DG K C=HG)
  (e:Bf K (.ref C) name=HA HD)(c:mA name=HA v)(b:PySem.W.handedIn v=HG)(h:Q v {s with toks:=s.toks+1}) :
  wpAny (model prog w) A (getAttr (.ref x) name a) Q E s:=by
 obtain⟨_,J,f⟩:=I.look;exact PySem.W.get_value X J (Eh g).1 (PySem.W.findObj_own d e Z<|by rw[f,c]) b h
theorem qy9 {pl:Sem Bool}{Q:HE×tH->Af->Prop}(X:K.In s.heap)(I:ObjM s.heap x dx C mA)(a:Dn K C name=HG)
  (d:Bf K (.ref C) name=HA (HA<|.ref f))(g:Ej K (.ref f)=HG)(b:mA name=HD)(h:Q (.ref f,[.ref x]) s) :
  wpAny (model prog w) A (getMethod (.ref x) name pl) Q E s:=by
 obtain⟨c,J,e⟩:=I.look;exact PySem.W.method_fn X J (Eh a).1 (Eh a).2 d (HU.mp g) (by show (El name c).map (·.isSome)=HA HH;rw[e,b];rfl) h
theorem PK {ns:tG}{Q:Unit->Af->Prop}(X:K.In s.heap)(I:ObjM s.heap x dx C mA)
  (o:Bf K (.ref C) "__setattr__"=HA (HA<|.builtin "object.__setattr__"))(m:Et K C=HG)(p:PySem.W.takerIn K C name=HA HD)(k:DG K C=HG)
  (n:PySem.Within mA ns)(hsz:ns.length<=A4)
  (h:∀h',ObjM h' x dx C (λy=>if y=name then HA v else mA y)->CM dx s.heap h'->Q () {s with heap:=h',toks:=s.toks+2}) :
  wpAny (model prog w) A (setAttr (.ref x) name v) Q E s:=by
 obtain⟨_,J,_⟩:=I.look;refine PySem.W.set_plain X J o<|PySem.W.osa_open (s:={s with toks:=s.toks+1}) (r:=HD) X J m p λb=>?_;obtain⟨_,j,f⟩:=PySem.W.any_some k;have l:s.heap.get? x=HA ⟨.ref C,HA dx,.plain,#[]⟩:=I.obj;refine A2<|Bi<|A2<|A2<|wpAny_loadPart l<|A2<|PySem.W.Looks.here (s:={s with toks:=s.toks+1}) (PySem.W.looks_clsIn X j) ?_;rw[f];refine Bi (a:=HA dx)<|A2<|Bi<|A2 ?_;refine wpAny_nsSet1 (s:={s with toks:=s.toks+1}) I.ns λh' c d=>?_;obtain⟨_,_,_,e,i,g⟩:=c.count<|PySem.Within.cons name v n;refine A2 (wpAny_lookBehind e (by rw[i];exact pastItsLine_dict<|Az g (by rw[AA];lia)) ?_);exact Bi<|h _ ⟨(d.2 _<|By I.ne).trans I.obj,c,I.ne⟩ d
theorem ND {R:Result->Af->Prop}{vs:tH}{kw:List (Str×HE)}(X:K.In s.heap)(b:PySem.W.makesIn K C=HG)
  (c:Bf K (.ref C) "__init__"=HA (HA<|.ref f))(e:CD K (.ref f)=HA (.type "function"))
  (h:codeAny (model prog w) (A.under<|.builtin "type.__call__" ⟨.ref C::vs,kw⟩) (.call (.ref f) ⟨.ref (s.heap.objs.size+1)::vs,kw⟩) (PySem.W.InitBack (s.heap.objs.size+1) R)
   {s with heap:=(s.heap.push BU).push<|C0 C s.heap.objs.size}) :
  codeAny (model prog w) A (.call (.ref C) ⟨vs,kw⟩) R s:=by
 obtain⟨_,g,d,t,_⟩:=s;exact PySem.W.make_core (PySem.W.makes_of X b) (PySem.W.looks_findIn X c) (λa=>PySem.W.bind_fn X a e) (.inl Z) h
end
noncomputable def Ij (f:Str)(v:V):tY->tY
 | []=>[(f,v)]
 | (g,x)::r=>if g=f then (g,v)::r else (g,x)::Ij f v r
theorem qlz (f g:Str)(v:V):∀fs:tY,(Ij f v fs).lookup g=if g=f then HA v else fs.lookup g
 | []=>by
  show Da g [(f,v)]=_;by_cases h:g=f
  .have a:(g == f)=HG:=HU.mpr h;simp only[Da,a,HI h]
  .have a:(g == f)=HH:=beq_eq_false_iff_ne.mpr h;simp only[Da,a,HF h]
 | (k,x)::r=>by
  have c:=qlz f g v r;rw[show Ij f v ((k,x)::r)=(if k=f then (k,v)::r else (k,x)::Ij f v r) from Z];by_cases b:k=f
  .rw[HI b];by_cases h:g=k
   .have a:(g == k)=HG:=HU.mpr h;simp only[Da,a,HI<|h.trans b]
   .have a:(g == k)=HH:=beq_eq_false_iff_ne.mpr h;simp only[Da,a,HF (λe:g=f=>h<|e.trans b.symm)]
  .rw[HF b];by_cases h:g=k
   .have a:(g == k)=HG:=HU.mpr h;simp only[Da,a,HF (λe:g=f=>b<|h.symm.trans e)]
   .have a:(g == k)=HH:=beq_eq_false_iff_ne.mpr h;simp only[Da,a];exact c
theorem qG (f:Str)(v:V):∀fs:tY,f∈(Ij f v fs).map (·.1)/\∀g,g∈fs.map (·.1)->g∈(Ij f v fs).map (·.1)
 | []=>⟨by simp[Ij],λg h=>by simp at h⟩
 | (k,x)::r=>by
  obtain⟨c,b⟩:=qG f v r;rw[show Ij f v ((k,x)::r)=(if k=f then (k,v)::r else (k,x)::Ij f v r) from Z];by_cases a:k=f
  .rw[HI a];subst a;exact⟨by simp,λg h=>by simpa using h⟩
  .rw[HF a];refine⟨?_,λg h=>?_⟩
   .rw[AW];exact A1 _ c
   .rw[AW]at h |-;rcases Ax.mp h with e|e
    .exact Ax.mpr<|.inl e
    .exact A1 _<|b g e
theorem ql0 (f:Str)(v:V):∀fs:tY,(Ij f v fs).length<=fs.length+1
 | []=>by simp[Ij]
 | (k,x)::r=>by
  have ih:=ql0 f v r;rw[show Ij f v ((k,x)::r)=(if k=f then (k,v)::r else (k,x)::Ij f v r) from Z];by_cases a:k=f
  .rw[HI a,AA,AA];lia
  .rw[HF a,AA,AA];lia
def RelO.some_of {v:V}{o:tK}(r:RelO (HA v) o):∃u,o=HA u/\RelV v u:=by
 cases o with|none=>exact(show False from r).elim|some u=>exact⟨u,Z,r⟩
def RelO.none_of {o:tK}(r:RelO HD o):o=HD:=by
 cases o with|none=>rfl|some u=>exact(show False from r).elim
theorem qw7 {v:V}{u:HE}(r:RelV v u):PySem.W.handedIn u=HG:=by
 cases v with
 |non=>cases (show u=CS from r);rfl
 |bl b=>cases (show u=DR b from r);rfl
 |int i=>obtain⟨t,e⟩:=(show ∃t,u=Dg i t from r);cases e;rfl
 |str x=>obtain⟨t,e⟩:=(show ∃t,u=Dm x t from r);cases e;rfl
 |byt b=>obtain⟨t,e⟩:=(show ∃t,u=Value.bytes b t from r);cases e;rfl
 |flt b=>obtain⟨t,e⟩:=(show ∃t,u=Value.float b t from r);cases e;rfl
 |ref a=>cases (show u=Bk a from r);rfl
 |ty n=>cases (show u=Cq n from r);rfl
section
variable {P:AJ}{w:HQ}{H H':Hp}{h h':HX}{a C dx:HC}{fs fs':tY}
def ZT (c:HOk P w H h)(e:H a=HA (.ins C dx fs)):∃b,ObjM h a dx C b/\(∀f,RelO (fs.lookup f)<|b f)/\PySem.Within b (fs.map (·.1))/\fs.length<=1000/\H dx=HA (.own a):=by obtain⟨d,z,i,g,b,n,r,q⟩:=(show ObjOk P w H h a (.ins C dx fs) from c a _ e);exact⟨b,⟨g,n,i⟩,r,q,z,d⟩
end
structure Cls (K:Ag)(C:HC):Prop where
 pg:Dn K C AN=HG
 hd:DG K C=HG
 po:Et K C=HG
 sa:Bf K (.ref C) "__setattr__"=HA (HA<|.builtin "object.__setattr__")
def Cls.get {K:Ag}{C:HC}(c:Cls K C)(f:Str):Dn K C f=HG:=c.pg
def NoAttr (K:Ag)(C:HC)(f:Str):Prop:=Bf K (.ref C) f=HA HD
def NoAttr.taker {K:Ag}{C:HC}{f:Str}(n:NoAttr K C f):PySem.W.takerIn K C f=HA HD:=by unfold PySem.W.takerIn;rw[show Bf K (.ref C) f=HA HD from n];rfl
structure Meth (K:Ag)(C:HC)(m:Str)(f:HC):Prop where
 at_:Bf K (.ref C) m=HA (HA<|.ref f)
 fn:Ej K (.ref f)=HG
 kp:Bw K (.ref f)=HG
section
variable {X:Cx}{pins:List (HC×Obj)}{σ:St}{H:Hp}{s:Af}{a C dx:HC}{fs:tY}{f:Str}{v:V}{A:AO}{E:tR}
theorem qna {b:Bool}{Q:tR}(I:Inv X pins σ H s)(e:H a=HA (.ins C dx fs))(c:Cls X.K C)(n:NoAttr X.K C f)(l:fs.lookup f=HA v)
  (h:∀u s',Inv X pins σ H s'->RelV v u->Q u s'):wpAny (model X.prog X.w) A (getAttr (.ref a) f b) Q E s:=by
 obtain⟨i,O,r,_,_,_⟩:=ZT I.hok e;obtain⟨u,g,d⟩:=RelO.some_of (v:=v) (o:=i f) (by rw[<- l];exact r f);exact QZ I.kIn O (c.get f) c.hd n g (qw7 d)<|h u _ (I.tok _) d
theorem qO {m:Str}{g:HC}{pl:Sem Bool}{Q:HE×tH->Af->Prop}(I:Inv X pins σ H s)(e:H a=HA (.ins C dx fs))(c:Cls X.K C)(k:Meth X.K C m g)(l:fs.lookup m=HD)
  (h:Q (.ref g,[.ref a]) s):wpAny (model X.prog X.w) A (getMethod (.ref a) m pl) Q E s:=by
 obtain⟨d,O,r,_,_,_⟩:=ZT I.hok e;have b:d m=HD:=RelO.none_of (by rw[<- l];exact r m);exact qy9 I.kIn O (c.get m) k.at_ k.fn b h
theorem qnb {y:V}{u:HE}{Q:Unit->Af->Prop}(I:Inv X pins σ H s)(e:H a=HA (.ins C dx fs))(c:Cls X.K C)(n:NoAttr X.K C f)(hl:fs.length<1000)(m:RelV y u)
  (h:∀s',Inv X pins σ (upd H a<|.ins C dx<|Ij f y fs) s'->Q () s'):wpAny (model X.prog X.w) A (setAttr (.ref a) f u) Q E s:=by
 obtain⟨k,O,r,j,_,i⟩:=ZT I.hok e;have hz:(fs.map (·.1)).length<=A4:=by rw[Ab,Bv];lia
 refine PK I.kIn O c.sa c.po n.taker c.hd j hz λh' d l=>h _ ?_;have hd:∃o,h'.get? dx=HA o:=let ⟨o,_,_,e',_⟩:=d.ns;⟨o,e'⟩;refine I.write (x:=a) (e:=dx) (by rw[e];exact Cj) (.inr i) (λb q t z=>(l.2 b t).trans z) hd ?_;refine⟨by rwa[qr O.ne],?_,O.ne,d.obj,_,d.ns,λg=>?_,λg p=>?_⟩
 .have:=ql0 f y fs;lia
 .show RelO ((Ij f y fs).lookup g) (if g=f then HA u else k g);rw[qlz];by_cases q:g=f
  .rwa[HI q,HI q]
  .rw[HF q,HF q];exact r g
 .by_cases q:g=f
  .rw[q];exact(qG f y fs).1
  .refine(qG f y fs).2 g<|j g λz=>p ?_;show (if g=f then HA u else k g)=HD;rwa[HF q]
theorem Inv.made (I:Inv X pins σ H s):Inv X pins σ (upd (upd H s.heap.objs.size<|.own<|s.heap.objs.size+1) (s.heap.objs.size+1)<|.ins C s.heap.objs.size [])
  {s with heap:=(s.heap.push BU).push<|C0 C s.heap.objs.size}:=by
 have c:(s.heap.push BU).get? s.heap.objs.size=HA BU:=AX s.heap rfl;have g:((s.heap.push BU).push<|C0 C s.heap.objs.size).get? (s.heap.objs.size+1)=HA (C0 C s.heap.objs.size):=by
  have:=AX (s.heap.push BU) (o:=C0 C s.heap.objs.size) rfl
  rwa [DH]at this
 have i:(s.heap.push BU).Ns s.heap.objs.size (λ_=>HD):=(HW BU (#[]) _ ⟨c,Z,λe h=>absurd h<|by simp,λ_=>rfl⟩);have f:=I.laid (a:=s.heap.objs.size) (o:=.own<|s.heap.objs.size+1) (h':=s.heap.push BU) (t':=s.toks) (λb u q=>Aw _ q) (Al _) ⟨_,c⟩;refine f.laid (a:=s.heap.objs.size+1) (o:=.ins C s.heap.objs.size []) (t':=s.toks) (λb u q=>Aw _ q) (BN<|DH _ _) ?_;have d:s.heap.objs.size≠s.heap.objs.size+1:=AD<|BQ _;refine⟨by rw[qr d,qk],AR _,d,g,λ_=>HD,(Heap.Ns1.of_empty i).at λo q=>Aw _ q,λ_=>Cj,λy j=>absurd Z j⟩
theorem Q1 {prog:AJ}{w:HQ}{env:Env}{e:HS}{f:Str}{pos:Pos}{s:Af}{Q:tR}(b:attributeBase e f env (eval e env)=eval e env)
  (h:wpAny (model prog w) A (eval e env) (λo a=>wpAny (model prog w) A (getAttr o f HG) Q E a) E s):wpAny (model prog w) A (eval (.Attribute e f pos) env) Q E s :=
 Attribute_any_ h (by rw[arm_eval_Attribute,b])
end
def SV (K:Ag)(ta:TE)(f:Str):TE:=λσ H Q=>ta σ H λx H1=>∃a C dx fs v,x=.ref a/\H1 a=HA (.ins C dx fs)/\Cls K C/\NoAttr K C f/\fs.lookup f=HA v/\Q v H1
def iZ (K:Ag)(ta tv:TE)(f:Str):TS:=λD σ H=>tv σ H λy H1=>ta σ H1 λx H2=>∃a C dx fs,x=.ref a/\H2 a=HA (.ins C dx fs)/\Cls K C/\NoAttr K C f/\fs.length<1000 /\
 D.nx σ (upd H2 a<|.ins C dx<|Ij f y fs)
def Yi (X:Cx)(op:Operator)(rd:V->V->Hp->VK->Prop):Prop :=
 ∀(pins:List (HC×Obj))(s:Af)(σ:St)(H:Hp)(x y:V)(u v:HE)(Q:VK),Inv X pins σ H s->RelV x u->RelV y v->rd x y H Q->wpAny (model X.prog X.w) X.A (inplaceOp op u v) (EP X pins σ Q) X.xe s
def PN (K:Ag)(ta tv:TE)(rd:V->V->Hp->VK->Prop)(f:Str):TS:=λD σ H=>ta σ H λx H1=>∃a C dx fs v,x=.ref a/\H1 a=HA (.ins C dx fs)/\Cls K C/\NoAttr K C f/\fs.lookup f=HA v /\
 tv σ H1 λy H2=>rd v y H2 λz H3=>∃dx' fs',H3 a=HA (.ins C dx' fs')/\fs'.length<1000/\D.nx σ (upd H3 a<|.ins C dx'<|Ij f z fs')
section
variable {X:Cx}{o e value:HS}{f:Str}{pos pos' tpos:Pos}{ta tv:TE}
def ZD (m:PE X e ta)(k:attributeBase e f X.env (eval e X.env)=eval e X.env):PE X (.Attribute e f pos) (SV X.K ta f):=by intro b s σ H Q I h;refine Q1 k<|Hy (m b s σ H _ I h) λu _ d=>?_;obtain⟨x,r,p,g,a,C,_,_,v,ex,i,c,n,l,q⟩:=d;subst ex;obtain rfl:u=Bk a:=g;exact qna p i c n l λ_ _ o j=>⟨v,r,o,j,q⟩
def Jb (m:PE X o ta)(g:PE X value tv)(w:swapsWith value (HA<|.Attribute o f pos') pos.line X.env=pure HH):PS X (.Assign [.Attribute o f pos'] value pos) (iZ X.K ta tv f):=by intro b s σ H D I h;refine plainObj_wpAny_Assign_Attribute (Hy (g b s σ H _ I h) λu i w60a'=>?_) w;obtain⟨y,z,t,j,q⟩:=w60a';refine Hy (m b i σ z _ t q) λov _ d=>?_;obtain⟨x,_,p,e,a,C,_,_,ex,k,c,n,l,v⟩:=d;subst ex;obtain rfl:ov=Bk a:=e;exact qnb p k c n l j λ_ r=>⟨σ,_,r,v⟩
def qw8 {op:Operator}{rd:V->V->Hp->VK->Prop}(t:PE X o ta)(j:PE X value tv)(e:Yi X op rd):PS X (.AugAssign (.Attribute o f tpos) op value pos) (PN X.K ta tv rd f):=by intro b s σ H D I h;refine wpAny_AugAssign_AttributeAny<|Hy (t b s σ H _ I h) λov _ d=>?_;obtain⟨x,P,N,i,a,C,_,_,v,ex,p,c,n,l,q⟩:=d;subst ex;obtain rfl:ov=Bk a:=i;refine qna N p c n l λu B J E=>Hy (j b B σ P _ J q) λA Q w59a'=>?_;obtain⟨y,k,L,m,M⟩:=w59a';refine Hy (e b Q σ k v y u A _ L E m M) λ_ _ d=>?_;obtain⟨z,_,F,r,_,_,g,w,G⟩:=d;exact qnb F g c n w r λ_ O=>⟨σ,_,O,G⟩
def jE:V->V->Hp->VK->Prop:=λx y H Q=>∃i j,x=.int i/\y=.int j/\Q (.int<|i+j) H
def Ui:Yi X .Add jE:=by intro _ s σ H x y u v Q I a b w';obtain⟨i,j,rfl,rfl,q⟩:=w';obtain⟨t,rfl⟩:=(show ∃t,u=Dg i t from a);obtain⟨t',rfl⟩:=(show ∃t',v=Dg j t' from b);exact PyProof.Rows.iadd_int<|HP (.int<|i+j) H ⟨I.tok _,⟨_,Z⟩,q⟩
end
section
variable {X:Cx}{pins:List (HC×Obj)}{σ:St}{H:Hp}{s:Af}{A:AO}{E Q:tR}{c:HE}{b:Bool}
inductive TyOf (K:Ag) (H:Hp):V->HE->Prop where
 |non:TyOf K H .non (.type "NoneType")
 |bl (x:Bool):TyOf K H (.bl x) (.type "bool")
 |int (i:Int):TyOf K H (.int i) (.type "int")
 |str (x:Str):TyOf K H (.str x) (.type "str")
 |flt (x:UInt64):TyOf K H (.flt x) (.type "float")
 |lst {a:HC} {xs:tW} (e:H a=HA (.lst xs)):TyOf K H (.ref a) (.type "list")
 |frz {a:HC} {o:Obj} {xs:tW} (e:H a=HA (.frz o<|.lst xs)):TyOf K H (.ref a) (.type "list")
 |tup {a:HC} {xs:tW} (e:H a=HA (.tup xs)):TyOf K H (.ref a) (.type "tuple")
 |dK {a:HC} {kvs:List (IC×V)} (e:H a=HA (.dK kvs)):TyOf K H (.ref a) (.type "dict")
 |dT {a:HC} {kvs:List (List IC×V)} (e:H a=HA (.dT kvs)):TyOf K H (.ref a) (.type "dict")
 |ins {a C dx:HC} {fs:tY} (e:H a=HA (.ins C dx fs)) (cl:Cls K C) (ha:Bf K (.ref C) "__class__"=HA (HA<|.builtin "object.__class__"))
   (hn:PySem.W.specialIn K (.builtin "object.__class__") "__get__"=HA (HA<|.builtin "getset_descriptor.__get__")) (htk:PySem.W.takesIn K (.builtin "object.__class__")=HA HG)
   (hm:PySem.W.mroIn K C (.type "object")=HA HG):TyOf K H (.ref a) (.ref C)
def qw9 {x:V}{u t:HE}(I:Inv X pins σ H s)(d:RelV x u)(ty:TyOf X.K H x t)(e:AK X.K t c=HA b)(h:∀tk,Q (.bool b) {s with toks:=tk}) :
  wpAny (model X.prog X.w) A (call (.builtin "isinstance") [u,c]) Q E s:=by
 cases ty with
 |non=>cases (show u=CS from d);exact BO PySem.W.kitx_none I.kIn Cj e sh h
 |bl y=>cases (show u=DR y from d);exact BO PySem.W.kitx_bool I.kIn Cj e sh h
 |int i=>obtain⟨t,q⟩:=(show ∃t,u=Dg i t from d);cases q;exact BO PySem.W.kitx_int I.kIn Cj e sh h
 |str y=>obtain⟨t,q⟩:=(show ∃t,u=Dm y t from d);cases q;exact BO PySem.W.kitx_str I.kIn Cj e sh h
 |flt y=>obtain⟨t,q⟩:=(show ∃t,u=Value.float y t from d);cases q;exact BO PySem.W.kitx_float I.kIn Cj e sh h
 | @lst a xs ea =>cases (show u=Bk a from d);obtain⟨_,_,n,_,f⟩:=(show ObjOk X.prog X.w H s.heap a (.lst xs) from I.hok a _ ea);exact BO Eu I.kIn ⟨_,f,Z⟩ e sh h
 | @frz a ob xs ea =>cases (show u=Bk a from d);obtain⟨_,_,_,n,_,f⟩:=(show ObjOk X.prog X.w H s.heap a (.frz ob<|.lst xs) from I.hok a _ ea);exact BO Eu I.kIn ⟨_,f,Z⟩ e sh h
 | @tup a xs ea =>cases (show u=Bk a from d);obtain⟨_,_,_,p⟩:=(show ObjOk X.prog X.w H s.heap a (.tup xs) from I.hok a _ ea);obtain⟨o,f,g,_⟩:=p;exact BO PySem.W.kitx_tuple I.kIn ⟨o,f,g⟩ e sh h
 | @dK a kvs ea =>cases (show u=Bk a from d);obtain⟨_,_,_,_,p⟩:=(show ObjOk X.prog X.w H s.heap a (.dK kvs) from I.hok a _ ea);obtain⟨o,es,ep,f,g,_⟩:=p;exact BO PySem.W.kitx_dict I.kIn ⟨o,f,g.1⟩ e sh h
 | @dT a kvs ea =>cases (show u=Bk a from d);obtain⟨_,_,xs,_,o,es,ep,f,g,_⟩:=(show ObjOk X.prog X.w H s.heap a (.dT kvs) from I.hok a _ ea);exact BO PySem.W.kitx_dict I.kIn ⟨o,f,g.1⟩ e sh h
 | @ins a C dx fs ea cl ha hn htk hm =>cases (show u=Bk a from d);obtain⟨_,O,_⟩:=ZT I.hok ea;obtain⟨_,J,_⟩:=O.look;exact BO (PySem.W.kitx_own (cl.get _) cl.hd ha hn htk hm) I.kIn J e sh h
end
end L2
namespace L2
open PySem PySem.Spec PyProof.Rows
structure Room (k:Nat)(A:AO):Prop where
 hd:A.handled=HD
 dp:A.depth+3*k+5<recursionLimit
 un:A.units+16*k+200<cLine
section
variable {A:AO}{C:HC}{us:tH}{kw:List (Str×HE)}
theorem Room.mono {j k:Nat}(r:Room k A)(h:j<=k):Room j A:=⟨r.hd,by have:=r.dp;lia,by have:=r.un;lia⟩
theorem Room.deeper {k:Nat}(r:Room (k+1) A)(env:Env):Room k (A.deeper env) :=
 ⟨r.hd,by have:=r.dp;show A.depth+1+3*k+5<_;lia,by have:=r.un;show A.units+3+16*k+200<_;lia⟩
theorem Room.in1 {k:Nat}(r:Room (k+1) A):Room k A.in1 :=
 ⟨r.hd,by have:=r.dp;show A.depth+3*k+5<_;lia,by have:=r.un;show A.units+1+16*k+200<_;lia⟩
theorem qtw:(A.under<|.builtin "type.__call__" ⟨.ref C::us,kw⟩).depth=A.depth+1:=by
 first|rfl|simp[AO.under,Code.weight,Code.isCreation,Code.isGuard,Code.isCaller,Code.frames,Code.isFrame,guardIds]
theorem qtx:(A.under<|.builtin "type.__call__" ⟨.ref C::us,kw⟩).units=A.units+1:=by
 first|rfl|simp[AO.under,Code.cUnits,Code.frames,Code.isFrame]
theorem Room.make {k:Nat}(r:Room (k+1) A)(C:HC)(us:tH)(kw:List (Str×HE)):Room k (A.under<|.builtin "type.__call__" ⟨.ref C::us,kw⟩) :=
 ⟨r.hd,by have:=r.dp;rw[qtw];lia,by have:=r.un;rw[qtx];lia⟩
theorem Room.depth {k:Nat}(r:Room k A):A.depth<recursionLimit:=by have:=r.dp;lia
theorem Room.units {k:Nat}(r:Room k A):A.units+64<cLine:=by have:=r.un;lia
theorem Room.units0 {k:Nat}(r:Room k A):A.units<cLine:=by have:=r.un;lia
def SR:TA:=λ_ H Q=>Q [] H
def L9 (ta:TE)(tr:TA):TA:=λσ H Q=>ta σ H λx H1=>tr σ H1 λxs H2=>Q (x::xs) H2
end
section
variable {X:Cx}{e:HS}{es:tN}{te:TE}{t:TA}{pos:Pos}
def qg:PA X [] SR:=λ_ _ _ _ H Q I h=>DI<|HP [] H ⟨I,.nil,h⟩
def qd (g:PE X e te)(f:PA X es t)(m:autoParam (starEach (e::es) X.env=(HH,eval e X.env)::starEach es X.env) uG):PA X (e::es) (L9 te t):=by intro pos a s σ H Q I h;rw[m];show wpAny _ _ (spliced<|(HH,eval e X.env)::backTo pos (starEach es X.env)) _ _ s;refine Db<|Hy (g a s σ H _ I h) λu c b=>?_;obtain⟨x,n,k,o,i⟩:=b;exact Hy (f pos a c σ n _ k i)<|by intro _ _ w';obtain⟨xs,d,j,p,l⟩:=w';exact ⟨x::xs,d,j,.cons o p,l⟩
def gk (t:TA):TE:=λσ H Q=>t σ H λxs H1=>xs.length<=A4/\∀p,H1 p=HD->Q (.ref p) (upd H1 p<|.tup xs)
def hQ (t:TA):TE:=λσ H Q=>t σ H λxs H1=>xs.length<=A4/\∀p,H1 p=HD->Q (.ref p) (upd H1 p<|.lst xs)
def zj {x1}(h:PA X es t):PE X (.Tuple es x1 pos) (gk t):=by intro c s σ H Q I g;refine wpAny_Tuple_spliced (Hy (h pos c s σ H _ I g) λus a w57a'=>?_);obtain⟨xs,f,d,r,z,q⟩:=w57a';refine ⟨by rwa[<- r.length],?_⟩;have i:f a.heap.objs.size=HD:=d.hok.fresh<|Al _;refine HP (.ref a.heap.objs.size) (upd f a.heap.objs.size<|.tup xs) ⟨d.laid (t':=a.toks) (λb u e=>Aw _ e) (Al _) ?_,Z,q _ i⟩;exact⟨z,us,r,⟨_,AX _ Z,Z,_,Z⟩⟩
def zh (h:PA X es t):PE X (.List es pos) (hQ t):=by intro c s σ H Q I g;refine wpAny_List_spliced (Hy (h pos c s σ H _ I g) λus a w56a'=>?_);obtain⟨xs,f,d,r,z,q⟩:=w56a';refine ⟨by rwa[<- r.length],?_⟩;have i:f a.heap.objs.size=HD:=d.hok.fresh<|Al _;refine HP (.ref a.heap.objs.size) (upd f a.heap.objs.size<|.lst xs) ⟨d.laid (t':=a.toks) (λb u e=>Aw _ e) (Al _) ?_,Z,q _ i⟩;exact⟨z,us,0,r,AX _ Z⟩
end
abbrev Sp:=tW->Hp->VK->XK->Prop
abbrev LQ:=List Env->Hp->Af->XK->HE->Af->Prop
structure Env0 (P:AJ)(w:HQ)(K:Ag)(mg:Str->tK)(base:HX)(A:AO)(outer:List Env)(s:Af)(H:Hp):Prop where
 frames:A.frames=HA outer
 mod:Mod K mg base
 bs:∀b o,base.get? b=HA o->s.heap.get? b=HA o/\H b=HD
 bsz:base.objs.size<=s.heap.objs.size
 funs:s.heap.FunFrames base outer
 frf:∀b∈Lx outer,H b=HD
 hok:HOk P w H s.heap
 bare:AllBare s.gens
def CE (outer:List Env)(P:AJ)(w:HQ)(H:Hp)(s:Af)(Q:VK)(u:HE)(s':Af):Prop :=
 ∃v H',s'.os=s.os/\AllBare s'.gens/\Un (Lx outer) [] H H' s.heap s'.heap/\HOk P w H' s'.heap/\RelV v u/\Q v H'
def CR (CX:LQ)(outer:List Env)(P:AJ)(w:HQ)(H:Hp)(s:Af)(Q:VK)(E:XK)(r:Result)(s':Af):Prop :=
 match r with
 |.ok (.ret u)=>CE outer P w H s Q u s'
 |.ok _=>False
 |.error e=>CX outer H s E e s'
structure FnOk (P:AJ)(w:HQ)(K:Ag)(mg:Str->tK)(base:HX)(CX:LQ)(k:Nat)(f:HC)(fd:BC)(ps:tG)(sp:Sp):Prop where
 len:∀vs H Q E,sp vs H Q E->vs.length=ps.length
 run:∀(A:AO)(outer:List Env)(s:Af)(H:Hp)(args:Args)(us:tH)(vs:tW)(Q:VK)(E:XK),Room k A->Env0 P w K mg base A outer s H->BindsTo s fd args (ps.zip us)->Vals vs us->sp vs H Q E ->
  codeAny (model P w) A (.call (.ref f) args) (CR CX outer P w H s Q E) s
theorem Env0.make {P:AJ}{w:HQ}{K:Ag}{mg:Str->tK}{base:HX}{A:AO}{outer:List Env}{s:Af}{H:Hp}(e:Env0 P w K mg base A outer s H)(C:HC)(us:tH)(kw:List (Str×HE)) :
  Env0 P w K mg base (A.under<|.builtin "type.__call__" ⟨.ref C::us,kw⟩) outer s H:=⟨by first|exact e.frames | (simpa [AO.under,Code.envs,Code.isFrame,pushEnvs] using e.frames),e.mod,e.bs,e.bsz,e.funs,e.frf,e.hok,e.bare⟩
section
variable {X:Cx}{pins:List (HC×Obj)}{σ:St}{H:Hp}{s s':Af}
def Inv.env0 (I:Inv X pins σ H s):Env0 X.prog X.w X.K X.mg X.base X.A X.stack s H :=
 ⟨I.ok.frames,I.ok.mod,I.bs,Az I.ok.bsz I.sz,I.stack,I.stkFree,I.hok,I.bare⟩
def Inv.after {Q:VK}{u:HE}(I:Inv X pins σ H s)(h:CE X.stack X.prog X.w H s Q u s'):EP X pins σ Q u s':=by obtain⟨v,H',os,a,un,c,r,q⟩:=h;obtain⟨f,g,d,t,e⟩:=s';obtain rfl:e=s.os:=os;exact(HP v H' ⟨I.call (h':=f) (g':=g) (d':=d) (t':=t) (ch:=[]) un c a<|λb z=>absurd z<|by simp,r,q⟩)
end
def MB (sp:Sp)(dvs:tW)(E:XK)(t:TA):TE:=λσ H Q=>t σ H λvs H1=>sp (vs++dvs) H1 Q E
def RI (C:HC)(m:Str)(sp:Sp)(dvs:tW)(E:XK)(ta:TE)(t:TA):TE:=λσ H Q=>ta σ H λx H1=>∃a dx fs,x=.ref a/\H1 a=HA (.ins C dx fs)/\fs.lookup m=HD /\
 t σ H1 λvs H2=>sp (x::(vs++dvs)) H2 Q E
def WE (C:HC)(sp:Sp)(dvs:tW)(E:XK)(t:TA):TE:=λσ H Q=>t σ H λvs H1=>∀x dx,H1 x=HD->H1 dx=HD->dx≠x ->
 sp (.ref x::(vs++dvs)) (upd (upd H1 dx<|.own x) x<|.ins C dx []) (λv H2=>v=.non/\Q (.ref x) H2) E
def Binds (K:Ag)(fd:BC)(ps:tG)(ds:tH):Prop :=
 ∀(s:Af)(us:tH),K.In s.heap->(us++ds).length=ps.length->BindsTo s fd ⟨us,[]⟩ (ps.zip<|us++ds)
def Binds.all {K:Ag}{fd:BC}{ps:tG}(h:∀us:tH,us.length=ps.length->bindArgs fd ⟨us,[]⟩=pure (ps.zip us)):Binds K fd ps []:=λs us _ a=>by rw[Br]at a |-;exact .of_eq<|h us a
def Rg (CX:LQ)(X:Cx)(E:XK):Prop:=∀(pins:List (HC×Obj))(σ:St)(H:Hp)(s:Af)(e:HE)(s':Af),Inv X pins σ H s->CX X.stack H s E e s'->X.xe e s'
section
variable {X:Cx}{CX:LQ}{k:Nat}{f C:HC}{fd:BC}{ps:tG}{sp:Sp}{dvs:tW}{ds:tH}{E:XK}{x m:Str}{p pos apos:Pos}{e o:HS}{es:tN}{ta:TE}{t:TA}
theorem ZC {a:List (HC×Obj)}{σ:St}{H:Hp}{s:Af}{Q:VK}{us:tH}{vs:tW}(F:FnOk X.prog X.w X.K X.mg X.base CX k f fd ps sp)(g:Room k X.A)(l:Binds X.K fd ps ds)(d:Vals dvs ds)(i:Rg CX X E)
  (I:Inv X a σ H s)(r:Vals vs us)(h:sp (vs++dvs) H Q E):wpAny (model X.prog X.w) X.A (call (.ref f) us) (EP X a σ Q) X.xe s:=by
 have c:Vals (vs++dvs) (us++ds):=r.append d;have j:(us++ds).length=ps.length:=by rw[<- c.length];exact F.len _ _ _ _ h
 refine wpAny_call<|codeAny_mono (F.run X.A X.stack s H ⟨us,[]⟩ (us++ds) (vs++dvs) Q E g I.env0 (l s us I.kIn j) c h) λr m b=>?_;cases r with
 |error e=>exact i a σ H s e m I b
 |ok fl =>
  cases fl with|ret u=>exact I.after b|next=>exact C1 b|brk=>exact C1 b|cont=>exact C1 b
theorem zc (F:FnOk X.prog X.w X.K X.mg X.base CX k f fd ps sp)(d:Room k X.A)(j:Gl X x)(g:X.mg x=HA (.ref f))(n:Bw X.K (.ref f)=HG)(l:Binds X.K fd ps ds)(o:Vals dvs ds)(m:Rg CX X E)
  (i:PA X (e::es) t)(b:autoParam ((x == ("__debug__" : Str))=HH) uI)(he:autoParam (starEach (e::es) X.env=(HH,eval e X.env)::starEach es X.env) uG)(hpl:autoParam ((backTo pos<|starEach es X.env).any (·.1)=HH) uG) :
  PE X (.Call (.Name x p) (e::es) [] pos) (MB sp dvs E t):=by
 intro a s σ H Q I h;refine Cr<|oA I j g ?_ b;refine D7 (h₀:=X.base) I.ok.mod.kin n (Hy (i pos a s σ H _ I h) λ_ _ w55a'=>?_) he hpl;obtain⟨_,_,c,r,q⟩:=w55a';refine ⟨c.kIn,?_⟩;exact ZC F d l o m c r q
theorem JG {pl:Sem Bool}(J:PE X o ta)(c:Cls X.K C)(g:Meth X.K C m f)(F:FnOk X.prog X.w X.K X.mg X.base CX k f fd ps sp)(z:Room k X.A)(D:Binds X.K fd ps ds)(L:Vals dvs ds)(G:Rg CX X E)(B:PA X (e::es) t)
  (d:autoParam (starEach (e::es) X.env=(HH,eval e X.env)::starEach es X.env) uG)(hpl:autoParam ((backTo pos<|starEach es X.env).any (·.1)=HH) uG)
  (ht:autoParam (eval (.Call (.Attribute o m apos) (e::es) [] pos) X.env=(do
   let ov <- eval o X.env
   standAt apos.atName
   let (f,first) <- holding [ov] (getMethod ov m pl)
   callWith pos f first (backTo pos<|starEach (e::es) X.env) (backToKw pos<|keywordEach [] X.env))) uG) :
  PE X (.Call (.Attribute o m apos) (e::es) [] pos) (RI C m sp dvs E ta t):=by
 intro b s σ H Q I h;refine DP (pl:=pl) (Hy (J b s σ H _ I h) λu v j=>?_) ht;obtain⟨x,N,n,p,a,_,_,ex,y,l,q⟩:=j;subst ex;obtain rfl:u=Bk a:=p;refine qO n y c g l ?_;refine D7 (first:=[.ref a]) (h₀:=X.base) I.ok.mod.kin g.kp (Hy (B pos b v σ N _ n q) λus _ w54a'=>?_) d hpl;obtain⟨vs,_,i,r,M⟩:=w54a';refine ⟨i.kIn,?_⟩;exact ZC (us:=.ref a::us) (vs:=.ref a::vs) F z D L G i (.cons Z r) M
theorem Ml {pl:Sem Bool}(t:PE X o ta)(c:Cls X.K C)(e:Meth X.K C m f)(F:FnOk X.prog X.w X.K X.mg X.base CX k f fd ps sp)(n:Room k X.A)(p:Binds X.K fd ps ds)(v:Vals dvs ds)(r:Rg CX X E)
  (y:autoParam (eval (.Call (.Attribute o m apos) [] [] pos) X.env=(do
   let ov <- eval o X.env
   standAt apos.atName
   let (f,first) <- holding [ov] (getMethod ov m pl)
   callWith pos f first (backTo pos<|starEach [] X.env) (backToKw pos<|keywordEach [] X.env))) uG) :
  PE X (.Call (.Attribute o m apos) [] [] pos) (RI C m sp dvs E ta SR):=by
 intro d s σ H Q I h;refine DP (pl:=pl) (Hy (t d s σ H _ I h) λu _ g=>?_) y;obtain⟨x,_,b,i,a,_,_,ex,j,l,q⟩:=g;subst ex;obtain rfl:u=Bk a:=i;refine qO b j c e l ?_;exact PySem.W.callWith_K0 (first:=[.ref a]) b.kIn e.kp<|ZC (us:=[.ref a]) (vs:=[.ref a]) F n p v r b (.cons Z .nil) q
structure Mk (K:Ag)(C f:HC):Prop where
 makes:PySem.W.makesIn K C=HG
 init:Bf K (.ref C) "__init__"=HA (HA<|.ref f)
 fn:Ej K (.ref f)=HG
 kp:Bw K (.ref C)=HG
theorem MZ {b:List (HC×Obj)}{σ:St}{H:Hp}{s:Af}{Q:VK}{us:tH}{vs:tW}(M:Mk X.K C f)(F:FnOk X.prog X.w X.K X.mg X.base CX k f fd ps sp)(j:Room (k+1) X.A)(m:Binds X.K fd ps ds)(t:Vals dvs ds)
  (n:Rg CX X E)(I:Inv X b σ H s)(r:Vals vs us)
  (h:∀x dx,H x=HD->H dx=HD->dx≠x->sp (.ref x::(vs++dvs)) (upd (upd H dx<|.own x) x<|.ins C dx []) (λv i=>v=.non/\Q (.ref x) i) E) :
  wpAny (model X.prog X.w) X.A (call (.ref C) us) (EP X b σ Q) X.xe s:=by
 have d:=h (s.heap.objs.size+1) s.heap.objs.size (I.hok.fresh<|CA _) (I.hok.fresh<|Al _)<|AD<|BQ _;have c:=Inv.made (C:=C) I;have g:Vals (V.ref (s.heap.objs.size+1)::(vs++dvs)) (Bk (s.heap.objs.size+1)::(us++ds)):=.cons rfl (r.append t);have l:(Bk (s.heap.objs.size+1)::us++ds).length=ps.length:=by have e:=g.length;rw[F.len _ _ _ _ d]at e;exact e.symm
 refine wpAny_call (ND (f:=f) I.kIn M.makes M.init (HU.mp M.fn) (codeAny_mono (F.run _ X.stack _ _ ⟨Bk (s.heap.objs.size+1)::us,[]⟩ (Bk (s.heap.objs.size+1)::(us++ds)) _ _ E (j.make C us [])
  (c.env0.make C us []) (m _ (Bk (s.heap.objs.size+1)::us) c.kIn l) g d) λr q a=>?_))
 cases r with
 |error e=>exact n b σ _ _ e q c a
 |ok fl =>
  cases fl with
  |ret u =>obtain⟨v,H',o,rv,y,p⟩:=c.after a;subst y;exact⟨rv,HP (V.ref<|s.heap.objs.size+1) H' ⟨o,Z,p⟩⟩
  |next=>exact C1 a
  |brk=>exact C1 a
  |cont=>exact C1 a
theorem Rm (M:Mk X.K C f)(F:FnOk X.prog X.w X.K X.mg X.base CX k f fd ps sp)(d:Room (k+1) X.A)(j:Gl X x)(g:X.mg x=HA (.ref C))(l:Binds X.K fd ps ds)(n:Vals dvs ds)(m:Rg CX X E)
  (i:PA X (e::es) t)(b:autoParam ((x == ("__debug__" : Str))=HH) uI)(he:autoParam (starEach (e::es) X.env=(HH,eval e X.env)::starEach es X.env) uG)(hpl:autoParam ((backTo pos<|starEach es X.env).any (·.1)=HH) uG) :
  PE X (.Call (.Name x p) (e::es) [] pos) (WE C sp dvs E t):=by
 intro a s σ H Q I h;refine Cr<|oA I j g ?_ b;refine D7 (h₀:=X.base) I.ok.mod.kin M.kp (Hy (i pos a s σ H _ I h) λ_ _ w53a'=>?_) he hpl;obtain⟨_,_,c,r,q⟩:=w53a';refine ⟨c.kIn,?_⟩;exact MZ M F d l n m c r q
end
section
variable {X:Cx}{CX:LQ}{k:Nat}{f C:HC}{fd:BC}{ps ks:tG}{sp:Sp}{E:XK}{x m:Str}{p pos apos kpos:Pos}{e o:HS}{es:tN}{kws:List Keyword}{te ta:TE}{t tk:TA}{nm:Option Str}
variable {g:tH->tH->tH}{gV:tW->tW->tW}
end
structure FnScope (N P:tG)(sc:IS):Prop where
 kind:sc.kind=.function
 co:sc.isCoroutine=HH
 gen:sc.isGenerator=HH
 nd:N.Nodup
 pre:N.take P.length=P
 par:∀x∈P,sc.names.lookup x=HA .local\/sc.names.lookup x=HA .cell
 nofree:∀y∈sc.names,y.2 ≠ .free
theorem qpd {a:Str->Option Bz}{x:Str}:∀{binds:List (Str×HE)}{m:Str->tK},(∀v,(x,v)∉binds)->bindL a binds m x=m x
 | [],_,_=>rfl
 | (n,v)::r,m,h=>by
  unfold bindL;rw[qpd λw b=>h w<|A1 _ b];split
  .have:x≠n:=by rintro rfl;exact h v Am
   simp[this]
  .rfl
theorem qpe {a:Str->Option Bz}{x:Str}:∀{binds:List (Str×HE)}{m:Str->tK},(∀v,(x,v)∉binds)->bindC a binds m x=m x
 | [],_,_=>rfl
 | (n,v)::r,m,h=>by
  unfold bindC;rw[qpe λw b=>h w<|A1 _ b];split
  .rfl
  .have:x≠n:=by rintro rfl;exact h v Am
   simp[this]
theorem qpf {a:Str->Option Bz}{x:Str}{v:HE}:∀{P:tG}{vs:tH}{i:Nat}{m:Str->tK},P.Nodup->P[i]?=HA x->vs[i]?=HA v->a x=HA .local ->
  bindL a (P.zip vs) m x=HA v
 | [],_,_,_,_,h,_,_=>by simp at h
 |_::_,[],_,_,_,_,h,_=>by simp at h
 |p::P,w::vs,0,m,nd,h1,h2,hk=>by simp at h1 h2;subst h1;subst h2;show bindL a ((p,w)::P.zip vs) m p=_;unfold bindL;rw[qpd λv b=>(C2.mp nd).1 (List.of_mem_zip b).1,HI hk];simp
 |p::P,w::vs,i+1,m,nd,h1,h2,hk=>by show bindL a ((p,w)::P.zip vs) m x=_;unfold bindL;exact qpf (i:=i) (C2.mp nd).2 (by simpa using h1) (by simpa using h2) hk
theorem qpg {a:Str->Option Bz}{x:Str}{v:HE}:∀{P:tG}{vs:tH}{i:Nat}{m:Str->tK},P.Nodup->P[i]?=HA x->vs[i]?=HA v->a x≠HA .local ->
  bindC a (P.zip vs) m x=HA v
 | [],_,_,_,_,h,_,_=>by simp at h
 |_::_,[],_,_,_,_,h,_=>by simp at h
 |p::P,w::vs,0,m,nd,h1,h2,hk=>by simp at h1 h2;subst h1;subst h2;show bindC a ((p,w)::P.zip vs) m p=_;unfold bindC;rw[qpe λv b=>(C2.mp nd).1 (List.of_mem_zip b).1,HF hk];simp
 |p::P,w::vs,i+1,m,nd,h1,h2,hk=>by show bindC a ((p,w)::P.zip vs) m x=_;unfold bindC;exact qpg (i:=i) (C2.mp nd).2 (by simpa using h1) (by simpa using h2) hk
noncomputable def start (N:tG)(vs:tW):St:=vs.map HA++List.replicate (N.length-vs.length) HD
noncomputable def OR (CX:LQ)(P:AJ)(w:HQ)(K:Ag)(mg:Str->tK)(base:HX)(N:tG)(qual:Str)(scope:IS)(f:HC)(cd:HE)(A:AO)(outer:List Env)(s:Af)(H:Hp)(E:XK):Cx where
 prog:=P
 w:=w
 K:=K
 mg:=mg
 base:=base
 A:=A.deeper<|envOfC qual scope s.heap.objs.size f cd
 N:=N
 s₀:=s
 H₀:=H
 env:=envOfC qual scope s.heap.objs.size f cd
 outer:=outer
 stack:=envOfC qual scope s.heap.objs.size f cd::outer
 ex:=[]
 calm:=HG
 fn:=λ_=>HG
 pn:=[]
 xe:=λe s'=>wpAny (model P w) (A.deeper<|envOfC qual scope s.heap.objs.size f cd) (leaving (envOfC qual scope s.heap.objs.size f cd) e) (λ_ s''=>CX outer H s E e s'') (λe' s''=>CX outer H s E e' s'') s'
def qrp {a:IS}{n:Nat}{x:Str}(h:a.names.lookup x=HA .cell):∃c,(cellsFrom n a.names []).lookup x=HA c:=by have q:=PySem.W.cellsFrom_some a.names n []<|.inl h;exact BZ.mp q
theorem qxa {CX:LQ}{P:AJ}{w:HQ}{K:Ag}{mg:Str->tK}{base:HX}{N ps:tG}{j:Str}{scope:IS}{f:HC}{t:HE}{A:AO}{outer:List Env}{s F:Af}{H:Hp}{E:XK}{us:tH}{vs:tW}
  (S:FnScope N ps scope)(L:A.handled=HD)(g:Env0 P w K mg base A outer s H)(hl:vs.length=ps.length)(r:Vals vs us)
  (x:InCallC s s.heap.objs.size (bindL (envOfC j scope s.heap.objs.size f t).kindOf (ps.zip us) λ_=>HD) (cellsFrom (s.heap.objs.size+1) scope.names []) (bindC (envOfC j scope s.heap.objs.size f t).kindOf (ps.zip us) λ_=>HD) F) :
  Inv (OR CX P w K mg base N j scope f t A outer s H E) [] (start N vs) H F:=by
 have hpl:ps.length<=N.length:=by have:=HR DB S.pre;rw[Bp]at this;lia
 obtain⟨C,_,rfl,I⟩:=x.done;have m:∀b:HC,b∉(OR CX P w K mg base N j scope f t A outer s H E).ex:=λb z=>absurd (show b∈([]:tI) from z) (by simp);refine⟨⟨g.mod,S.kind,Z,Z,Al _,λy z c C d=>?_,λy l=>?_,λy c _ h=>?_,λ_=>L,AO.frames_deeper g.frames,.inr ⟨Z,Z⟩,λb z=>absurd z<|m b,g.bs,g.bsz,λb _ _=>m b,λb z=>absurd z<|m b,g.funs,g.frf⟩,
  rfl,g.bare,Un.kept I,⟨_,x.toInCall.ns,λi y v C d _=>?_⟩,λy c h=>⟨_,x.cell y c h⟩,g.hok.fresh<|Al _,λy c h=>?_,λp o=>absurd (show p∈([]:List (HC×Obj)) from o)<|by simp,g.hok.kept I,?_⟩
 .exact name_of_addr x.apart (Co C)<|Co d
 .have l:scope.names.lookup y=HA .cell\/scope.names.lookup y=HA .free:=l;rcases l with l|l
  .exact qrp l
  .exact absurd rfl (S.nofree _<|Co l)
 .exact Bt<|x.above y c<|Co h
 .have B:i<vs.length:=by
   unfold start at d
   by_cases B:i<vs.length
   .exact B
   .rw[AV (by simpa using B)]at d;rw[List.getElem?_replicate]at d;split at d <;>cases d
  have J:vs[i]?=HA v:=by
   unfold start at d;rw[AB (by simpa using B),Ai]at d;cases e:vs[i]? with|none=>rw[e]at d;cases d|some a=>rw[e]at d;cases d;rfl
  obtain⟨u,G,rv⟩:=r.get J
  have o:ps[i]?=HA y:=by rwa[<- S.pre,List.getElem?_take_of_lt<|sZ]
  have D:ps.Nodup:=by rw[<- S.pre];exact S.nd.sublist<|List.take_sublist _ _
  refine⟨u,rv,?_⟩
  rcases S.par y (Au o) with k|k
  .exact .inl ⟨k,qpf D o G k⟩
  .obtain⟨c,e⟩:=qrp (n:=s.heap.objs.size+1) k;refine .inr ⟨.inl k,c,e,?_⟩;have q:=x.cell y c e;rw[qpg D o G (by show scope.names.lookup y≠_;rw[k];decide)]at q;exact q
 .exact g.hok.fresh<|Bt<|x.above y c<|Co h
 .unfold start;show _=N.length;rw[Ae,Ab,List.length_replicate];lia
theorem Nm {CX:LQ}{P:AJ}{w:HQ}{K:Ag}{mg:Str->tK}{base:HX}{k:Nat}{f:HC}{j a:Str}{d:Arguments}{g:List HN}{scope:IS}{G kV z R c ct Y:HE}{U od:tQ}
  {L:tD}{N ps:tG}{sp:Sp}(lk:K.lookup f=HA ⟨Y,od,.func<|Bl j a d g scope G kV z R U c ct,L⟩)(T:BG K c a=HG)(S:FnScope N ps scope)
  (len:∀vs H Q E,sp vs H Q E->vs.length=ps.length)
  (m:∀(A:AO)(outer:List Env)(s:Af)(H:Hp)(vs:tW)(Q:VK)(E:XK),Room k (A.deeper<|envOfC a scope s.heap.objs.size f c)->sp vs H Q E ->
   ∃t,PSs (OR CX P w K mg base N a scope f c A outer s H E) g t/\t {nx:=λ_ H'=>Q .non H',rt:=Q} (start N vs) H) :
  FnOk P w K mg base CX (k+1) f (Bl j a d g scope G kV z R U c ct) ps sp:=by
 refine⟨len,λA outer s H _ us vs Q E C i hb r p=>?_⟩;have hl:=len _ _ _ _ p;have M:K.In s.heap:=i.mod.kin.keeps λb o e=>(i.bs b o e).1;have O:s.heap.NoLimit:=i.mod.nolimit.keeps λb o e=>(i.bs b o e).1;have l:∀y∈ps.zip us,scope.names.lookup y.1=HA .local\/(scope.names.lookup y.1=HA .cell/\((cellsFrom (s.heap.objs.size+1) scope.names []).lookup y.1).isSome=HG):=by
  rintro ⟨n,v⟩ hy
  rcases S.par n (List.of_mem_zip hy).1 with q|q
  .exact .inl q
  .exact .inr ⟨q,PySem.W.cellsFrom_some _ _ _<|.inl q⟩
 refine codeAny_call_function C.depth (M _ _ lk) rfl S.co S.gen rfl (PySem.W.codeRec_of M T) (hb _ _ _ _ ?_);refine wpAny_newFunctionEnv_cells S.kind l λ_ he F x=>?_;subst he;refine⟨O.keeps x.toInCall.keep,codeAny_func ?_⟩;obtain⟨t,X,hq⟩:=m A outer s H vs Q E (C.deeper _) p;have I:Inv (OR CX P w K mg base N a scope f c A outer s H E) [] (start N vs) H F:=qxa S C.hd i hl r x;refine Cd (X [] F (start N vs) H _ I hq) (λfl D h=>?_) λe D h=>h;have B:∀{σ':St}{H':Hp}{v:V}{u:HE},Inv (OR CX P w K mg base N a scope f c A outer s H E) [] σ' H' D->RelV v u->Q v H'->CE outer P w H s Q u D :=
  λ{σ' H' v u} J rv q=>(HP v H' ⟨J.os,J.bare,J.base,J.hok,rv,q⟩)
 cases fl with
 |ret u =>obtain⟨v,σ',H',J,rv,q⟩:=h;exact B J rv q
 |next =>obtain⟨σ',H',J,q⟩:=h;exact B (v:=V.non) (u:=CS) J rfl q
 |brk =>obtain⟨_,_,_,q⟩:=h;exact C1 q
 |cont =>obtain⟨_,_,_,q⟩:=h;exact C1 q
end L2
namespace L2
open PySem PySem.Spec PyProof.Rows
section
variable {X:Cx}{x:Str}{p pos:Pos}{e:HS}{es:tN}{t:TA}{id T:String}{r:tW->Hp->VK->Prop}
def tCB (r:tW->Hp->VK->Prop)(t:TA):TE:=λσ H Q=>t σ H λvs H1=>r vs H1 Q
def zd (b:Lm X (.builtin id) r)(i:Gl X x)(f:X.mg x=HD)(c:bootBuiltins x=HA (.builtin id))(g:PA X (e::es) t)(k:x ≠ "__name__" := by decide)(hdb:autoParam ((x == ("__debug__" : Str))=HH) uI)
  (he:autoParam (starEach (e::es) X.env=(HH,eval e X.env)::starEach es X.env) uG)(hpl:autoParam ((backTo pos<|starEach es X.env).any (·.1)=HH) uG):PE X (.Call (.Name x p) (e::es) [] pos) (tCB r t):=by
 intro a s σ H Q I h;refine Cr<|Rh I i f c ?_ k hdb;exact PyProof.Rows.callWith_builtin1 (Hy (g pos a s σ H _ I h)<|by intro us d w';obtain⟨vs,m,l,n,j⟩:=w';exact b a d σ m vs us Q l n j) he hpl
def T2 (b:Lm X (.type T) r)(i:Gl X x)(f:X.mg x=HD)(c:bootBuiltins x=HA (.type T))(g:PA X (e::es) t)(k:x ≠ "__name__" := by decide)(hdb:autoParam ((x == ("__debug__" : Str))=HH) uI)
  (he:autoParam (starEach (e::es) X.env=(HH,eval e X.env)::starEach es X.env) uG)(hpl:autoParam ((backTo pos<|starEach es X.env).any (·.1)=HH) uG):PE X (.Call (.Name x p) (e::es) [] pos) (tCB r t):=by
 intro a s σ H Q I h;refine Cr<|Rh I i f c ?_ k hdb;exact Ch (Hy (g pos a s σ H _ I h)<|by intro us d w';obtain⟨vs,m,l,n,j⟩:=w';exact b a d σ m vs us Q l n j) he hpl
end
end L2
namespace HT
open PySem PyProof.Rows
section
open PySem.SeqAt
open PySem.AutoSeq1 (wpAny_loadPart')
open PySem.MeetsSeq PySem.MeetsSeq2 PySem.MeetsSeq3
end
section
variable {prog:AJ}{w:HQ}{A:AO}{E:tR}{s:Af}
noncomputable def sIx (n d:Nat):tJ->Nat
 |none=>d
 |some v=>if v<0 then (v+(n:Int)).toNat else min v.toNat n
def sIx_none (n d:Nat):sIx n d HD=d:=rfl
end
end HT
namespace L2
open PySem PySem.Spec PyProof.Rows
abbrev TO:=St->Hp->(tJ->Hp->Prop)->Prop
def PO (X:Cx)(e:Option HS)(t:TO):Prop :=
 ∀(pins:List (HC×Obj))(s:Af)(σ:St)(H:Hp)(Q:tJ->Hp->Prop),Inv X pins σ H s->t σ H Q ->
  wpAny (model X.prog X.w) X.A (evalPart e X.env) (λu s'=>∃o H',Inv X pins σ H' s'/\IsPart u o/\Q o H') X.xe s
def Ow:TO:=λ_ H Q=>Q HD H
def WC (t:TE):TO:=λσ H Q=>t σ H λx H1=>∃i,x=.int i/\Q (HA i) H1
section
variable {X:Cx}{e:HS}{te:TE}{lo hi:Option HS}{tl th:TO}{pos p2:Pos}
def XI:PO X HD Ow:=by intro _ s σ H Q I h;rw[evalPart_none];exact Bi<|HP HD H ⟨I,.none,h⟩
def Vf (h:PE X e te):PO X (HA e) (WC te):=by intro a s σ H Q I f;rw[evalPart_some];refine Hy (h a s σ H _ I f) λu _ b=>?_;obtain⟨x,g,d,j,c⟩:=b;obtain⟨i,rfl,q⟩:=c;obtain⟨t,rfl⟩:=j;exact⟨HA i,g,d,.int i t,q⟩
def SlR (X:Cx)(r:V->tJ->tJ->Hp->VK->Prop):Prop :=
 ∀(pins:List (HC×Obj))(s:Af)(σ:St)(H:Hp)(x:V)(v vl vu:HE)(lo hi:tJ)(sl:HC)(Q:VK),Inv X pins σ H s->RelV x v->s.heap.IsSliceOf sl vl vu .none->IsPart vl lo->IsPart vu hi->r x lo hi H Q ->
  ∃T id,typeLookup (.type T) "__getitem__"=pure (HA<|.builtin id)/\s.TypeIs v T/\wpAny (model X.prog X.w) X.A (getItem v<|.ref sl) (EP X pins σ Q) X.xe s
def tSl (r:V->tJ->tJ->Hp->VK->Prop)(te:TE)(tl th:TO):TE:=λσ H Q=>te σ H λx H1=>tl σ H1 λl H2=>th σ H2 λu H3=>r x l u H3 Q
def Xa {r:V->tJ->tJ->Hp->VK->Prop}(p:SlR X r)(E:PE X e te)(B:PO X lo tl)(t:PO X hi th):PE X (.Subscript e (.Slice lo hi HD p2) pos) (tSl r te tl th):=by intro a s σ H Q I h;refine Subscript_<|Hy (E a s σ H _ I h) λv j d=>?_;obtain⟨x,M,K,N,D⟩:=d;refine wpAny_Slice<|Hy (B a j σ M _ K D) λg z w50a'=>?_;obtain⟨l,m,F,pl,L⟩:=w50a';refine Hy (t a z σ m _ F L) λf c d=>?_;obtain⟨u,i,G,o,J⟩:=d;rw[evalPart_none];refine Bi ?_;have C:Inv X a σ i {c with heap:=c.heap.push {cls:=.type "slice",data:=.fields #[g,f,.none]} }:=G.kept (t':=c.toks) λb _ q=>Aw _ q;obtain⟨T,_,k,n,y⟩:=p a {c with heap:=c.heap.push {cls:=.type "slice",data:=.fields #[g,f,.none]} } σ i x v g f l u c.heap.objs.size Q C N (Heap.IsSliceOf.new ..) pl o J;show wpAny (model X.prog X.w) X.A (subscriptTail e (.Slice lo hi HD p2) v<|.ref c.heap.objs.size) (EP X a σ Q) X.xe {c with heap:=c.heap.push {cls:=.type "slice",data:=.fields #[g,f,.none]} };exact tail_any (ops:=[.ref c.heap.objs.size,v]) n k y (by with_unfolding_all rfl)
def LC (xs:tW)(lo hi:tJ):tW:=(xs.drop<|HT.sIx xs.length 0 lo).take<|HT.sIx xs.length xs.length hi-HT.sIx xs.length 0 lo
def qrq (xs:tW)(lo a:tJ):(LC xs lo a).length<=xs.length:=by unfold LC;rw[Bp,Cg];lia
end
end L2
namespace L2
open PySem PySem.Spec PyProof.Rows
section
variable {α:Type}{n j:Nat}{i:Int}
noncomputable def NX (n:Nat)(i:Int):tM:=if 0<=i then (if i<n then HA i.toNat else HD) else if -(n:Int)<=i then HA (i+n).toNat else HD
def JN (xs:List α)(i:Int):Option α:=(NX xs.length i).bind λj=>xs[j]?
theorem qvc (h:NX n i=HA j):seqIndex? i n=HA j/\j<n /\ -(n:Int)<=i/\i<n:=by
 unfold NX at h;by_cases b:0<=i
 .rw[HI b]at h;by_cases a:i<n
  .rw[HI a]at h;have e:i.toNat=j:=A8 h;exact⟨by rw[seqIndex_of b a,e],sZ,sZ,a⟩
  .rw[HF a]at h;cases h
 .rw[HF b]at h;by_cases a : -(n:Int)<=i
  .rw[HI a]at h;have e:(i+n).toNat=j:=A8 h;exact⟨by rw[seqIndex_neg sZ a,e],sZ,a,sZ⟩
  .rw[HF a]at h;cases h
theorem mu {xs:List α}{v:α}(h:JN xs i=HA v):∃j,seqIndex? i xs.length=HA j/\xs[j]?=HA v/\j<xs.length /\ -(xs.length:Int)<=i/\i<xs.length:=by
 unfold JN at h;cases e:NX xs.length i with
 |none=>rw[e]at h;cases h
 |some j =>rw[e]at h;obtain⟨d,b,c,a⟩:=qvc e;exact⟨j,d,h,b,c,a⟩
theorem Jz {xs:List α}{v:α}(h:xs[j]?=HA v):JN xs (j:Int)=HA v:=by
 have hj:j<xs.length:=(Ac.mp h).1;have e:NX xs.length (j:Int)=HA j:=by unfold NX;rw[HI<|sZ,HI<|sZ];simp
 unfold JN;rwa[e]
theorem T1 (xs:List α)(v:α):JN (xs++[v]) (-1)=HA v:=by
 have a:(xs++[v]).length=xs.length+1:=by simp
 have e:NX (xs++[v]).length (-1)=HA xs.length:=by
  unfold NX;rw[a,HF Ud,HI<|sZ]
  congr 1
  lia
 unfold JN;rw[e];show (xs++[v])[xs.length]?=HA v;simp
def qvd (b:HS):Prop:=∀o i,subscripted b HH o i=operate [o,i] (getItem o i)
def SB (X:Cx)(r:R2):Prop :=
 ∀(value slice:HS)(pins:List (HC×Obj))(s:Af)(σ:St)(H:Hp)(x y:V)(v u:HE)(Q:VK),Inv X pins σ H s->RelV x v->RelV y u->r x y H Q ->
  subscripted slice HH v u=operate [v,u] (getItem v u)->wpAny (model X.prog X.w) X.A (subscriptTail value slice v u) (EP X pins σ Q) X.xe s
def eR (X:Cx)(id:String)(r:V->tW->Hp->VK->Prop):Prop :=
 ∀(pins:List (HC×Obj))(s:Af)(σ:St)(H:Hp)(x:V)(xs:tW)(v:HE)(us:tH)(Q:VK),Inv X pins σ H s->RelV x v->Vals xs us->r x xs H Q ->
  wpAny (model X.prog X.w) X.A (call (.builtin id)<|v::us) (EP X pins σ Q) X.xe s
end
section
variable {X:Cx}{a b:HS}{ta tb:TE}{pos:Pos}
section
variable {σ:St}{H:Hp}{s:Af}{p:HC}{xs:tW}{y x:V}{u v:HE}
theorem zp {r:R2}(f:SB X r)(g:PE X a ta)(j:PE X b tb)(l:qvd b):PE X (.Subscript a b pos) (VF r ta tb):=by intro c s σ H Q I h;exact Subscript_<|U6 g j I h λv u i x y m k d e q=>f a b c i σ m x y v u Q k d e q<|l _ _
def TN (K:Ag):R2:=λx y H Q=>∃p xs i v,x=.ref p/\y=.int i/\SqL K H p xs/\JN xs i=HA v/\Q v H
def TM (K:Ag):R2:=λx y H Q=>∃p xs i v,x=.ref p/\y=.int i/\SqT K H p xs/\JN xs i=HA v/\Q v H
def jB:R2:=λx y H Q=>∃z i c,x=.str z/\y=.int i/\z.length<=A4/\JN z.cps.toList i=HA c/\Q (.str ⟨#[c]⟩) H
theorem zr:SB X (TN X.K):=by
 intro _ _ a s σ H x y v u Q I l m h f;obtain⟨p,_,i,z,rfl,rfl,B,C,q⟩:=h;cases l;obtain⟨t,rfl⟩:=m;obtain⟨its,r,pl,_⟩:=I.list B;obtain⟨j,b,n,_,A,E⟩:=mu C;obtain⟨w,g,e⟩:=r.get n;have o:=r.length;have hn:=Vb;have c:EP X a σ Q w s:=HP z H ⟨I,e,q⟩;by_cases k:0<=i
 .have d:i.toNat=j:=by
   rw[seqIndex_of k E]at b
   exact A8 b
  exact item_listR pl.isList k sZ (by rw[d];simpa using g) c f
 .have d:(i+(its.toArray.size:Int)).toNat=j:=by
   rw[seqIndex_neg sZ A]at b
   rw[Ah,<- o]
   exact A8 b
  exact subscriptTail_builtinR (x:=w) pl.isList.typeIs Ev.lookup
   (wpAny_getItem_list_neg (Q:=λr D=>r=w/\EP X a σ Q r D) pl.isList sZ (by rw[Ah] <;>lia) sZ (by rw[d];simpa using g) ⟨Z,c⟩) f
theorem zq:SB X (TM X.K):=by
 intro _ _ a s σ H x y v u Q I d e h o;obtain⟨p,_,i,z,rfl,rfl,k,l,q⟩:=h;cases d;obtain⟨t,rfl⟩:=e;obtain⟨_,r,pl,_⟩:=I.tuple k;obtain⟨j,m,f,_,_,_⟩:=mu l;obtain⟨w,A,b⟩:=r.get f;have g:=r.length;have hn:=Vb;have c:EP X a σ Q w s:=HP z H ⟨I,b,q⟩;exact subscriptTail_builtinR (x:=w) pl.typeIs slot_tuple_getitem.lookup
  (getItem_tuple (j:=j) (Q:=λr n=>r=w/\EP X a σ Q r n) pl sZ sZ (by rwa[Ah,<- g]) (by simpa using A) ⟨Z,c⟩) o
theorem Ue:SB X jB:=by
 intro _ _ _ s σ H x y v u Q I b d h o;obtain⟨z,i,c,rfl,rfl,_,m,q⟩:=h;obtain⟨t,rfl⟩:=b;obtain⟨_,rfl⟩:=d;obtain⟨j,a,e,_,g,n⟩:=mu m;have f:z.cps.toList.length=z.length:=by simp[Str.length]
 rw[f]at a g n;have hn:=Vb;exact tail_any (typeIs_str s z t) slot_str_getitem.lookup (getItem_str (c:=c) (by have l:decide (i < -(2 ^ 63:Int))=HH:=HM sZ;have k:decide (i ≥ 2 ^ 63)=HH:=HM sZ;rw[l,k,Ca]) (by rw[a];simpa using e)<|HP (.str ⟨#[c]⟩) H ⟨I.tok _,⟨_,Z⟩,q⟩) o
theorem qty (its:tH)(n j:Nat)(u:HE):BE (·.setIfInBounds j u) {cls:=.type "list",data:=.seq its.toArray n}={cls:=.type "list",data:=.seq (its.set j u).toArray n}:=by simp[BE]
theorem Inv.lst {a:List (HC×Obj)}(I:Inv X a σ H s)(h:H p=HA (.lst xs)) :
  ∃(its:tH)(n:Nat),Vals xs its/\s.heap.get? p=HA {cls:=.type "list",data:=.seq its.toArray n}/\xs.length<=A4:=by
 obtain⟨z,its,n,r,e⟩:=I.hok p _ h;exact HP its n ⟨r,e,z⟩
theorem Inv.lstUpd {a:List (HC×Obj)}{ys:tW}{its its':tH}{n c:Nat}{f:Obj->Obj}(I:Inv X a σ H s)(h:H p=HA (.lst xs))
  (g:s.heap.get? p=HA {cls:=.type "list",data:=.seq its.toArray n})(hf:f {cls:=.type "list",data:=.seq its.toArray n}={cls:=.type "list",data:=.seq its'.toArray c})(r:Vals ys its')(hz:ys.length<=A4)(t:Nat) :
  Inv X a σ (upd H p<|.lst ys) {s with heap:=s.heap.update p f,toks:=t}:=by
 have e:(s.heap.update p f).get? p=HA {cls:=.type "list",data:=.seq its'.toArray c}:=by rw[Heap.get?_update_self f g (by rw[hf] <;>rfl),hf]
 refine I.write (x:=p) (e:=p) (by rw[h];trivial) (.inl Z) (λb u d q=>(DJ _ _<|By d).trans q) ⟨_,e⟩ ?_;exact⟨hz,its',c,r,e⟩
def Wi:V->V->V->Hp->(Hp->Prop)->Prop:=λo i v H Q=>∃p xs k j,o=.ref p/\i=.int k/\H p=HA (.lst xs)/\NX xs.length k=HA j/\Q (upd H p<|.lst<|xs.set j v)
theorem qrr:Yd X Wi:=by
 intro e s σ H o i v _ _ u Q I x z rv h;obtain⟨p,xs,k,j,rfl,rfl,l,y,q⟩:=h;cases x;obtain⟨t,rfl⟩:=z;obtain⟨its,n,r,c,hz⟩:=I.lst l;obtain⟨a,_,m,g⟩:=qvc y;have b:=r.length;have hn:=Vb;have f:Inv X e σ (upd H p<|.lst<|xs.set j v) {s with heap:=s.heap.update p<|BE (·.setIfInBounds j u)} :=
  I.lstUpd l c (qty its n j u) (r.set rv j) (by rwa[Ed]) s.toks
 by_cases w:0<=k
 .have d:k.toNat=j:=by
   rw[seqIndex_of w g]at a
   exact A8 a
  exact PySem.W.ki_setAt c w sZ (by rwa[Ah,<- b]) (by rw[d];exact⟨_,f,q⟩)
 .have d:(k+(its.toArray.size:Int)).toNat=j:=by
   rw[seqIndex_neg sZ m]at a
   rw[Ah,<- b]
   exact A8 a
  exact PySem.W.ki_setBack c sZ (by rwa[Ah,<- b]) sZ (by rw[d];exact⟨_,f,q⟩)
theorem qqh (lo a:tJ)(n:Nat):(sliceBounds lo a HD n).1=((HT.sIx n 0 lo:Nat):Int)/\(sliceBounds lo a HD n).2.1=((HT.sIx n n a:Nat):Int)/\(sliceBounds lo a HD n).2.2=1:=by
 refine⟨?_,?_,Z⟩
 .cases lo with
  |none=>simp[sliceBounds,HT.sIx]
  |some i =>
   simp only[sliceBounds,HT.sIx,Option.getD_none,show (1:Int) > 0 by decide,if_true];by_cases h:i<0
   .simp only[h,if_true] <;>lia
   .simp only[h,if_false] <;>lia
 .cases a with
  |none=>simp[sliceBounds,HT.sIx]
  |some i =>
   simp only[sliceBounds,HT.sIx,Option.getD_none,show (1:Int) > 0 by decide,if_true];by_cases h:i<0
   .simp only[h,if_true] <;>lia
   .simp only[h,if_false] <;>lia
theorem qov (its:tH)(lo a:tJ):slicePick its.toArray lo a HD=((its.drop<|HT.sIx its.length 0 lo).take<|HT.sIx its.length its.length a-HT.sIx its.length 0 lo).toArray:=by obtain⟨d,b,c⟩:=qqh lo a its.toArray.size;unfold slicePick;rw[d,b,c];simp only[sliceRange_one,pick_run,Ah] <;>rfl
def ia (K:Ag):V->tJ->tJ->Hp->VK->Prop:=λx lo hi H Q=>∃a xs,x=.ref a/\SqL K H a xs/\∀p,H p=HD->Q (.ref p) (upd H p<|.lst<|LC xs lo hi)
theorem XM:SlR X (ia X.K):=by intro _ s σ H x v _ _ lo d _ Q I f j pl g h;obtain⟨a,xs,rfl,i,q⟩:=h;cases f;obtain⟨_,r,e,hz⟩:=I.list i;have c:=r.length;refine HP ("list") _ ⟨Ev.lookup,e.isList.typeIs,?_⟩;refine wpAny_getItem_list_slice e.isList j pl g .none (by simp) ?_ (by rw[Ah] <;>lia);rw[qov,<- c];refine HP (.ref s.heap.objs.size) _ ⟨I.laid (t':=s.toks) (o:=.lst<|LC xs lo d) (λb _ q=>Aw _ q) (Al _) ?_,Z,q _<|I.hok.fresh<|Al _⟩;exact⟨Az (qrq xs lo d) hz,_,0,(r.drop<|HT.sIx xs.length 0 lo).take<|HT.sIx xs.length xs.length d-HT.sIx xs.length 0 lo,AX _ Z⟩
noncomputable def Jj:V->Bool
 |.non=>HG
 |.bl _=>HG
 |.int _=>HG
 |.str _=>HG
 |_=>HH
noncomputable def K3:V->V->Bool
 |.non,.non=>HG
 |.bl a,.bl b=>a == b
 |.bl a,.int b=>(if a then 1 else 0) == b
 |.int a,.bl b=>a == (if b then 1 else 0)
 |.int a,.int b=>a == b
 |.str a,.str b=>a == b
 |_,_=>HH
theorem ZA {A:AO}(d:RelV y u)(c:RelV x v)(fy:Jj y=HG)(e:Jj x=HG):AY A s u v (K3 y x):=by
 cases y with
 |non =>
  cases d;cases x with
  |non=>cases c;exact AY.same _
  |bl b=>cases c;exact AY.none_bool b
  |int b=>obtain⟨t,rfl⟩:=c;exact AY.none_int b t
  |str b=>obtain⟨t,rfl⟩:=c;exact AY.none_str b t
  |_=>exact absurd (show HH=HG from e) AF
 |bl a =>
  cases d;cases x with
  |non=>cases c;exact AY.bool_none a
  |bl b=>cases c;exact AY.bool_bool a b
  |int b=>obtain⟨t,rfl⟩:=c;exact AY.bool_int a b t
  |str b=>obtain⟨t,rfl⟩:=c;exact AY.bool_str a b t
  |_=>exact absurd (show HH=HG from e) AF
 |int a =>
  obtain⟨t',rfl⟩:=d;cases x with
  |non=>cases c;exact AY.int_none a t'
  |bl b=>cases c;exact AY.int_bool a t' b
  |int b=>obtain⟨t,rfl⟩:=c;exact AY.int_int a t' b t
  |str b=>obtain⟨t,rfl⟩:=c;exact AY.int_str a t' b t
  |_=>exact absurd (show HH=HG from e) AF
 |str a =>
  obtain⟨t',rfl⟩:=d;cases x with
  |non=>cases c;exact AY.str_none a t'
  |bl b=>cases c;exact AY.str_bool a t' b
  |int b=>obtain⟨t,rfl⟩:=c;exact AY.str_int a t' b t
  |str b=>obtain⟨t,rfl⟩:=c;exact AY.str_str a t' b t
  |_=>exact absurd (show HH=HG from e) AF
 |_=>exact absurd (show HH=HG from fy) AF
def LN (x:V)(u:HE):Bool:=match u with
 |.none=>K3 .non x
 |.bool b=>K3 (.bl b) x
 |.int i _=>K3 (.int i) x
 |.str z _=>K3 (.str z) x
 |_=>HH
theorem Nu (r:RelV y u)(f:Jj y=HG):LN x u=K3 y x:=by
 cases y with
 |non=>cases r;rfl
 |bl b=>cases r;rfl
 |int i=>obtain⟨t,rfl⟩:=r;rfl
 |str z=>obtain⟨t,rfl⟩:=r;rfl
 |_=>exact absurd (show HH=HG from f) AF
theorem XJ {x:V}:∀{xs:tW}{us:tH},Vals xs us->xs.all Jj=HG->us.any (LN x)=xs.any λy=>K3 y x
 |_,_,.nil,_=>rfl
 |y::xs,u::us,.cons r t,f=>by rw[DW,B7]at f;rw[CU,CU,Nu r f.1,XJ t f.2]
theorem XZ {A:AO}{s:Af}{x:V}{v:HE}(b:RelV x v)(c:Jj x=HG):∀{xs:tW}{us:tH},Vals xs us->xs.all Jj=HG->∀u∈us,AY A s u v (LN x u)
 |_,_,.nil,_=>λu a=>by cases a
 |y::xs,u::us,.cons r t,f=>λu' a=>by
  rw[DW,B7]at f;rcases Ax.mp a with rfl|a
  .rw[Nu r f.1];exact ZA r b f.1 c
  .exact XZ b c t f.2 u' a
def Ko (x:V)(xs:tW):Bool:=xs.any λy=>K3 y x
def rIn (K:Ag)(neg:Bool):R2:=λx y H Q=>∃p xs,y=.ref p/\(SqL K H p xs\/SqT K H p xs)/\Jj x=HG/\xs.all Jj=HG/\Q (.bl (if neg then !Ko x xs else Ko x xs)) H
theorem Oe:JH X (compareOp .In) (rIn X.K HH):=by
 intro _ s σ H x y v u Q I c e h;obtain⟨p,_,rfl,a,d,fs,q⟩:=h;cases e;rcases a with a|a
 .obtain⟨its,r,pl,hz⟩:=I.list a;refine SeqAt.in_listAt (LN x) pl.isList (λw b=>XZ c d r fs w (by simpa using b))<|HP (.bl _) H ⟨I,Z,?_⟩;rwa[show its.toArray.any (LN x)=its.any (LN x) by simp,XJ r fs]
 .obtain⟨its,r,pl,hz⟩:=I.tuple a;refine SeqAt.in_tupleAt (LN x) pl (λw b=>XZ c d r fs w (by simpa using b))<|HP (.bl _) H ⟨I,Z,?_⟩;rwa[show its.toArray.any (LN x)=its.any (LN x) by simp,XJ r fs]
theorem qj2:JH X (compareOp .NotIn) (rIn X.K HG):=by
 intro _ s σ H x y v u Q I c e h;obtain⟨p,_,rfl,a,d,fs,q⟩:=h;cases e;rcases a with a|a
 .obtain⟨its,r,pl,hz⟩:=I.list a;refine SeqAt.notIn_listAt (LN x) pl.isList (λw b=>XZ c d r fs w (by simpa using b))<|HP (.bl _) H ⟨I,Z,?_⟩;rwa[show its.toArray.any (LN x)=its.any (LN x) by simp,XJ r fs]
 .obtain⟨its,r,pl,hz⟩:=I.tuple a;refine SeqAt.notIn_tupleAt (LN x) pl (λw b=>XZ c d r fs w (by simpa using b))<|HP (.bl _) H ⟨I,Z,?_⟩;rwa[show its.toArray.any (LN x)=its.any (LN x) by simp,XJ r fs]
theorem cW:Lm X (.type "list") (λxs H Q=>∃p ys,xs=[.ref p]/\(SqL X.K H p ys\/SqT X.K H p ys)/\∀l,H l=HD->Q (.ref l) (upd H l<|.lst ys)):=by
 intro m s σ H xs _ Q I r h;obtain⟨p,ys,rfl,d,q⟩:=h;obtain⟨u,rfl,t⟩:=RX r;cases t;have f:∀(its:tH),Vals ys its->ys.length<=A4->∀(h':HX)(c:Nat),(∀b o',s.heap.get? b=HA o'->h'.get? b=HA o') ->
   h'.get? s.heap.objs.size=HA {cls:=.type "list",dict:=HD,data:=.seq its.toArray c,slots:=#[]}->EP X m σ Q (.ref s.heap.objs.size) {s with heap:=h'}:=λits a hz h' c kp e =>
  (HP (.ref s.heap.objs.size) _ ⟨I.laid (t':=s.toks) kp (Al _) (show ObjOk X.prog X.w _ h' _ (.lst ys) from ⟨hz,its,c,a,e⟩),Z,q _<|I.hok.fresh<|Al _⟩)
 rcases d with d|d
 .obtain⟨its,a,pl,hz⟩:=I.list d;have j:=a.length;obtain⟨o,i,g,n,k⟩:=pl.isList;exact call_list_seq p (.inl Z) i g k (λh' c kp e=>f its a hz h' c kp e) (by simp only[Ah] <;>lia)
 .obtain⟨its,a,pl,hz⟩:=I.tuple d;have j:=a.length;obtain⟨o,i,g,n,k⟩:=pl;exact call_list_seq p (.inr Z) i g k (λh' c kp e=>f its a hz h' c kp e) (by simp only[Ah] <;>lia)
def ew (K:Ag)(T:String)(x:V)(H:Hp):Prop:=match x with
 |.str _=>T = "str"
 |.int _=>T = "int"
 |.ref p=>(T = "list" /\ ∃xs,SqL K H p xs)\/(T = "tuple" /\ ∃o,K.lookup p=HA o/\o.cls=.type "tuple" /\ o.dict=HD) \/
   (T = "dict" /\ ((∃kvs,H p=HA (.dK kvs)) \/ ∃kvs,H p=HA (.dT kvs)))\/(T = "set" /\ ∃S n,H p=HA (.set S n))
 |_=>False
theorem L4 {g:List (HC×Obj)}{T:String}(I:Inv X g σ H s)(r:RelV x v)(ty:ew X.K T x H) :
  s.TypeIs v T/\∀a,v=.ref a->∃ob,s.heap.get? a=HA ob/\ob.dict=HD:=by
 cases x with
 |str z =>obtain⟨t,rfl⟩:=r;cases (show T = "str" from ty);exact⟨typeIs_str s z t,sh⟩
 |int i =>obtain⟨t,rfl⟩:=r;cases (show T = "int" from ty);exact⟨typeIs_int s i t,sh⟩
 |ref p =>
  cases r;rcases ty with ⟨rfl,xs,j⟩|⟨rfl,o,b,h,f⟩|⟨rfl,b⟩|⟨rfl,S,n,b⟩
  .obtain⟨its,_,pl,_⟩:=I.list j;refine⟨pl.isList.typeIs,λa e=>?_⟩;cases e;obtain⟨o,n,e,c,f,_⟩:=pl;exact⟨o,e,f⟩
  .refine⟨⟨o,I.kIn p o b,h⟩,λa e=>?_⟩;cases e;exact⟨o,I.kIn _ o b,f⟩
  .have z:∃o,s.heap.get? p=HA o/\o.ExactDict:=by
    rcases b with ⟨kvs,b⟩|⟨kvs,b⟩
    .obtain⟨_,_,_,_,o,_,_,e,ex,_⟩:=I.hok p _ b;exact⟨o,e,ex⟩
    .obtain⟨_,_,_,_,o,_,_,e,ex,_⟩:=I.hok p _ b;exact⟨o,e,ex⟩
   obtain⟨o,e,ex⟩:=z
   refine⟨⟨o,e,ex.1⟩,λa d=>?_⟩
   cases d
   exact⟨o,e,ex.2.1⟩
  .obtain⟨o,_,_,_,e,ex,_⟩:=I.hok p _ b;refine⟨⟨o,e,ex.1⟩,λa d=>?_⟩;cases d;exact⟨o,e,ex.2.1⟩
 |_=>exact C1 ty
def iA (K:Ag)(T:String)(r:V->tW->Hp->VK->Prop)(to:TE):TE:=λσ H Q=>to σ H λx H1=>ew K T x H1/\r x [] H1 Q
def tBM (K:Ag)(T:String)(r:V->tW->Hp->VK->Prop)(to:TE)(t:TA):TE:=λσ H Q=>to σ H λx H1=>ew K T x H1/\t σ H1 λxs H2=>r x xs H2 Q
end
variable {o e:HS}{es:tN}{to:TE}{t:TA}{name:Str}{apos cpos:Pos}{T id:String}{r:V->tW->Hp->VK->Prop}
theorem Mp (j:PlainAttrs T)(c:Slot T name id)(d:typeOf (.builtin id)=pure (.type "method_descriptor"))(l:eR X id r)(n:PE X o to)
  (b:autoParam (attributeBase o name X.env (eval o X.env)=eval o X.env) uG)(hline:autoParam ((apos.endLine == cpos.line)=HG) uG):PE X (.Call (.Attribute o name apos) [] [] cpos) (iA X.K T r to):=by
 intro a s σ H Q I h;refine wpAny_Call_method0_late b hline<|Hy (n a s σ H _ I h) λv i e=>?_;obtain⟨x,q,f,g,ty,m⟩:=e;obtain⟨p,k⟩:=L4 f g ty;exact⟨T,id,j,c,d,p,k,Dc Z<|PySem.evalArgs_none<|l a i σ q x [] v [] Q f g .nil m⟩
theorem Jo (p:PlainAttrs T)(d:Slot T name id)(g:typeOf (.builtin id)=pure (.type "method_descriptor"))(u:eR X id r)(A:PE X o to)(w:PA X (e::es) t)
  (c:autoParam (attributeBase o name X.env (eval o X.env)=eval o X.env) uG)
  (hfew:autoParam (((backTo cpos<|starEach (e::es) X.env).all (λx=>!x.1) && (backToKw cpos<|keywordEach [] X.env).all (λx=>x.1.isSome)
   && decide ((e::es).length+([]:List Keyword).length+(if ([]:List Keyword).isEmpty then 0 else 1)<30))=HG) uG)
  (hline:autoParam ((apos.endLine == cpos.line)=HG) uG)(hs:autoParam (starEach (e::es) X.env=(HH,eval e X.env)::starEach es X.env) uG)(hplain:autoParam ((backTo cpos<|starEach es X.env).any (·.1)=HH) uG) :
  PE X (.Call (.Attribute o name apos) (e::es) [] cpos) (tBM X.K T r to t):=by
 intro b s σ H Q I h;refine wpAny_Call_method_late c hfew hline rfl (Hy (A b s σ H _ I h) λv l i=>?_);obtain⟨x,E,j,k,ty,z⟩:=i;obtain⟨B,q⟩:=L4 j k ty;refine⟨T,id,p,d,g,B,q,?_⟩;have f:=w cpos b l σ E _ j z;rw[hs]at f |-;refine Dc (by show (HH || (backTo cpos<|starEach es X.env).any (·.1))=HH;rw[hplain] <;>rfl)<|DZ ?_;exact Hy f<|by intro us y w';obtain⟨vs,n,C,F,D⟩:=w';exact u b y σ n x vs v us Q C k F D
/- xs.append(e),list.index on a module's tuple .. are eR facts of 06m -/
end
end L2
namespace L2
open PySem PySem.Spec PyProof.Rows
section
variable {x y:V}{us:tH}{xs:tW}
def Vy (X:Cx)(id:String)(r:V->tW->Hp->VK->Prop):Prop :=
 ∀(pins:List (HC×Obj))(s:Af)(σ:St)(H:Hp)(x:V)(xs:tW)(v:HE)(us:tH)(Q:VK),Inv X pins σ H s->RelV x v->Vals xs us->r x xs H Q ->
  wpAny (model X.prog X.w) X.A (call (.builtin id)<|v::us) (EP X pins σ Q) X.xe s
theorem Vals.one (h:Vals [x] us):∃u,us=[u]/\RelV x u:=by cases h with|cons r t=>cases t;exact⟨_,Z,r⟩
theorem Vals.two (h:Vals [x,y] us):∃u v,us=[u,v]/\RelV x u/\RelV y v:=by cases h with|cons r t=>cases t with|cons q t=>cases t;exact⟨_,_,Z,r,q⟩
theorem Vals.zero:∀{us:tH},Vals [] us->us=[]
 |_,.nil=>rfl
theorem Vals.dropLast (h:Vals xs us):Vals xs.dropLast us.dropLast:=by
 induction h with
 |nil=>exact .nil
 |cons r t ih =>
  cases t with|nil=>exact .nil|cons q t'=>exact .cons r ih
theorem Vals.reverse (h:Vals xs us):Vals xs.reverse us.reverse:=by
 induction h with
 |nil=>exact .nil
 |cons r t ih=>rw[Dk,Dk];exact Vals.append ih<|.cons r .nil
theorem qtz {α:Type}(l:List α):l.eraseIdx (l.length-1)=l.dropLast:=by
 induction l with
 |nil=>rfl
 |cons a r ih =>
  cases r with
  |nil=>rfl
  |cons b r =>
   have e:(a::b::r).length-1=((b::r).length-1)+1:=by have h1:(a::b::r).length=r.length+2:=rfl;have h2:(b::r).length=r.length+1:=rfl;lia
   rw[e,List.eraseIdx_cons_succ,ih];all_goals rfl
end
section
variable {X:Cx}{pins:List (HC×Obj)}{σ:St}{H:Hp}{s:Af}{l b:HC}{xs ys zs:tW}
theorem Inv.lset {its its':tH}{n:Nat}{f:tO->tO}{t':Nat}(I:Inv X pins σ H s)(b:H l=HA (.lst xs))
  (e:s.heap.get? l=HA {cls:=.type "list",data:=.seq its.toArray n})(hf:f its.toArray=its'.toArray)(hv:Vals ys its')(hz:ys.length<=A4) :
  Inv X pins σ (upd H l<|.lst ys) {s with heap:=s.heap.update l<|BE f,toks:=t'}:=by
 have q:=PySem.IsL.update e f;rw[hf]at q;refine I.write (x:=l) (e:=l) (by rw[b];exact trivial) (.inl Z) (λ_ u c a=>(DJ s.heap (BE f)<|By c).trans a) ⟨_,q⟩ ?_;exact⟨hz,its',_,hv,q⟩
theorem Inv.lnew {its:tH}{t':Nat}(I:Inv X pins σ H s)(a:Vals ys its)(hz:ys.length<=A4) :
  Inv X pins σ (upd H s.heap.objs.size<|.lst ys) {s with heap:=s.heap.push {cls:=.type "list",data:=.seq its.toArray},toks:=t'} :=
 I.laid (λ_ _ q=>Aw _ q) (Al _) ⟨hz,its,0,a,AX _ Z⟩
def Inv.fresh (I:Inv X pins σ H s):H s.heap.objs.size=HD:=I.hok.fresh<|Al _
def Inv.lstM (I:Inv X pins σ H s)(a:H l=HA (.lst xs)):xs.length<=A4/\∃(its:tH)(n:Nat),Vals xs its/\xs.length=its.length/\s.heap.get? l=HA {cls:=.type "list",data:=.seq its.toArray n}:=by obtain⟨z,its,n,r,e⟩:=I.hok l _ a;exact⟨z,its,n,r,r.length,e⟩
def oW {n:Nat}(h:n<=A4):BJ.List.listTooLong n=HH:=by unfold BJ.List.listTooLong;exact HM sZ
end
section
variable {X:Cx}
def PX:V->tW->Hp->VK->Prop:=λx vs H Q=>∃l xs y,x=.ref l/\vs=[y]/\H l=HA (.lst xs)/\xs.length<A4/\Q .non (upd H l<|.lst<|xs++[y])
def KF:Vy X "list.append" PX:=by intro _ s σ H x _ v _ Q I b rv h;obtain⟨l,_,y,rfl,rfl,a,_,q⟩:=h;cases b;obtain⟨u,rfl,c⟩:=rv.one;obtain⟨z,its,n,r,_,e⟩:=I.lstM a;refine DS F.slot_list_append ⟨_,e,Z⟩ F.entry_list_append (F.args_list_append_2 _ _) (PySem.list_append l its.toArray n u (by rw[Ah];lia)) ⟨e,?_⟩;refine(HP .non _ ⟨I.lset (its':=its++[u]) a e (by simp) (r.append<|.cons c .nil) ?_,Z,q⟩);rw[Ae,AG];lia
def PU:V->tW->Hp->VK->Prop:=λx vs H Q=>∃l b xs zs,x=.ref l/\vs=[.ref b]/\H l=HA (.lst xs)/\H b=HA (.lst zs)/\xs.length+zs.length<=A4/\Q .non (upd H l<|.lst<|xs++zs)
def qph:Vy X "list.extend" PU:=by
 intro _ s σ H x _ v _ Q I f rv h;obtain⟨l,b,_,_,rfl,rfl,d,g,_,q⟩:=h;cases f;obtain⟨u,rfl,i⟩:=rv.one;cases i;obtain⟨z,its,n,r,_,e⟩:=I.lstM d;obtain⟨_,a,k,m,_,j⟩:=I.lstM g;have hsz:its.toArray.size+a.toArray.size<=A4:=by rw[Ah,Ah];lia
 have c:¬(!its.toArray.isEmpty && BJ.List.listTooLong (its.toArray.size+a.toArray.size))=HG:=by rw[oW hsz,BI];exact AF
 refine DS F.slot_list_extend ⟨_,e,Z⟩ F.entry_list_extend (F.args_list_extend_2 _ _)
  (AutoSeq1.list_extend_list_list_0 l its.toArray n b a.toArray k c (by rw[Ah];lia)<|sZ) ⟨e,j,?_⟩
 refine(HP .non _ ⟨I.lset (its':=its++a) d e (by simp) (r.append m) ?_,Z,q⟩);rw[Ae];lia
def i0:V->tW->Hp->VK->Prop:=λx vs H Q=>∃l xs y,x=.ref l/\vs=[]/\H l=HA (.lst xs)/\xs[xs.length-1]?=HA y/\Q y (upd H l<|.lst xs.dropLast)
def UN:Vy X "list.pop" i0:=by
 intro _ s σ H x _ v _ Q I d rv h;obtain⟨l,_,y,rfl,rfl,b,j,q⟩:=h;cases d;have a:=rv.zero;subst a;obtain⟨z,its,n,r,g,e⟩:=I.lstM b;obtain⟨u,f,i⟩:=r.get j;have c:its.toArray[its.toArray.size-1]?=HA u:=by show its.toArray[its.length-1]?=HA u;rwa[<- DQ,<- g]
 refine DS F.slot_list_pop ⟨_,e,Z⟩ F.entry_list_pop (F.args_list_pop_1 _) (MeetsSeq.list_pop_last l its.toArray n u c (by rw[Ah];lia)) ⟨e,?_⟩;refine HP y _ ⟨I.lset (its':=its.dropLast) b e ?_ r.dropLast ?_,i,q⟩
 .show its.toArray.eraseIdxIfInBounds (its.toArray.size-1)=its.dropLast.toArray;rw[Ah,List.eraseIdxIfInBounds_toArray,qtz]
 .rw[CN];lia
def Mb:V->tW->Hp->VK->Prop:=λx vs H Q=>∃l xs,x=.ref l/\vs=[]/\H l=HA (.lst xs)/\Q .non (upd H l<|.lst xs.reverse)
def qt0:Vy X "list.reverse" Mb:=by intro _ s σ H x _ v _ Q I c rv h;obtain⟨l,_,rfl,rfl,b,q⟩:=h;cases c;have a:=rv.zero;subst a;obtain⟨z,its,n,r,_,e⟩:=I.lstM b;refine DS F.slot_list_reverse ⟨_,e,Z⟩ F.entry_list_reverse (F.args_list_reverse_1 _) (AutoSeq1.list_reverse_list_0 l its.toArray n (by rw[Ah];lia)) ⟨e,?_⟩;refine(HP .non _ ⟨I.lset (its':=its.reverse) b e (by simp) r.reverse ?_,Z,q⟩);rw[B3];lia
def jD:R2:=λx y H Q=>∃l b xs zs,x=.ref l/\y=.ref b/\H l=HA (.lst xs)/\H b=HA (.lst zs)/\xs.length+zs.length<=A4/\∀p,H p=HD->Q (.ref p) (upd H p<|.lst<|xs++zs)
def Lo:JH X (binaryOp .Add) jD:=by
 intro _ s σ H x y v u Q I c d h;obtain⟨l,b,_,_,rfl,rfl,i,f,_,q⟩:=h;cases c;cases d;obtain⟨z,its,n,r,_,e⟩:=I.lstM i;obtain⟨_,a,_,k,_,j⟩:=I.lstM f;refine PySem.P.add_list e j ?_ (by rw[Ah,Ah];lia);have g:its.toArray++a.toArray=(its++a).toArray:=by simp
 rw[g];exact(HP (.ref _) _ ⟨I.lnew (t':=s.toks) (r.append k) (by rw[Ae];lia),Z,q _ I.fresh⟩)
end
section
variable {prog:AJ}{w:HQ}{A:AO}{E:tR}{s:Af}
end
section
variable {X:Cx}
end
end L2
namespace Att
open PySem PySem.W PySem.Calls PyProof.Rows
theorem qmg {P:Params}{h:HX}:∀(c:tL)(vs:tH),WellAll P h vs (c.map WData.int)->IntsAre vs c:=by
 intro c
 induction c with
 |nil =>intro vs w;rw[List.map_nil]at w;cases w;exact .nil
 |cons n c ih =>
  intro vs w;rw[AW]at w;cases w with|cons a b =>cases a;exact .cons _ _<|ih _ b
theorem qxb {l:OpenLaw}{n:Nat}(t:l.most=HA n){P:Params}{h:HX}{args:List WData}{c:tH}
  (e:l.row.toRowW.claim.pre args=HG)(m:WellAll P h c args) :
  ∃a vs b,c=[Bk a]/\args=[WData.list<|b.map WData.int]/\h.get? a=HA {cls:=.type "list",data:=.seq vs.toArray}/\IntsAre vs b/\b.length<=n:=by
 have k:WShape.hasAll [] args [.list .int]=HG:=(pre_splitW e).1;have j:l.pre.holds [] {args:=args}=HG:=(pre_splitW e).2;obtain⟨d,r,rfl,s,o⟩:=hasAllW_cons k;obtain rfl:=hasAllW_nil o;obtain⟨_,rfl,u⟩:=hasW_list s;obtain⟨b,rfl⟩:=items_int u;have i:b.length<=n:=by
  unfold OpenLaw.pre at j;have f:(WTm.not<|.lt (.lit<|.int (n:Int))<|.len<|.arg 0).holds [] {args:=[.list<|b.map .int]}=HG:=by have f:=(holds_andW j).1;rwa[t]at f
  have g:=condW_of f<|w_not<|w_lt w_lit<|w_len_list<|w_arg Z;rw[Ab]at g;refine Nat.le_of_not_lt λq=>?_;have p:(n:Int)<((b.length:Nat):Int):=by lia
  first
   | (rw[HJ p]at g;exact absurd g Ud)
   | (simp at g;lia)
 cases m with
 |cons w1 w2 =>
  cases w2;cases w1 with|list ho hall=>exact HW _ _ b ⟨Z,Z,ho,qmg b _ hall,i⟩
def qxc (l:OpenLaw)(args:List WData):l.row.toRowW.claim.post args (.bool HG) args=HG :=
 postW_of (r:=l.row.toRowW) (X:=HG == HG)
  (show WShape.has [] (.bool HG) .bool=HG by first|rfl|decide|simp[WShape.has,WShape.arms,WShape.armsAll])
  (show (WTm.eq .res<|.lit<|.bool HG).value [] {args:=args,res:=HA<|.bool HG,after:=args}=HA (.bool<|HG == HG) from w_eq_bool (w_res Z) w_lit) rfl
theorem attach_call {l:OpenLaw}{n:Nat}{q:AJ}{c:tG}{C:(Str->tK)->HX->Prop}{A:HQ->HX->Prop}{d:DefRec}
  (N:l.most=HA n)(z:d.params.defaults=[])
  (call:∀(w:HQ)(s b:Af)(mg v:Str->tK)(g:HC)(o:Obj)(u h e:HE)(a:HC)(vs:tH)(i:tL),
   Ground q c [] C w s mg v b.heap->A w b.heap ->
   b.heap.get? g=HA o->o.data=.func (docDef d.name d.params d.body d.scope u h e)->b.heap.CodeRec h d.name->mg d.name=HA (.ref g) ->
   b.heap.get? a=HA {cls:=.type "list",data:=.seq vs.toArray}->IntsAre vs i->i.length<=n->b.gens=#[] ->
   codeAny (model l.prog w) callerA (.call (.ref g) ⟨[.ref a],[]⟩) (λr k=>r=.ok (.ret<|.bool HG)/\OldK b.heap k.heap/\k.os=b.os/\AllBare k.gens) b) :
  WalkO q c C A l.row.toRowW d [] (λf vs=>PySem.call f vs):=by
 intro w s b mg v G Y g o u h e H kV L O B x D I _ _ _ p _ _ y _;obtain rfl:H=.none:=Dflts.none x z;obtain rfl:kV=.none:=Dflts.noKw x;obtain⟨a,vs,i,rfl,rfl,m,j,t⟩:=qxb N p y;refine enter_call<|codeAny_mono (call w s b mg v g o u h e a vs i G Y L (fd_plain O) B D m j t I) λr k K=>?_;obtain⟨rfl,E,M,J⟩:=K;exact⟨.inl (HW (.bool HG) (.bool HG) [] ⟨Z,λ_=>rfl,.bool HG,qxc l _,λ_=>⟨Ew,sh⟩⟩),E,M,J⟩
section
variable {prog:AJ}{w:HQ}{A:AO}{E:tR}{s:Af}{K:Frag}
noncomputable def rP (h:HX)(L d:HC):List (HC×Obj):=(An h.objs.size).filterMap λa=>if a=L\/a=d then HD else (h.get? a).map λo=>(a,o)
end
end Att
namespace L2
open PySem PySem.Spec PyProof.Rows
theorem qpi:∀{vs:tH}{a:tL},IntsAre vs a->Vals (a.map V.int) vs
 |_,_,.nil=>.nil
 |_,_,.cons n t h=>.cons ⟨t,Z⟩<|qpi h
end L2
namespace L2
open PySem PySem.Spec PyProof.Rows
abbrev KOf {K:Ag}{h:HX}(_:K.In h):Ag:=K
end L2
/- THE LAST THEOREM (shape;LID,My.* are yours):
   My.Adr: a structure of the addresses that your layer names (classes,functions);My.Txt K t: a structure Prop of the equations over K;
   My.txt_mk:{K} {implicit addresses ..} (e1:nsIn K A7 "law"=HA (HA<|.ref f)) (e2:K.lookup f=HA ⟨oc,od,.func<|fnOf "law" "law" params body scope dV kV doc pm an cdv ct,sl⟩) (e3:codeIn K cdv "law"=HG) .. : ∃t,My.Txt K t
set_option maxRecDepth 100000 in
set_option maxHeartbeats 0 in
theorem PySem.Challenge.cw_LID_holds : PySem.Challenge.rw_LID.Holds:=by
 w_on;o_law;k_head;(case hw=>w_witness2)
 k_fill
 refine L2.walk_of (l:=PySem.Challenge.rw_LID) (n:=63) (k:=40) (x := "script") (CX:=λw=>..) (sp:=λ_=>My.sp_law) rfl Ud rfl ⟨Z,Ud,Ud⟩ (λw h Y=>PySem.W.kIn_of Y) ?F ?S ?C
 case F =>
  intro w mg g h d G e;have T:∃t,My.Txt (L2.KOf d) t:=by
   dsimp only[L2.KOf]                          -- K must stand as «<heap const> w.params» for k_is;refine' My.txt_mk ?e1 ?e2 ?e3 ..
   (case e1=>PySem.W.k_is)                    -- in the order: a name->its address->its object->its parts
   (case e2=>PySem.W.k_is)
   ..
  obtain⟨t,T⟩:=T;have f:=e.symm.trans<|Be d G T.law;cases f                                       -- g is the law's own address;exact⟨_,λs u=>.of_eq Z,λbase kb c=>My.law_fn T kb c⟩     -- if «.of_eq rfl» comes too early: refine' ⟨_,?b,λbase kb c=>My.law_fn T kb c⟩;exact λs u=>.of_eq rfl
 case S=>exact λw H a ns hl hO hS=>..
 case C=>exact ..
(the tactic k_is has no namespace: write k_is) -/
namespace L2
open PySem PySem.Spec PyProof.Rows
noncomputable def JE (s:HN)(j:Nat):HN:=match s with
 |.ClassDef _ _ _ body _ _ _ _ _ _ _=>body.getD j (.Pass ⟨0,0,0,0⟩)
 |_=>.Pass ⟨0,0,0,0⟩
noncomputable def KO (s:HN):Arguments:=match s with
 |.FunctionDef _ a _ _ _ _ _ _ _ _=>a
 |_=>{posonlyargs:=[],args:=[],vararg:=HD,kwonlyargs:=[],kw_defaults:=[],kwarg:=HD,defaults:=[]}
noncomputable def Jv (s:HN):List HN:=match s with
 |.FunctionDef _ _ b _ _ _ _ _ _ _=>b
 |_=>[]
noncomputable def Iy (s:HN):IS:=match s with
 |.FunctionDef _ _ _ _ _ _ sc _ _ _=>sc
 |_=>{kind:=.function,names:=[],isGenerator:=HH,isCoroutine:=HH}
abbrev Hw:LQ:=λ_ _ _ _ _ _=>False
abbrev E0:XK:=λ_ _ _=>False
def IT {X:Cx}:Rg Hw X E0:=λ_ _ _ _ _ _ _ h=>h.elim
structure Fun (K:Ag)(x qual:Str)(st:HN)(f:HC)(fd:BC):Prop where
 ex:∃(oc:HE)(od:tQ)(kV doc pm:HE)(an:tQ)(cdv ct:HE)(osl:tD),
  fd=Bl x qual (KO st) (Jv st) (Iy st) .none kV doc pm an cdv ct/\K.lookup f=HA ⟨oc,od,.func fd,osl⟩/\BG K cdv qual=HG
 kp:Bw K (.ref f)=HG
section
variable {P:AJ}{w:HQ}{K:Ag}{mg:Str->tK}{base:HX}
section
variable {x a b:Str}{st:HN}{f:HC}{fd:BC}{i d g:HE}
theorem Fun.ok {N ps:tG}{k:Nat}{sp:Sp}(F:Fun K x a st f fd)(S:FnScope N ps (Iy st))(len:∀vs H Q E,sp vs H Q E->vs.length=ps.length)
  (c:∀(b:HE)(A:AO)(outer:List Env)(s:Af)(H:Hp)(vs:tW)(Q:VK)(E:XK),Room k (A.deeper<|envOfC a (Iy st) s.heap.objs.size f b)->sp vs H Q E ->
   ∃t,PSs (OR Hw P w K mg base N a (Iy st) f b A outer s H E).nox (Jv st) t/\t {nx:=λ_ H'=>Q .non H',rt:=Q} (start N vs) H):FnOk P w K mg base Hw (k+1) f fd ps sp:=by
 obtain⟨_,_,_,_,_,_,b,_,_,rfl,i,e⟩:=F.ex
 refine Nm i e S len λA outer s H vs Q E g d=>?_
 obtain⟨t,h,q⟩:=c b A outer s H vs Q E g d
 exact⟨t,h.nox,q⟩
theorem Fun.binds {ps:tG}(F:Fun K x b st f fd)
  (h:∀(kV a d:HE)(e:tQ)(c ct:HE)(us:tH),us.length=ps.length->bindArgs (Bl x b (KO st) (Jv st) (Iy st) .none kV a d e c ct) ⟨us,[]⟩=pure (ps.zip us)):Binds K fd ps []:=by
 obtain⟨_,_,kV,a,d,e,c,ct,_,rfl,_,_⟩:=F.ex;exact .all<|h kV a d e c ct
theorem Y1 {j h:tQ}{e:tD}{kV b ct:HE}(l:K.lookup f=HA ⟨i,j,.func<|Bl x a (KO st) (Jv st) (Iy st) .none kV d g h b ct,e⟩)
  (c:BG K b a=HG)(k:Bw K (.ref f)=HG):Fun K x a st f (Bl x a (KO st) (Jv st) (Iy st) .none kV d g h b ct):=⟨Ic i j kV d g h b ct ⟨e,Z,l,c⟩,k⟩
end
end
def Ji {A:AO}{k:Nat}(a:Room k A):A.units+1<cLine:=CF (Nat.add_le_add_left (by decide:1<=64) _) a.units
def qpj {n:Nat}(h:n<=1000):n<A4:=CF h Ud
section
variable {X:Cx}
def pv (i:Nat){x:Str}{pos:Pos}(a:autoParam (X.N[i]?=HA x) uG)(hv:autoParam (Q9 X.env.scope x) uN._auto_1)(hd:autoParam ((x == ("__debug__" : Str))=HH) uI)
  (hcd:autoParam ((x == ("__classdict__" : Str))=HH) uI):PE X (.Name x pos) (Wm i):=T9 a hv hd hcd
end
def Ia {A B:Prop}(h:B):if HH=HG then A else B:=by rwa[HF AF]
def Ii {A B:Prop}(h:A):if HG=HG then A else B:=by rwa[HI Z]
def IK {c A B:Prop}[Decidable c](b:c->A)(a:¬c->B):if c then A else B:=by
 by_cases h:c
 .rw[HI h];exact b h
 .rw[HF h];exact a h
def YJ {c A B:Prop}[Decidable c](a:c)(h:B):if (!decide c)=HG then A else B:=by rw[HJ a];exact Ia h
def Same (H H':Hp):Prop:=∀b o,H b=HA o->H' b=HA o
def Same.refl (H:Hp):Same H H:=λ_ _ h=>h
def Same.trans {H d e:Hp}(a:Same H d)(b:Same d e):Same H e:=λc o h=>b c o<|a c o h
def Same.free {H H':Hp}(e:Same H H'){l:HC}(h:H' l=Option.none):H l=Option.none:=by
 cases q:H l with|none=>rfl|some o =>rw[e l o q]at h;cases h
def Same.seq {K:Ag}{H H':Hp}{a:HC}{xs:tW}(e:Same H H')(h:SqL K H a xs):SqL K H' a xs:=by
 rcases h with (h|⟨o,h⟩)|h
 .exact .inl<|.inl<|e _ _ h
 .exact .inl<|.inr ⟨o,e _ _ h⟩
 .exact .inr h
end L2
namespace L2
open PySem PySem.Spec PyProof.Rows
section
variable {κ:Type}[DecidableEq κ]
noncomputable def Ih (kvs:List (κ×V))(k:κ):tX:=(kvs.find? λkv=>decide (kv.1=k)).map (·.2)
noncomputable def JT (kvs:List (κ×V))(k:κ)(v:V):List (κ×V) :=
 if (kvs.any λkv=>decide (kv.1=k))=HG then kvs.map (λkv=>if kv.1=k then (kv.1,v) else kv) else kvs++[(k,v)]
def Ls {p:κ×V}{r:List (κ×V)}{k:κ}(e:p.1=k):Ih (p::r) k=HA p.2:=by simp[Ih,C3,e]
def Ld {p:κ×V}{r:List (κ×V)}{k:κ}(e:¬p.1=k):Ih (p::r) k=Ih r k:=by simp[Ih,C3,e]
theorem Vn (k:κ):∀kvs:List (κ×V),(kvs.any λa=>decide (a.1=k))=(Ih kvs k).isSome
 | []=>rfl
 |p::r=>by
  rw[CU];by_cases e:p.1=k
  .simp only[Ls e,HJ e,Bool.true_or,Option.isSome_some]
  .rw[Ld e,HM e,Dx];exact Vn k r
theorem qrs (k j:κ)(y:V):∀kvs:List (κ×V),Ih (kvs.map λa=>if a.1=k then (a.1,y) else a) j=(Ih kvs j).map λx=>if j=k then y else x
 | []=>rfl
 |p::r=>by
  have b:=qrs k j y r;rw[AW];by_cases h:p.1=k
  .rw[HI h];by_cases e:p.1=j
   .rw[Ls (p:=(p.1,y)) e,Ls e,D5,HI<|e.symm.trans h]
   .rw[Ld (p:=(p.1,y)) e,Ld e,b]
  .rw[HF h];by_cases e:p.1=j
   .rw[Ls (p:=p) e,Ls e,D5,HF<|λz=>h<|e.trans z]
   .rw[Ld (p:=p) e,Ld e,b]
theorem qpk (k j:κ)(y:V):∀kvs:List (κ×V),Ih kvs k=HD->Ih (kvs++[(k,y)]) j=if j=k then HA y else Ih kvs j
 | [],_=>by
  by_cases e:k=j
  .rw[HI e.symm];exact Ls (p:=(k,y)) e
  .rw[HF<|λz=>e z.symm];exact Ld (p:=(k,y)) e
 |p::r,hn=>by
  rw[List.cons_append];have a:¬p.1=k:=λz=>by rw[Ls z]at hn;cases hn
  rw[Ld a]at hn;have b:=qpk k j y r hn;by_cases e:p.1=j
  .rw[Ls e,Ls e,HF<|λz=>a<|e.trans z]
  .rw[Ld e,Ld e,b]
def XY (kvs:List (κ×V))(k j:κ)(y:V):Ih (JT kvs k y) j=if j=k then HA y else Ih kvs j:=by
 unfold JT;by_cases a:(kvs.any λc=>decide (c.1=k))=HG
 .rw[HI a,qrs];rw[Vn]at a;by_cases e:j=k
  .obtain⟨x,b⟩:=BZ.mp a;rw[HI e,e,b,D5,HI Z]
  .rw[HF e];cases Ih kvs j with|none=>rfl|some x=>rw[D5,HF e]
 .rw[HF a];refine qpk k j y kvs ?_;rw[Vn]at a;cases q:Ih kvs k with|none=>rfl|some x=>rw[q]at a;exact(a Z).elim
def T5 (kvs:List (κ×V))(k:κ)(v:V):(JT kvs k v).length<=kvs.length+1:=by
 unfold JT;split
 .rw[Ab];lia
 .rw[Ae,AA,Ee];lia
def XX {kvs:List (κ×V)}{k:κ}(v:V)(h:Ih kvs k=HD):JT kvs k v=kvs++[(k,v)]:=by unfold JT;rw[Vn,h];exact HF Ud
theorem RelO.isSome_eq {o:tX}{u:tK}(r:RelO o u):o.isSome=u.isSome:=by
 cases o with
 |none=>cases u with
  |none=>rfl
  |some _=>exact(show False from r).elim
 |some _=>cases u with
  |none=>exact(show False from r).elim
  |some _=>rfl
theorem RelO.getD {o:tX}{u:tK}{d:V}{d':HE}(r:RelO o u)(rd:RelV d d'):RelV (o.getD d) (u.getD d'):=by
 cases o with
 |none=>cases u with
  |none=>exact rd
  |some _=>exact(show False from r).elim
 |some _=>cases u with
  |none=>exact(show False from r).elim
  |some _=>exact r
theorem KV.val {kvs:List (κ×V)}{vs:List (κ×HE)}(r:KV kvs vs)(k:κ):RelO (Ih kvs k) (valueAt vs k):=by
 unfold KV at r
 induction r with
 |nil=>exact Cj
 | @cons p q ps qs h t ih =>
  obtain⟨c,d⟩:=h;by_cases e:p.1=k
  .have a:q.1=k:=c.symm.trans e;have b:valueAt (q::qs) k=HA q.2:=by simp[valueAt,C3,a]
   rwa[Ls e,b]
  .have a:¬q.1=k:=λz=>e<|c.trans z;have b:valueAt (q::qs) k=valueAt qs k:=by simp[valueAt,C3,a]
   rwa[Ld e,b]
theorem KV.any {kvs:List (κ×V)}{vs:List (κ×HE)}(r:KV kvs vs)(k:κ):(kvs.any λa=>decide (a.1=k))=vs.any λa=>decide (a.1=k):=by
 unfold KV at r
 induction r with
 |nil=>rfl
 |cons h t ih=>rw[CU,CU,ih,h.1]
theorem KV.repl {kvs:List (κ×V)}{vs:List (κ×HE)}(r:KV kvs vs)(k:κ){y:V}{u:HE}(c:RelV y u) :
  KV (kvs.map λa=>if a.1=k then (a.1,y) else a) (vs.map λa=>if a.1=k then (a.1,u) else a):=by
 unfold KV at r |-
 induction r with
 |nil=>exact .nil
 | @cons p q ps qs h t ih =>
  rw[AW,AW];refine .cons ?_ ih;obtain⟨b,d⟩:=h;by_cases e:p.1=k
  .rw[HI e,HI<|b.symm.trans e];exact⟨b,c⟩
  .rw[HF e,HF<|λz=>e<|b.trans z];exact⟨b,d⟩
def KV.put {kvs:List (κ×V)}{vs:List (κ×HE)}(r:KV kvs vs)(k:κ){y:V}{u:HE}(a:RelV y u):KV (JT kvs k y) (stored vs k u):=by
 unfold JT stored;rw[r.any k];by_cases e:(vs.any λb=>decide (b.1=k))=HG
 .rw[HI e,HI e];exact r.repl k a
 .rw[HF e,HF e];exact Dw.snoc r ⟨Z,a⟩
theorem KV.keys {kvs:List (κ×V)}{vs:List (κ×HE)}(r:KV kvs vs):kvs.map (·.1)=vs.map (·.1):=by
 unfold KV at r
 induction r with
 |nil=>rfl
 |cons h t ih=>rw[AW,AW,ih,h.1]
def KV.length {kvs:List (κ×V)}{vs:List (κ×HE)}(r:KV kvs vs):kvs.length=vs.length:=Dw.length r
end
section
variable {u:HE}{H H':Hp}{kvs:List (List IC×V)}{xs:List (List IC×HC×HE)}{y:V}
theorem TZ {P:AJ}{w:HQ}{k:IC}(r:RelV (kV k) u):(Jl P w).is k u=HG:=by
 cases k with
 |inl i=>obtain⟨t,e⟩:=(show ∃t,u=Dg i t from r);subst e;exact qrj P w i t
 |inr x=>obtain⟨t,e⟩:=(show ∃t,u=Dm x t from r);subst e;exact qrk P w x t
theorem qpl {P:AJ}{w:HQ}:∀{ks:List IC}{us:tH},Vals (ks.map kV) us->ItemsAre (Jl P w) ks us
 | [],_,r=>by rw[List.map_nil]at r;cases r;exact .nil
 |k::ks,_,r=>by
  rw[AW]at r;cases r with|cons h t=>exact .cons (TZ h)<|qpl t
abbrev KT (H:Hp):List (List IC×V)->List (List IC×HC×HE)->Prop:=Dw λp q=>p.1=q.1/\H q.2.1=HA (.tup<|p.1.map kV)/\RelV p.2 q.2.2
theorem KT.val (r:KT H kvs xs)(k:List IC):RelO (Ih kvs k) ((atKey xs k).map (·.2)):=by
 induction r with
 |nil=>exact Cj
 | @cons p q ps qs h t ih =>
  obtain⟨c,_,d⟩:=h;by_cases e:p.1=k
  .have a:q.1=k:=c.symm.trans e;have b:atKey (q::qs) k=HA q.2:=by simp[atKey,C3,a]
   rwa[Ls e,b]
  .have a:¬q.1=k:=λz=>e<|c.trans z;have b:atKey (q::qs) k=atKey qs k:=by simp[atKey,C3,a]
   rwa[Ld e,b]
theorem KT.repl (r:KT H kvs xs)(k:List IC)(d:RelV y u) :
  KT H (kvs.map λb=>if b.1=k then (b.1,y) else b) (xs.map<|putAt k u):=by
 induction r with
 |nil=>exact .nil
 | @cons p q ps qs h t ih =>
  rw[AW,AW];refine .cons ?_ ih;obtain⟨a,c,f⟩:=h;unfold putAt;by_cases e:p.1=k
  .rw[HI e,HI<|a.symm.trans e];exact⟨a,c,d⟩
  .rw[HF e,HF<|λz=>e<|a.trans z];exact⟨a,c,f⟩
theorem KT.put (r:KT H kvs xs)(k:List IC){b:HC}(d:H b=HA (.tup<|k.map kV))(a:RelV y u) :
  KT H (JT kvs k y) (storedH xs k b u):=by
 have e:(kvs.any λc=>decide (c.1=k))=(atKey xs k).isSome:=by rw[Vn,(r.val k).isSome_eq,Ex]
 unfold JT storedH;rw[e];by_cases q:(atKey xs k).isSome=HG
 .rw[HI q,HI q];exact r.repl k a
 .rw[HF q,HF q];exact Dw.snoc r ⟨Z,d,a⟩
theorem KT.keeps (r:KT H kvs xs)(a:∀b ys,H b=HA (.tup ys)->H' b=HA (.tup ys)):KT H' kvs xs :=
 Dw.mapP r λ_ _ z=>⟨z.1,a _ _ z.2.1,z.2.2⟩
end
section
variable {P:AJ}{w:HQ}{H:Hp}{h:HX}{a:HC}
def RM {u:HO}(ok:HOk P w H h)(e:Rd H a u):ObjOk P w H h a u:=e.ok ok
def Lk {kvs:List (IC×V)}(ok:HOk P w H h)(e:Rd H a (.dK kvs)):kvs.length<=A4/\(a == sysModules)=HH/\∃vs,KV kvs vs/\h.DictOf (Jl P w) a vs :=
 show ObjOk P w H h a (.dK kvs) from RM ok e
def N1 {kvs:List (IC×V)}(ok:HOk P w H h)(e:H a=HA (.dK kvs)):kvs.length<=A4/\(a == sysModules)=HH/\∃vs,KV kvs vs/\h.DictOf (Jl P w) a vs:=Lk ok<|.inl e
def Tj {ks:List IC}(ok:HOk P w H h)(e:H a=HA (.tup<|ks.map kV)):(tupleKind<|Jl P w).is h ks a:=by obtain⟨_,its,r,o,d,b,n,c⟩:=(show ObjOk P w H h a (.tup<|ks.map kV) from ok a _ e);exact(HW o its.toArray n ⟨d,b,c,by simpa using qpl r⟩)
theorem Rb {kvs:List (List IC×V)}(ok:HOk P w H h)(e:Rd H a (.dT kvs)):kvs.length<=A4/\(a == sysModules)=HH /\
  ∃xs,KT H kvs xs/\h.DictOfH (tupleKind<|Jl P w) a xs:=by
 obtain⟨z,y,xs,r,o,es,ep,i,c,f,d,g⟩:=(show ObjOk P w H h a (.dT kvs) from RM ok e);refine⟨z,y,xs,r,o,es,ep,i,c,f,d,λx b=>?_,g⟩;have all:∀{l:List (List IC×V)}{m:List (List IC×HC×HE)},KT H l m->∀x∈m,(tupleKind<|Jl P w).is h x.1 x.2.1:=by
  intro l m q
  induction q with
  |nil=>intro x b;exact nomatch b
  | @cons p q ps qs hq t ih =>
   intro x b;rcases Ax.mp b with e|b
   .subst e;exact Tj ok (by rw[<- hq.1];exact hq.2.1)
   .exact ih x b
 exact all r x b
theorem YV {kvs:List (List IC×V)}(ok:HOk P w H h)(e:H a=HA (.dT kvs)):kvs.length<=A4/\(a == sysModules)=HH /\
  ∃xs,KT H kvs xs/\h.DictOfH (tupleKind<|Jl P w) a xs:=Rb ok<|.inl e
end
def DGet (H:Hp)(a:HC)(y:V)(r:tX):Prop :=
 (∃kvs k,Rd H a (.dK kvs)/\y=kV k/\r=Ih kvs k) \/ ∃kvs k b,Rd H a (.dT kvs)/\y=.ref b/\H b=HA (.tup<|k.map kV)/\r=Ih kvs k
def DPut (H:Hp)(a:HC)(y v:V)(H':Hp):Prop :=
 (∃kvs k,H a=HA (.dK kvs)/\y=kV k/\kvs.length<A4/\H'=upd H a (.dK<|JT kvs k v)) \/
 ∃kvs k b,H a=HA (.dT kvs)/\y=.ref b/\H b=HA (.tup<|k.map kV)/\kvs.length<A4/\H'=upd H a (.dT<|JT kvs k v)
def DGet.k {H:Hp}{a:HC}{kvs:List (IC×V)}{k:IC}(e:H a=HA (.dK kvs)):DGet H a (kV k) (Ih kvs k):=.inl<|HP kvs k ⟨.inl e,Z,Z⟩
def DPut.k {H:Hp}{a:HC}{kvs:List (IC×V)}{k:IC}{v:V}(e:H a=HA (.dK kvs))(b:kvs.length<A4):DPut H a (kV k) v (upd H a<|.dK<|JT kvs k v):=.inl<|HP kvs k ⟨e,Z,b,Z⟩
section
variable {X:Cx}{pins:List (HC×Obj)}{σ:St}{H:Hp}{s:Af}{a:HC}{y v:V}{u r:HE}{o:tX}{A:AO}{E:tR}
section
variable {Q:tR}{h':HX}
theorem Inv.big (I:Inv X pins σ H s):sysModules<s.heap.objs.size:=by have h:A7<s.heap.objs.size:=(I.mod.glob.keeps I.bk).lt;exact Nat.lt_trans Ud h
theorem qxd (t:A.units+1<cLine)(I:Inv X pins σ H s)(g:DGet H a y (HA v))(n:RelV y u)(h:∀c s',Inv X pins σ H s'->RelV v c->Q c s') :
  wpAny (model X.prog X.w) A (getItem (.ref a) u) Q E s:=by
 rcases g with ⟨kvs,k,e,j,l⟩|⟨kvs,k,b,e,j,r,l⟩
 .subst j;obtain⟨z,B,vs,d,i⟩:=Lk I.hok e;obtain⟨c,m,f⟩:=RelO.some_of (v:=v) (o:=valueAt vs k) (by rw[l];exact d.val k);exact wpAny_getItem_of (TZ n) i.mapOf m<|h c _ (I.tok _) f
 .subst j;cases (show u=Bk b from n);obtain⟨z,B,xs,d,i⟩:=Rb I.hok e;obtain⟨c,m,f⟩:=RelO.some_of (v:=v) (o:=(atKey xs k).map (·.2)) (by rw[l];exact d.val k);obtain⟨p,x,q⟩:=Option.map_eq_some_iff.mp m;refine wpAny_getItem_heap (CH t) (Tj I.hok r) i x ?_;rw[q];exact h c _ (I.tok _) f
theorem rY (n:A.units+1<cLine)(I:Inv X pins σ H s)(g:DGet H a y o)(j:RelV y u)(h:∀s',Inv X pins σ H s'->Q (.bool o.isSome) s') :
  wpAny (model X.prog X.w) A (compareOp .In u<|.ref a) Q E s:=by
 rcases g with ⟨kvs,k,e,f,l⟩|⟨kvs,k,b,e,f,m,l⟩
 .subst f;obtain⟨z,i,_,c,d⟩:=Lk I.hok e;refine wpAny_in_of (TZ j) i d.mapOf ?_;rw[<- (c.val k).isSome_eq,<- l];exact h _<|I.tok _
 .subst f;cases (show u=Bk b from j);obtain⟨z,i,_,c,d⟩:=Rb I.hok e;refine wpAny_in_heap (CH n) (Tj I.hok m) i d ?_;have q:=(c.val k).isSome_eq;rw[Ex]at q;rw[<- q,<- l];exact h _<|I.tok _
theorem Qs (n:A.units+1<cLine)(I:Inv X pins σ H s)(g:DGet H a y o)(j:RelV y u)(h:∀s',Inv X pins σ H s'->Q (.bool (!o.isSome)) s') :
  wpAny (model X.prog X.w) A (compareOp .NotIn u<|.ref a) Q E s:=by
 rcases g with ⟨kvs,k,e,f,l⟩|⟨kvs,k,b,e,f,m,l⟩
 .subst f;obtain⟨z,i,_,c,d⟩:=Lk I.hok e;refine wpAny_notIn_of (TZ j) i d.mapOf ?_;rw[<- (c.val k).isSome_eq,<- l];exact h _<|I.tok _
 .subst f;cases (show u=Bk b from j);obtain⟨z,i,_,c,d⟩:=Rb I.hok e;refine wpAny_notIn_heap (CH n) (Tj I.hok m) i d ?_;have q:=(c.val k).isSome_eq;rw[Ex]at q;rw[<- q,<- l];exact h _<|I.tok _
theorem qve {t':Nat}{c:HO}(I:Inv X pins σ H s)(h:Yg (H a))(f:CM a s.heap h')(g:∃q,h'.get? a=HA q)(d:ObjOk X.prog X.w (upd H a c) h' a c) :
  Inv X pins σ (upd H a c) {s with heap:=h',toks:=t'} :=
 I.write (x:=a) (e:=a) h (.inl Z) (λb q i z=>(f.2 b i).trans z) g d
theorem Uz {P:AJ}{w:HQ}{H':Hp}{kvs:List (IC×V)}{vs:List (IC×HE)}(z:kvs.length<=A4)(c:(a == sysModules)=HH)(b:KV kvs vs)(d:h'.DictOf (Jl P w) a vs) :
  ObjOk P w H' h' a (.dK kvs):=⟨z,c,vs,b,d⟩
theorem qxe {H':Hp}{Q:Unit->Af->Prop}(F:A.units+1<cLine)(I:Inv X pins σ H s)(g:DPut H a y v H')(B:RelV y u)(rv:RelV v r)(h:∀s',Inv X pins σ H' s'->Q () s') :
  wpAny (model X.prog X.w) A (setItem (.ref a) u r) Q E s:=by
 rcases g with ⟨kvs,k,e,o,l,n⟩|⟨kvs,k,b,e,o,C,l,n⟩
 .subst o n;obtain⟨z,p,vs,d,m⟩:=N1 I.hok e;have hz:vs.length<=A4:=by rwa[<- d.length]
  have j:(JT kvs k v).length<=A4:=by have:=T5 kvs k v;lia
  refine wpAny_setItem_pairs (hsz:=hz) (TZ B) m λh' f t=>h _ ?_;have J:∃q,h'.get? a=HA q:=let ⟨q,_,_,i,_⟩:=f;⟨q,i⟩;exact qve I (by rw[e];exact Cj) t J<|Uz j p (d.put k rv) f
 .subst o n;cases (show u=Bk b from B);obtain⟨z,p,xs,d,m⟩:=YV I.hok e;have hz:xs.length<=A4:=by rwa[<- Dw.length d]
  have j:(JT kvs k v).length<=A4:=by have:=T5 kvs k v;lia
  refine wpAny_setItem_heap (hsz:=hz) (CH F) (Tj I.hok C) m λh' f t=>h _ ?_;obtain⟨q,es,ep,i,D,K,G,_,L⟩:=f;refine qve I (by rw[e];exact Cj) t ⟨q,i⟩ ⟨j,p,_,(d.put k C rv).keeps λc _ x=>?_,q,es,ep,i,D,K,G,L⟩;rwa[qr<|X6 x e<|sh]
end
end
section
variable {X:Cx}{pins:List (HC×Obj)}{σ:St}{H:Hp}{s:Af}{a:HC}{kvs:List (IC×V)}{k:IC}{u:HE}{A:AO}{E:tR}
end
def Yf (i:HS):Prop:=∀ov iv,subscripted i HH ov iv=operate [ov,iv] (getItem ov iv)
theorem O0 {prog:AJ}{w:HQ}{A:AO}{E:tR}{s:Af}{env:Env}{b a:HS}{pos:Pos}{T id:String}{Q:tR}
  (l:typeLookup (.type T) "__getitem__"=pure (HA<|.builtin id))(n:Yf a)
  (h:wpAny (model prog w) A (eval b env) (λo f=>wpAny (model prog w) A (eval a env) (λi d=>d.TypeIs o T/\wpAny (model prog w) A (getItem o i) Q E d) E f) E s) :
  wpAny (model prog w) A (eval (.Subscript b a pos) env) Q E s:=by
 refine Subscript_<|Cd h (λo f k=>Cd k (λi d e=>?_) λ_ _ x=>x) λ_ _ x=>x;obtain⟨g,e⟩:=e;unfold subscriptTail;refine A2 ?_;rw[getitemInPython_of_ne g.not_modules];refine A2<|wpAny_specialOf g l ?_;have c:wpAny (model prog w) A (subscripted a HH o i) (λr j=>wpAny (model prog w) A (letTemporaryGo b o r >>= λ_=>pure r) Q E j) E d:=by rw[n o i];exact wpAny_operating<|Cd e (λr j m=>A2<|wpAny_letTemporaryGo<|Bi m) λ_ _ x=>x
 first
  |exact Bi (A2 c)
  |exact A2 (Bi<|A2 c)
  |exact A2 c
def qrt {X:Cx}{d:List (HC×Obj)}{σ:St}{H:Hp}{s:Af}{a:HC}{y:V}{o:tX}(I:Inv X d σ H s)(g:DGet H a y o):s.TypeIs (.ref a) "dict" := by
 rcases g with ⟨kvs,k,e,_,_⟩|⟨kvs,k,b,e,_,_,_⟩
 .obtain⟨_,_,vs,_,c⟩:=Lk I.hok e;exact c.typeIs
 .obtain⟨_,_,xs,_,c⟩:=Rb I.hok e;exact c.typeIs
def WL (td ty:TE):TE:=λσ H Q=>td σ H λx H1=>ty σ H1 λy H2=>∃a v,x=.ref a/\DGet H2 a y (HA v)/\Q v H2
def Ox (ty td:TE):TE:=λσ H Q=>ty σ H λy H1=>td σ H1 λx H2=>∃a o,x=.ref a/\DGet H2 a y o/\Q (.bl (!o.isSome)) H2
def WZ (td ty tv:TE):TS:=λD σ H=>tv σ H λv H1=>td σ H1 λx H2=>ty σ H2 λy H3=>∃a H4,x=.ref a/\DPut H3 a y v H4/\D.nx σ H4
section
variable {X:Cx}{o i e value:HS}{pos pos' tpos:Pos}{td ty tv:TE}
def K7 (m:X.A.units+1<cLine)(p:PE X o td)(z:PE X i ty)(w:Yf i):PE X (.Subscript o i pos) (WL td ty):=by intro b s σ H Q I h;refine O0 PySem.F.slot_dict_getitem.lookup w<|Hy (p b s σ H _ I h) λu j w48a'=>?_;obtain⟨x,B,r,f,n⟩:=w48a';refine Hy (z b j σ B _ r n) λ_ _ e=>?_;obtain⟨y,k,d,l,a,v,ex,g,t⟩:=e;subst ex;obtain rfl:u=Bk a:=f;exact⟨qrt d g,qxd m d g l λ_ _ q c=>⟨v,k,q,c,t⟩⟩
def qxf (k:X.A.units+1<cLine)(t:PE X i ty)(m:PE X o td):PC X .NotIn i o (Ox ty td):=by intro b s σ H Q I h;refine Hy (t b s σ H _ I h) λ_ e w47a'=>?_;obtain⟨y,v,q,j,l⟩:=w47a';refine Hy (m b e σ v _ q l) λu _ c=>?_;obtain⟨x,f,n,d,a,ov,ex,g,r⟩:=c;subst ex;obtain rfl:u=Bk a:=d;exact Qs k n g j λ_ p=>⟨.bl (!ov.isSome),f,p,Z,r⟩
theorem Pk (l:X.A.units+1<cLine)(t:PE X o td)(G:PE X i ty)(e:PE X value tv)(F:swapsWith value (HA<|.Subscript o i pos') pos.line X.env=pure HH) :
  PS X (.Assign [.Subscript o i pos'] value pos) (WZ td ty tv):=by
 intro b s σ H D I h;refine wpAny_Assign_Subscript (Hy (e b s σ H _ I h) λr f w46a'=>?_) F;obtain⟨v,J,C,rv,q⟩:=w46a';refine Hy (t b f σ J _ C q) λu n w45a'=>?_;obtain⟨x,j,w,d,E⟩:=w45a';refine Hy (G b n σ j _ w E) λ_ _ c=>?_;obtain⟨y,_,z,k,a,m,ex,g,B⟩:=c;subst ex;obtain rfl:u=Bk a:=d;exact qxe l z g k rv λ_ p=>⟨σ,m,p,B⟩
end
def N2 {P:AJ}{w:HQ}{H:Hp}(h:HX)(a:sysModules<h.objs.size):ObjOk P w H (h.push {cls:=.type "dict",data:=.dict #[]}) h.objs.size (.dK []) :=
 ⟨AR _,beq_eq_false_iff_ne.mpr<|By<|AD a,[],.nil,Heap.DictOf.new h⟩
def SW:TE:=λ_ H Q=>∀p,H p=HD->Q (.ref p) (upd H p<|.dK [])
section
variable {X:Cx}{pos:Pos}
def Pl:PE X (.Dict [] [] pos) SW:=λ_ s σ H Q I h =>
 wpAny_Dict_empty (HP (.ref s.heap.objs.size) _ ⟨I.laid (a:=s.heap.objs.size) (o:=.dK []) (t':=s.toks) (λ_ _ q=>Aw _ q) (Al _)<|N2 s.heap I.big,Z,h _<|I.hok.fresh<|Al _⟩)
end
structure M1 (X:Cx)(o:HS)(m:Str)(apos:Pos)(e:HS)(cpos:Pos):Prop where
 base:attributeBase o m X.env (eval o X.env)=eval o X.env
 few:((backTo cpos<|starEach [e] X.env).all (λx=>!x.1) && (backToKw cpos<|keywordEach [] X.env).all (λx=>x.1.isSome)
  && decide (([e]:tN).length+([]:List Keyword).length+(if ([]:List Keyword).isEmpty then 0 else 1)<30))=HG
 line:(apos.endLine == cpos.line)=HG
 trees:backTo cpos (starEach [e] X.env)=[(HH,eval e X.env)]
structure M2 (X:Cx)(o:HS)(m:Str)(apos:Pos)(e f:HS)(cpos:Pos):Prop where
 base:attributeBase o m X.env (eval o X.env)=eval o X.env
 few:((backTo cpos<|starEach [e,f] X.env).all (λx=>!x.1) && (backToKw cpos<|keywordEach [] X.env).all (λx=>x.1.isSome)
  && decide (([e,f]:tN).length+([]:List Keyword).length+(if ([]:List Keyword).isEmpty then 0 else 1)<30))=HG
 line:(apos.endLine == cpos.line)=HG
 trees:backTo cpos (starEach [e,f] X.env)=[(HH,eval e X.env),(HH,eval f X.env)]
def sP (H:Hp)(a:HC):Prop:=(∃kvs,Rd H a<|.dK kvs) \/ ∃kvs,Rd H a<|.dT kvs
theorem Na {X:Cx}{i:List (HC×Obj)}{σ:St}{H:Hp}{s:Af}{a:HC}(I:Inv X i σ H s)(d:sP H a) :
  s.TypeIs (.ref a) "dict" /\ (∀b,Bk a=.ref b->∃c,s.heap.get? b=HA c/\c.dict=HD)/\(a == sysModules)=HH:=by
 rcases d with ⟨kvs,e⟩|⟨kvs,e⟩
 .obtain⟨_,h,vs,_,f⟩:=Lk I.hok e;refine⟨f.typeIs,λb q=>?_,h⟩;cases q;obtain⟨c,_,_,j,g,_⟩:=f;exact⟨c,j,g.2.1⟩
 .obtain⟨_,h,xs,_,f⟩:=Rb I.hok e;refine⟨f.typeIs,λb q=>?_,h⟩;cases q;obtain⟨c,_,_,j,g,_⟩:=f;exact⟨c,j,g.2.1⟩
section
variable {X:Cx}{pins:List (HC×Obj)}{σ:St}{H:Hp}{s:Af}{a:HC}{y d:V}{u r:HE}{o:tX}{A:AO}{E:tR}
theorem U1 {Q:tR}(n:A.units+1<cLine)(I:Inv X pins σ H s)(g:DGet H a y o)(j:RelV y u)(h:∀w' s',Inv X pins σ H s'->RelV (o.getD .non) w'->Q w' s') :
  wpAny (model X.prog X.w) A (call (.builtin "dict.get") [.ref a,u]) Q E s:=by
 rcases g with ⟨kvs,k,e,f,l⟩|⟨kvs,k,b,e,f,m,l⟩
 .subst f;obtain⟨z,i,_,c,d⟩:=Lk I.hok e;refine Ek BX d.typeIs C7 (DC _ _) (meets_dict_get (Jl X.prog X.w) a (TZ j) i) ⟨_,d.mapOf,h _ _ (I.tok _) ?_⟩;rw[l];exact(c.val k).getD rfl
 .subst f;cases (show u=Bk b from j);obtain⟨z,i,xs,c,d⟩:=Rb I.hok e;refine Ek BX d.typeIs C7 (DC _ _) (meetsH_dict_get (tupleKind<|Jl X.prog X.w) a b i) ⟨CH n,k,xs,Tj I.hok m,d,h _ _ (I.tok _) ?_⟩;rw[l];exact(c.val k).getD rfl
theorem U0 {Q:tR}(p:A.units+1<cLine)(I:Inv X pins σ H s)(g:DGet H a y o)(m:RelV y u)(rd:RelV d r)(h:∀w' s',Inv X pins σ H s'->RelV (o.getD d) w'->Q w' s') :
  wpAny (model X.prog X.w) A (call (.builtin "dict.get") [.ref a,u,r]) Q E s:=by
 rcases g with ⟨kvs,k,e,i,l⟩|⟨kvs,k,b,e,i,n,l⟩
 .subst i;obtain⟨z,j,_,c,f⟩:=Lk I.hok e;refine Ek BX f.typeIs C7 (PySem.F.args_dict_get_3 _ _ _) (meets_dict_get_default (Jl X.prog X.w) a (TZ m) j r) ⟨_,f.mapOf,h _ _ (I.tok _) ?_⟩;rw[l];exact(c.val k).getD rd
 .subst i;cases (show u=Bk b from m);obtain⟨z,j,xs,c,f⟩:=Rb I.hok e;refine Ek BX f.typeIs C7 (PySem.F.args_dict_get_3 _ _ _) (meetsH_dict_get_default (tupleKind<|Jl X.prog X.w) a b j r) ⟨CH p,k,xs,Tj I.hok n,f,h _ _ (I.tok _) ?_⟩;rw[l];exact(c.val k).getD rd
end
def SX (td ty tx:TE):TE:=λσ H Q=>td σ H λx H1=>∃a,x=.ref a/\sP H1 a/\ty σ H1 λy H2=>tx σ H2 λz H3=>∃o,DGet H3 a y o/\Q (o.getD z) H3
section
variable {X:Cx}{o e f:HS}{apos cpos:Pos}{td ty tx:TE}
def Mo (v:X.A.units+1<cLine)(D:PE X o td)(E:PE X e ty)(L:PE X f tx)(m:M2 X o "get" apos e f cpos):PE X (.Call (.Attribute o "get" apos) [e,f] [] cpos) (SX td ty tx):=by
 intro b s σ H Q I h;refine wpAny_Call_method m.base m.few m.line PySem.F.plainAttrs_dict BX PySem.F.type_dict_get<|Hy (D b s σ H _ I h) λu l i=>?_;obtain⟨x,O,j,k,a,ex,d,C⟩:=i;subst ex;obtain rfl:u=Bk a:=k;obtain⟨n,q,_⟩:=Na j d;refine⟨n,q,?_⟩;rw[m.trees];refine Dc rfl (DZ (Db (Hy (E b l σ O _ j C) λ_ w w44a'=>?_)));obtain⟨y,p,G,r,M⟩:=w44a';refine Db (Hy (L b w σ p _ G M) λ_ _ w43a'=>?_);obtain⟨z,N,J,t,_,g,K⟩:=w43a';refine DI ?_
 exact U0 v J g r t λ_ _ B c=>⟨_,N,B,c,K⟩
end
section
variable {X:Cx}{pins:List (HC×Obj)}{σ:St}{H:Hp}{s:Af}{a:HC}{kvs:List (IC×V)}{A:AO}{E:tR}
end
section
variable {X:Cx}{pins:List (HC×Obj)}{σ:St}{H:Hp}{s:Af}{a:HC}{y:V}{u:HE}{A:AO}{E:tR}
end
end L2
namespace L2
open PySem PySem.Spec PyProof.Rows
section
variable {κ:Type}[DecidableEq κ]
def Om {kvs:List (κ×V)}{k:κ}{v:V}(h:Ih kvs k=HA v):k∈kvs.map (·.1):=by
 have q:(kvs.any λa=>decide (a.1=k))=HG:=by rw[Vn,h];all_goals rfl
 obtain⟨p,b,e⟩:=CW.mp q;exact AQ.mpr ⟨p,b,HK e⟩
end
end L2
namespace Add
open PySem PySem.Spec PyProof.Rows L2
def pos {j:Int}(h:0<j):0<j:=h
def QE {i j:Int}(h : -1000000<i)(h':i<1000000):CMul i j:=.inl ⟨sZ,sZ⟩
section
variable {K:Ag}
def qQ:AK K (.type "int") (.type "int")=HA HG:=by kernel_rfl
def qV:AK K (.type "int") (.type "bool")=HA HH:=by kernel_rfl
def rG:AK K (.type "tuple") (.type "tuple")=HA HG:=by kernel_rfl
end
section
variable {X:Cx}
def Ki:Lm X (.builtin "isinstance") (λxs H Q=>∃x t c b,xs=[x,.ty c]/\TyOf X.K H x t/\AK X.K t (.type c)=HA b/\Q (.bl b) H):=by intro _ s σ H xs _ Q I r h;obtain⟨x,t,c,b,rfl,ty,e,q⟩:=h;obtain⟨u,u',rfl,a,d⟩:=Vals.two r;cases (show u'=Cq c from d);exact qw9 I a ty e λtk=>(HP (.bl b) H ⟨I.tok tk,Z,q⟩)
def Lj:tW->tW->Bool
 | [],[]=>HG
 |x::xs,y::ys=>K3 x y && Lj xs ys
 |_,_=>HH
def SA (xs ys:tW)(j:Nat):Bool:=match xs[j]?,ys[j]? with
 |some x,HA y=>K3 x y
 |_,_=>HH
theorem OK:∀(xs ys:tW),((An<|min xs.length ys.length).all (SA xs ys) && (xs.length == ys.length))=Lj xs ys
 | [],[]=>rfl
 | [],_::_=>by simp[Lj]
 |_::_,[]=>by simp[Lj]
 |x::xs,y::ys=>by
  have a:=OK xs ys;have e:min (x::xs).length (y::ys).length=min xs.length ys.length+1:=by simp only[AA];lia
  rw[e,List.range_succ_eq_map,DW,List.all_map];have f:(SA (x::xs) (y::ys) ∘ Nat.succ)=SA xs ys:=by funext j;simp[SA,Function.comp]
  have g:((x::xs).length == (y::ys).length)=(xs.length == ys.length):=by simp
  rw[f,g];show ((K3 x y && (An<|min xs.length ys.length).all (SA xs ys)) && (xs.length == ys.length))=(K3 x y && Lj xs ys);rw[<- a,Bool.and_assoc]
theorem NZ {A:AO}{s:Af}{xs ys:tW}{us a:tH}(r:Vals xs us)(g:Vals ys a)(p:xs.all Jj=HG)(fy:ys.all Jj=HG) :
  ∀j (k:j<us.toArray.size) (d:j<a.toArray.size),AY A s us.toArray[j] a.toArray[j] (SA xs ys j):=by
 intro j k d;have b:j<xs.length:=by rw[r.length];simpa using k
 have c:j<ys.length:=by rw[g.length];simpa using d
 obtain⟨u,e,m⟩:=r.get (i:=j) (x:=xs[j]) (by simp[b]);obtain⟨w,h,f⟩:=g.get (i:=j) (x:=ys[j]) (by simp[c]);have o:us.toArray[j]=u:=by
  have:us[j]?=HA us[j]:=by simp
  rw[this]at e;simpa using A8 e
 have n:a.toArray[j]=w:=by
  have:a[j]?=HA a[j]:=by simp
  rw[this]at h;simpa using A8 h
 have l:SA xs ys j=K3 xs[j] ys[j]:=by simp[SA,b,c]
 rw[o,n,l];exact ZA m f (B8.mp p _<|B9 b)<|B8.mp fy _<|B9 c
end
section
variable {X:Cx}{tg:HS}
end
section
open PySem.SeqAt
open PySem.AutoSeq1 (wpAny_loadPart')
open PySem.MeetsSeq PySem.MeetsSeq2 PySem.MeetsSeq3
open HT
end
section
variable {prog:AJ}{w:HQ}{A:AO}{E:tR}{s:Af}
end
section
variable {X:Cx}
end
section
variable {env:Env}{scope xs:IS}{N XN:tG}
theorem qN {env:Env}:∀(names:List (Str×Bz))(b:List (Str×HC)),(∀x∈names,x.2=.free->∃c,env.cells.lookup x.1=HA c) ->
  (∀x c,b.lookup x=HA c->env.cells.lookup x=HA c) ->
  ∃f,(forIn names b λ(x:Str×Bz)(u:List (Str×HC))=>if (x.2 == Bu)=HG then (do let a <- cellOf env x.1;pure (Dd<|(x.1,a)::u)) else (pure (Dd u):Sem (ForInStep<|List<|Str×HC)))=pure f /\
   (∀x c,f.lookup x=HA c->env.cells.lookup x=HA c)/\(∀x,(b.lookup x).isSome=HG->(f.lookup x).isSome=HG)/\∀x∈names,x.2=.free->(f.lookup x.1).isSome=HG
 | [],b,_,ha=>⟨b,Z,ha,λ_ h=>h,λ_ h=>absurd h<|by simp⟩
 | (n,k)::r,b,hf,ha=>by
  have v:∀x∈r,x.2=.free->∃c,env.cells.lookup x.1=HA c:=λx g=>hf x<|A1 _ g;rw[List.forIn_cons];cases o:(k == Bu) with
  |false =>
   obtain⟨f,e,s,l,p⟩:=qN r b v ha;refine⟨f,?_,s,l,λx g i=>?_⟩
   .simp only[o,Em,if_false];exact e
   .rcases Ax.mp g with z|z
    .subst z;have A:k=.free:=i;subst A;exact absurd o Ud
    .exact p x z i
  |true =>
   have y:k=.free:=by simpa using o
   obtain⟨c,t⟩:=hf (n,k) Am y;have w:∀x d,((n,c)::b).lookup x=HA d->env.cells.lookup x=HA d:=λx d e=>by
    rw[BR]at e;cases q:x == n with
    |true =>
     rw[q]at e;have B:x=n:=by simpa using q
     subst B;rwa[t]
    |false=>rw[q]at e;exact ha x d e
   obtain⟨f,e,s,l,p⟩:=qN r ((n,c)::b) v w;have m:((((n,c)::b).lookup n).isSome)=HG:=by simp
   refine⟨f,?_,s,λx g=>l x ?_,λx g i=>?_⟩
   .have j:cellOf env n=pure c:=by unfold cellOf;rw[t]
    simp only[o,if_true,j];exact e
   .rw[BR];cases q:x == n with|true=>rfl|false=>exact g
   .rcases Ax.mp g with z|z
    .subst z;exact l n m
    .exact p x z i
theorem qM (g:∀x∈scope.names,x.2=.free->∃c,env.cells.lookup x.1=HA c) :
  ∃a,closureFor scope env=pure a/\(∀x c,a.lookup x=HA c->env.cells.lookup x=HA c)/\∀x∈scope.names,x.2=.free->(a.lookup x.1).isSome=HG:=by
 obtain⟨a,e,f,_,b⟩:=qN scope.names [] g (λx c h=>absurd h<|by simp);refine⟨a,?_,f,b⟩;unfold closureFor;exact(HR (λz=>z >>= λd=>(pure d:Sem (List<|Str×HC))) e).trans rfl
noncomputable def Ww (N:tG)(js:sr)(XN:tG)(xs scope:IS):Bool :=
 (scope.kind == .function) && (scope.names.all λx=>x.2 != .cell) && (scope.names.all λx=>x.2 != .local || (scope.names.lookup x.1 == HA .local)) &&
 (scope.names.all λx=>x.2 != .free || (xs.names.lookup x.1 == HA .cell || xs.names.lookup x.1 == HA .free)) && (N.length == js.length) &&
 ((N.zip js).all λp=>match p.2 with|none=>HG|some j=>(XN[j]? == HA p.1) && (xs.names.lookup p.1 == HA .cell || xs.names.lookup p.1 == HA .free) && (scope.names.any λx=>x.1 == p.1 && x.2 == .free) && (scope.names.lookup p.1 == HA .free))
structure CompNm (N:tG)(js:sr)(XN:tG)(xs scope:IS):Prop where
 kind:scope.kind=.function
 nocell:∀x∈scope.names,x.2 ≠ .cell
 names:∀x∈scope.names,x.2=.local->scope.names.lookup x.1=HA .local
 clos:∀x∈scope.names,x.2=.free->(xs.names.lookup x.1=HA .cell\/xs.names.lookup x.1=HA .free)
 len:N.length=js.length
 free:∀(i j:Nat)(x:Str),N[i]?=HA x->js[i]?=HA (HA j)->XN[j]?=HA x/\(xs.names.lookup x=HA .cell\/xs.names.lookup x=HA .free)/\(x,Bu)∈scope.names/\scope.names.lookup x=HA .free
theorem qF {js:sr}(h:Ww N js XN xs scope=HG):CompNm N js XN xs scope:=by
 unfold Ww at h;simp only[B7,B8,HU,D6,bne_iff_ne,ne_eq]at h;obtain⟨⟨⟨⟨⟨w,l⟩,t⟩,q⟩,v⟩,g⟩:=h;refine⟨w,λx a=>l x a,λx a e=>?_,λx a e=>?_,v,λi j x s r=>?_⟩
 .rcases t x a with z|z
  .exact absurd e z
  .exact z
 .rcases q x a with z|z
  .exact absurd e z
  .exact z
 .have hz:(N.zip js)[i]?=HA (x,HA j):=by rw[List.getElem?_zip_eq_some];exact⟨s,r⟩
  have:=g _<|Au hz;simp only[B7,HU,D6,CW]at this;obtain⟨⟨⟨u,n⟩,y,p,k,d⟩,m⟩:=this;refine⟨u,n,?_,m⟩;obtain⟨f,o⟩:=y;have b:f=x:=k;have c:o=.free:=d;subst b c;exact p
theorem qru {x:Str}(h:scope.names.lookup x=HA .free):(relabel scope env).names.lookup x=HA .cell\/(relabel scope env).names.lookup x=HA .free:=by
 have b:∀(l:List (Str×Bz)),l.lookup x=HA .free->((l.map λ(n,k)=>if (k == Bu && env.scope.kind == .function && env.kindOf n == HA .cell) then (n,Bz.cell) else (n,k)).lookup x=HA .cell\/(l.map λ(n,k)=>if (k == Bu && env.scope.kind == .function && env.kindOf n == HA .cell) then (n,Bz.cell) else (n,k)).lookup x=HA .free):=by
  intro l
  induction l with
  |nil=>intro h;simp at h
  |cons y r ih =>
   obtain⟨n,k⟩:=y;intro h;rw[BR]at h;rw[AW];cases q:x == n with
   |false =>
    rw[q]at h;have:=ih h;by_cases a:(k == Bu && env.scope.kind == .function && env.kindOf n == HA .cell)=HG
    .simpa [a,BR,q] using this
    .simpa [a,BR,q] using this
   |true =>
    rw[q]at h;have h':k=.free:=A8 h;subst h';by_cases a:(Bu == Bu && env.scope.kind == .function && env.kindOf n == HA .cell)=HG
    .exact .inl (by show Da x ((if (Bu == Bu && env.scope.kind == .function && env.kindOf n == HA .cell)=HG then (n,Bz.cell) else (n,Bu))::_)=_;rw[HI a,BR,q])
    .exact .inr (by show Da x ((if (Bu == Bu && env.scope.kind == .function && env.kindOf n == HA .cell)=HG then (n,Bz.cell) else (n,Bu))::_)=_;rw[HF a,BR,q])
 exact b scope.names h
noncomputable def Km (X:Cx)(N:tG)(scope:IS)(cl:List (Str×HC))(C:HC)(s:Af)(H:Hp)(fp:tI)(E:tR):Cx :=
 {X with N:=N,s₀:=s,H₀:=H,env:=compEnvC scope cl C X.env,outer:=X.stack,ex:=fp,fn:=λ_=>HH,pn:=[],xe:=E}
noncomputable def Lb (js:sr)(σ:L2.St):L2.St:=js.map λj=>j.bind λk=>(σ[k]?).join
end
section
variable {prog:AJ}{w:HQ}{A:AO}{R:Result->Af->Prop}{s:Af}
theorem qt1 {i a g:HS}{f:tN}{scope:IS}{pos:Pos}{it d:HE}{env:Env}(I:Nat->Af->Prop)
  (l:∀n s,I n s->wpAny (model prog w) A (pyNext it) (λr k=>match r with
   |none=>R (.ok .next) k
   |some v=>wpAny (model prog w) A (letOwnedTupleGo a it v) (λ_ j=>wpAny (model prog w) A (assign a env v) (λ_ t =>
     wpAny (model prog w) A (forIn f HG λc r=>if r=HG then do let ok <- isTrue c env (eval c env);pure (Dd ok) else pure (Dd r)) (λok o =>
      if ok=HG then wpAny (model prog w) A (eval i env) (λx u =>
       wpAny (model prog w) A (call (.builtin "list.append") [d,x]) (λ_ z=>∃m,m<n/\I m z) (notedBy (model prog w) A env λe b=>R (.error e) b) u) (notedBy (model prog w) A env λe b=>R (.error e) b) o
      else ∃m,m<n/\I m o) (notedBy (model prog w) A env λe b=>R (.error e) b) t) (notedBy (model prog w) A env λe b=>R (.error e) b) j)
     (notedBy (model prog w) A env λe b=>R (.error e) b) k) (notedBy (model prog w) A env λe b=>R (.error e) b) s)
  (n:Nat)(h:I n s):codeAny (model prog w) A (.compLoop (.ListComp i [⟨a,g,f,0⟩] scope pos) 0 it d env) R s:=by
 refine codeAny_loop rfl I (λn s D=>?_) n h;show wpAny _ A ((compTurn (.ListComp i [⟨a,g,f,0⟩] scope pos) 0 it d env).onRaise (λx=>do noteFrame x env;theTreesLotGoes x)) _ _ s;refine wpAny_noted ?_;rw[compTurn_list];refine A2<|wpAny_standAt<|A2<|Cd (l n s D) (λr k p=>?_) λ_ _ h'=>h';cases r with
 |none=>exact Bi p
 |some v =>
  refine A2<|Cd p (λ_ j q=>?_) λ_ _ h'=>h';refine A2<|Cd q (λ_ t B=>A2<|Cd B (λok o y=>?_) λ_ _ h'=>h') λ_ _ h'=>h';cases ok with|false=>exact Bi ⟨Z,y⟩|true =>exact A2<|A2<|Cd y (λx u E=>A2<|Cd E (λ_ z C=>Bi<|Bi ⟨Z,C⟩) λ_ _ h'=>h') λ_ _ h'=>h'
end
def Yc (X:Cx)(ifs:tN)(t:TT):Prop :=
 ∀(pins:List (HC×Obj))(s:Af)(σ:L2.St)(H:Hp)(Q:Bool->Hp->Prop),Inv X pins σ H s->t σ H Q ->
  wpAny (model X.prog X.w) X.A (forIn ifs HG λc r=>if r=HG then do let ok <- isTrue c X.env (eval c X.env);pure (Dd ok) else pure (Dd r)) (TP X pins σ Q) X.xe s
def Yv:TT:=λ_ H Q=>Q HG H
def Tu {X:Cx}:Yc X [] Yv:=λ_ _ _ H _ I h=>wpAny_tests_nil ⟨H,I,h⟩
def qvg {X:Cx}{c:HS}{t:TT}(b:PT X c t):Yc X [c] t:=λa s σ H Q I h=>wpAny_tests_one<|b a s σ H Q I h
def Va (js:sr)(g:TG)(tc:TT)(te:TE)(σ:L2.St)(Q:VK)(J:It)(H1:Hp):Prop:=∀p,H1 p=HD ->
 ∃W:Nat->Nat->L2.St->Hp->Prop,(∃m,W 0 m (Lb js σ)<|upd H1 p<|.lst [])/\∀i m σ' H',W i m σ' H' ->
  (J.stop i H'/\Q (.ref p) H')\/(J.go i H'/\∃N:L2.St->Hp->Prop,(∀σ2 H2,N σ2 H2->∃m',m'<m/\W (i+1) m' σ2 H2) /\
   ∀x H2,J.yld i H' x H2->g x σ' H2 λσ3 H3=>tc σ3 H3 λk H4=>if k=HG then te σ3 H4 λv H5=>∃xs,H5 p=HA (.lst xs)/\xs.length<A4/\N σ3 (upd H5 p<|.lst<|xs++[v]) else N σ3 H4)
def RK (js:sr)(wi:TI)(g:TG)(tc:TT)(te:TE):TE:=λσ H Q=>wi σ H<|Va js g tc te σ Q
section
variable {X:Cx}{N XN:tG}{js:sr}{xs scope:IS}{elt target iter:HS}{ifs:tN}{pos:Pos}{g:TG}{tc:TT}{te:TE}
theorem qnf {I:List (HC×Obj)}{σ:L2.St}{H2:Hp}{D:Af}{it:HC}{fp:tI}{tn:Nat->HX->Prop}{J:It}{B:List (Str×HC)}{Q:V->Hp->Prop}{RR:HE->HC->Result->Af->Prop}{E:tR}
  (O:X.calm=HG)(hN:X.N=XN)(hS:X.env.scope=xs)(nm:CompNm N js XN xs scope)(F:∀x c,B.lookup x=HA c->X.env.cells.lookup x=HA c)(aj:∀x∈scope.names,x.2=.free->(B.lookup x.1).isSome=HG)
  (hg:∀(B:List (Str×HC))(C:HC)(s:Af)(H:Hp)(fp:tI)(E:tR),PG (Km X N scope B C s H fp E) target g)
  (ht:∀(B:List (Str×HC))(C:HC)(s:Af)(H:Hp)(fp:tI)(E:tR),Yc (Km X N scope B C s H fp E) ifs tc)
  (he:∀(B:List (Str×HC))(C:HC)(s:Af)(H:Hp)(fp:tI)(E:tR),PE (Km X N scope B C s H fp E) elt te)
  (I2:Inv X I σ H2 D)(T:Turn X.prog X.w X.K target J fp it tn)(al:tn 0 D.heap)(f2:∀b∈fp,La X I H2 b)
  (hW:Va js g tc te σ Q J H2)
  (bw:∀(p C:HC)(H':Hp)(G:Af)(m:Str->tK),Inv X I σ H' G->G.heap.Ns C m->D.heap.objs.size<=C->H' C=HD->Q (.ref p) H'->RR (.ref p) C (.ok .next) G) :
  wpAny (model X.prog X.w) X.A (newList []) (λau s₃=>wpAny (model X.prog X.w) X.A (newFunctionEnv scope X.env.globals B [] X.env.qual HD .none<|HA X.env) (λag s₄ =>
   codeAny (model X.prog X.w) X.A (.compStart (.ListComp elt [⟨target,iter,ifs,0⟩] scope pos) 0 (.ref it) au {ag with scope:=relabel scope X.env}) (RR au ag.locals) s₄) E s₃) E D:=by
 refine wpAny_newObj_type (wpAny_newFunctionEnv nm.nocell (by intro y hy;simp at hy) (λh₁ ad U=>?_) nm.kind)
 obtain⟨W,⟨m0,w0⟩,ah⟩:=hW D.heap.objs.size I2.fresh
 have f:Inv X I σ (upd H2 D.heap.objs.size<|.lst []) {D with heap:=D.heap.push {cls:=.type "list",data:=.seq ([]:tH).toArray} }:=I2.lnew (ys:=[]) (its:=[]) (t':=D.toks) .nil<|AR _
 generalize cq:({D with heap:=D.heap.push {cls:=.type "list",data:=.seq ([]:tH).toArray} }:Af)=s3 at f ad U |-
 have aq:s3.heap=D.heap.push {cls:=.type "list",data:=.seq ([]:tH).toArray}:=by rw[<- cq]
 have z3:s3.heap.objs.size=D.heap.objs.size+1:=by rw[aq,DH]
 generalize hP:D.heap.objs.size=P at w0 ah f z3 |-
 have aw:∀b∈fp,upd H2 P (.lst []) b=HD:=λb a=>by
  have nb:b≠P:=by obtain⟨o,eo,_⟩:=T.obj 0 D.heap al b a;have:=AC eo;rw[hP]at this;exact AD this
  rw[qr nb];exact(f2 b a).1
 generalize hH:upd H2 P (.lst [])=H3 at w0 f aw
 have R:∀b∈fp,b≠X.env.locals/\b∉X.fs/\(b∈X.ex\/X.s₀.heap.objs.size<=b)/\(∀x c,X.env.cells.lookup x=HA c->c≠b)/\∀p∈X.pn++I,p.1≠b:=λb a=>(f2 b a).2
 have ak:∀b∈fp,b<s3.heap.objs.size:=λb a=>by obtain⟨o,eo,_⟩:=T.obj 0 D.heap al b a;have hl:=AC eo;exact Ay hl (by rw[z3,hP];exact CA _)
 have ax:tn 0 s3.heap:=T.keep 0 _ _ al λb _ o e=>by rw[aq];exact Aw _ e
 generalize hC:s3.heap.objs.size=C at ad U z3 ak |-
 have M:∀b o,s3.heap.get? b=HA o->h₁.get? b=HA o:=λb o e=>U.extBut b o (by have hl:=AC e;rw[hC]at hl;exact AD hl)<|Aw _ e
 have stk:∀b∈fp,b∉Lx X.stack:=λb a z=>by
  rcases Ax.mp (f.stkSub b z) with q|q
  .exact(R b a).1 q
  .exact(R b a).2.1 q
 have ok:∀E',(Km X N scope B C s3 H3 fp E').Ok:=λE'=>{
  mod:=f.ok.mod
  kind:=nm.kind
  glob:=f.ok.glob
  blt:=f.ok.blt
  above:=BN hC
  inj:=λx y c h1 h2=>f.ok.inj x y c (F x c h1)<|F y c h2
  has:=λx hx=>by
   have cg:(x,Bu)∈scope.names:=by
    have hl:(relabel scope X.env).names.lookup x=HA .cell\/(relabel scope X.env).names.lookup x=HA .free:=hx;have c9:∀(l:List (Str×Bz)),(∀y∈l,y.2 ≠ .cell)->((l.map λ(n,k)=>if (k == Bu && X.env.scope.kind == .function && X.env.kindOf n == HA .cell) then (n,Bz.cell) else (n,k)).lookup x=HA .cell\/(l.map λ(n,k)=>if (k == Bu && X.env.scope.kind == .function && X.env.kindOf n == HA .cell) then (n,Bz.cell) else (n,k)).lookup x=HA .free)->(x,Bu)∈l:=by
     intro l
     induction l with
     |nil=>intro _ h;rcases h with h|h <;>simp at h
     |cons y r ih =>
      obtain⟨n,k⟩:=y;intro hn h;have hr:=ih<|λy hy=>hn y<|A1 _ hy;have hk:k ≠ .cell:=hn (n,k) Am;rw[AW]at h;cases q:x == n with
      |false =>
       refine A1 _<|hr ?_;by_cases O:(k == Bu && X.env.scope.kind == .function && X.env.kindOf n == HA .cell)=HG
       .simpa [O,BR,q] using h
       .simpa [O,BR,q] using h
      |true =>
       have q':x=n:=by simpa using q
       subst q';by_cases O:(k == Bu && X.env.scope.kind == .function && X.env.kindOf x == HA .cell)=HG
       .have:k=.free:=by
         simp only[B7,HU]at O
         exact O.1.1
        subst this
        exact Am
       .have h':k=.cell\/k=.free:=by simpa [O,BR] using h
        rcases h' with z|z
        .exact absurd z hk
        .subst z;exact Am
    exact c9 scope.names nm.nocell hl
   exact BZ.mp<|aj _ cg Z
  cab:=λ_ _ h _=>nomatch h
  hd:=f.ok.hd
  frames:=f.ok.frames
  stk:=.inl Z
  exf:=λb a=>⟨AD<|ak b a,λx c e=>(R b a).2.2.2.1 x c<|F x c e⟩
  bs:=f.bs
  bsz:=Az f.ok.bsz f.sz
  noex:=λb o e a=>by
   rcases (R b a).2.2.1 with z|z
   .exact f.ok.noex b o e z
   .have h1:=AC e;have h2:=f.ok.bsz;exact absurd (Ay h1<|Az h2 z)<|BY _
  exfs:=stk
  funs:=f.stack
  frf:=f.stkFree}
 have start:∀E',Inv (Km X N scope B C s3 H3 fp E') [] (Lb js σ) H3 {s3 with heap:=h₁,toks:=s3.toks+([]:List (Str×HE)).length}:=λE'=>{
  ok:=ok E'
  os:=rfl
  bare:=f.bare
  base:=Un.kept M
  loc:=by
   refine⟨_,ad,λi x v e1 e2 e3=>?_⟩;have S:((js[i]?).map λj=>j.bind λk=>(σ[k]?).join)=HA (HA v):=by
    have:=e2;unfold Lb at this
    rwa [Ai]at this
   cases hj:js[i]? with
   |none=>rw[hj]at S;cases S
   |some jo =>
    rw[hj]at S;cases jo with
    |none=>cases S
    |some j =>
     have L:(σ[j]?).join=HA v:=A8 S;have e4:σ[j]?=HA (HA v):=by
      cases q:σ[j]? with
      |none=>rw[q]at L;cases L
      |some o=>rw[q]at L;cases o with
       |none=>cases L
       |some y=>cases L;rfl
     obtain⟨a1,a2,a3,a4⟩:=nm.free i j x e1 hj;obtain⟨_,_,lX⟩:=f.loc;have ca:Q9 X.env.scope x:=by rw[hS];exact .inr a2
     obtain⟨u,ru,lu⟩:=lX j x v (by rwa[hN]) e4 ca;refine⟨u,ru,?_⟩;rcases lu with ⟨k1,_⟩|⟨k1,c,e5,z⟩
     .exfalso;have am:X.env.scope.names.lookup x=HA .local:=k1;rw[hS]at am;rcases a2 with q|q <;>rw[q]at am <;>cases am
     .obtain⟨c',e6⟩:=BZ.mp<|aj _ a3 Z;have e7:=F x c' e6;rw[e5]at e7;cases e7;refine .inr ⟨?_,c,e6,?_⟩
      .rcases e3 with q|q|q
       .exfalso;have:=qru (env:=X.env) a4;rcases this with t|t <;>(have q':(relabel scope X.env).names.lookup x=HA .local:=q;rw[t]at q';cases q')
       .exact .inl q
       .exact .inr q
      .obtain⟨o,ho,hd⟩:=z;exact⟨o,M c o ho,hd⟩
  cell:=λx c e=>by obtain⟨v,o,ho,hd⟩:=f.cell x c<|F x c e;exact HP v o ⟨M c o ho,hd⟩
  free:=f.hok.fresh<|BN hC
  freeC:=λx c e=>f.freeC x c<|F x c e
  pin:=λp hp=>absurd (show p∈([]:List (HC×Obj)) from hp) (by simp)
  hok:=f.hok.kept M
  len:=by unfold Lb;rw[Ab];exact nm.len.symm}
 have done:∀{E':tR}{σ':L2.St}{H':Hp}{G:Af},Inv (Km X N scope B C s3 H3 fp E') [] σ' H' G->Q (.ref P) H'->RR (.ref P) C (.ok .next) G:=λ{E' σ' H' G} J' q=>by obtain⟨m',cw,_⟩:=J'.loc;refine bw P C H' G m' (f.call' (ch:=fp) J'.os J'.base J'.hok J'.bare λb a=>⟨(R b a).2.2.1,(R b a).1,(R b a).2.2.2.1,(R b a).2.2.2.2⟩) cw (by rw[z3,hP];exact CA _) J'.free q
 have ao:∀s₄:Af,s₄={s3 with heap:=h₁,toks:=s3.toks+([]:List (Str×HE)).length} ->
   codeAny (model X.prog X.w) X.A (.compLoop (.ListComp elt [⟨target,iter,ifs,0⟩] scope pos) 0 (.ref it) (.ref P)<|compEnvC scope B C X.env) (RR (.ref P) C) s₄:=by
  rintro s₄ rfl;generalize cz:notedBy (model X.prog X.w) X.A (compEnvC scope B C X.env) (λe G=>RR (.ref P) C (.error e) G)=NB;have ae:∀{H':Hp},(∀b∈fp,H' b=HD)->∀b∈fp,La (Km X N scope B C s3 H3 fp NB) [] H' b:=λhn b a =>
   ⟨hn b a,AD<|ak b a,stk b a,.inl a,λx c e=>(R b a).2.2.2.1 x c<|F x c e,λp hp=>absurd (show p∈([]:List (HC×Obj)) from hp)<|by simp⟩
  refine qt1 (λn G=>∃i σ' H',Inv (Km X N scope B C s3 H3 fp NB) [] σ' H' G/\tn i G.heap/\(∀b∈fp,H' b=HD)/\W i n σ' H') ?_ m0<|HW 0 (Lb js σ) H3 ⟨start NB,T.keep 0 _ _ ax λb _ o e=>M b o e,aw,w0⟩;rw[cz];intro n s5 w';obtain⟨i,σ5,H5,I5,ay,av,w5⟩:=w';rcases ah i n σ5 H5 w5 with ⟨stop,qn⟩|⟨go,Nx,bu,step⟩
  .refine Hy (T.done (Km X N scope B C s3 H3 fp NB) Z Z Z O i [] s5 σ5 H5 NB I5 (ae av) ay stop) λr s6 w42a'=>?_;obtain⟨hr,I6⟩:=w42a';subst hr;exact done I6 qn
  .refine Hy (T.item (Km X N scope B C s3 H3 fp NB) Z Z Z O i [] s5 σ5 H5 NB I5 (ae av) ay go) λr s6 w41a'=>?_;obtain⟨u,hr,h6⟩:=w41a';subst hr;refine Hy h6 λ_ s7 w40a'=>?_;obtain⟨x,H7,I7,r7,y7,ai,bq⟩:=w40a';have dc:=I7.pinned (ae bq)<|T.obj _ _ ai;have af:∀{σ8:L2.St}{Y:Hp}{s8:Af},Inv (Km X N scope B C s3 H3 fp NB) ([]++Vc fp s7.heap) σ8 Y s8->Nx σ8 Y->∃m,m<n/\∃i σ' H',Inv (Km X N scope B C s3 H3 fp NB) [] σ' H' s8/\tn i s8.heap/\(∀b∈fp,H' b=HD)/\W i m σ' H':=λ{σ8 Y s8} I8 n8=>by obtain⟨m',hm,w8⟩:=bu σ8 Y n8;refine⟨m',hm,i+1,σ8,Y,I8.unpinned,T.keep _ _ _ ai λb a o e=>(I8.pin (b,o)<|A3 _<|A3 _<|Xq a e).1,λb a=>?_,w8⟩;obtain⟨o,e,d⟩:=T.obj _ _ ai b a;exact(I8.pin (b,o)<|A3 _<|A3 _<|Xq a e).2.1
   refine Hy (hg B C s3 H3 fp NB _ s7 σ5 H7 x u _ dc r7<|step x H7 y7) λ_ s8 w39a'=>?_;obtain⟨σ8,Y,I8,q8⟩:=w39a';refine Hy (ht B C s3 H3 fp NB _ s8 σ8 Y _ I8 q8) λk s9 w38a'=>?_;obtain⟨H9,I9,q9⟩:=w38a';cases k with
   |false =>rw[HF Ud]at q9 |-;exact af I9 q9
   |true =>rw[HI Z]at q9 |-;refine Hy (he B C s3 H3 fp NB _ s9 σ8 H9 _ I9 q9) λuv bz w37a'=>?_;obtain⟨v,bc,cx,bj,c8,c7,bt,bf⟩:=w37a';refine Hy (KF (X:=Km X N scope B C s3 H3 fp NB) _ bz σ8 bc (.ref P) [v] (.ref P) [uv] (λ_ ar=>Nx σ8 ar) cx Z (.cons bj .nil)<|HW P c8 v ⟨Z,Z,c7,bt,bf⟩) λ_ _ w36a'=>?_;obtain⟨_,ar,cp,_,bh⟩:=w36a';exact af cp bh
 exact codeAny_compStart_list (ao _ Z)<|T.self _ 0 _ _ _ (T.keep 0 _ _ ax λb _ o e=>M b o e)<|ao _ Z
end
section
variable {X:Cx}{N XN:tG}{js:sr}{xs scope:IS}{elt target iter:HS}{ifs:tN}{pos:Pos}{wi:TI}{g:TG}{tc:TT}{te:TE}
def ql2 {a:List (HC×Obj)}{σ σ':L2.St}{H H':Hp}{s g:Af}{C:HC}{h':HX}(f:Inv X a σ H s)(J:Inv X a σ' H' g)(d:s.heap.objs.size<=C)(k:H' C=HD)(h:CM C g.heap h'):Inv X a σ' H' {g with heap:=h'} :=
 J.turned (t':=g.toks) (it:=C) (λb o i e=>h.extBut b o i e) k (Cv<|Ay f.lt d) (.inr<|Az f.sz d)
  (λx c e=>by obtain⟨v,q⟩:=f.cell x c e;exact AD<|Ay q.lt d) λp j=>AD<|Ay (AC (f.pin p j).1) d
theorem Tr (n:X.calm=HG)(F:X.N=XN)(c:X.env.scope=xs)(k:Ww N js XN xs scope=HG)(L:PI X target iter wi)
  (t:∀(a:List (Str×HC))(C:HC)(s:Af)(H:Hp)(fp:tI)(E:tR),PG (Km X N scope a C s H fp E) target g)
  (R:∀(a:List (Str×HC))(C:HC)(s:Af)(H:Hp)(fp:tI)(E:tR),Yc (Km X N scope a C s H fp E) ifs tc)
  (z:∀(a:List (Str×HC))(C:HC)(s:Af)(H:Hp)(fp:tI)(E:tR),PE (Km X N scope a C s H fp E) elt te)
  (M:autoParam (∀x,foldedSetIterable iter X.env x=pure x) uM):PE X (.ListComp elt [⟨target,iter,ifs,0⟩] scope pos) (RK js wi g tc te):=by
 intro b s σ H Q I h;have nm:=qF k;obtain⟨a,hcl,O,D⟩:=qM (env:=X.env) (scope:=scope) λx u e=>I.ok.has x.1 (by
  rcases nm.clos x u e with q|q
  .exact .inl (by show X.env.scope.names.lookup _=_;rwa[c])
  .exact .inr (by show X.env.scope.names.lookup _=_;rwa[c]))
 rw[eval_ListComp];refine wpAny_comprehension_free (use:=HD) rfl M hcl nm.kind nm.names (Hy (L b s σ H _ I h) λv _ P=>Hy P λ_ _ o=>?_);obtain⟨_,fp,_,J,_,e,i,T,j,G,K⟩:=o;subst e;refine qnf (RR:=λd C=>compPost (model X.prog X.w) X.A X.xe HD (EP X b σ Q) d C) n F c nm O D t R z i T j G K λp C H' _ m y B r l q=>?_;exact⟨m,B,λ_ f=>HP (.ref p) H' ⟨ql2 i y r l f,Z,q⟩⟩
theorem qng {i:Nat}{x:Str}{c f:Pos}(u:X.N.Nodup)(r:X.N[i]?=HA x)(j:X.env.scope.names.lookup x=HA .local)(hc:X.calm=HG)(hN:X.N=XN)(n:X.env.scope=xs)(F:Ww N js XN xs scope=HG)(hi:PI X target iter wi)
  (hg:∀(d:List (Str×HC))(C:HC)(s:Af)(H:Hp)(fp:tI)(E:tR),PG (Km X N scope d C s H fp E) target g)
  (ht:∀(d:List (Str×HC))(C:HC)(s:Af)(H:Hp)(fp:tI)(E:tR),Yc (Km X N scope d C s H fp E) ifs tc)
  (he:∀(d:List (Str×HC))(C:HC)(s:Af)(H:Hp)(fp:tI)(E:tR),PE (Km X N scope d C s H fp E) elt te)
  (S:autoParam (swapsWith (.ListComp elt [⟨target,iter,ifs,0⟩] scope pos) (HA<|.Name x c) f.line X.env=pure HG) uG)
  (hs:autoParam (∀x,foldedSetIterable iter X.env x=pure x) uM):PS X (.Assign [.Name x c] (.ListComp elt [⟨target,iter,ifs,0⟩] scope pos) f) (VS (RK js wi g tc te)<|Ja i):=by
 intro a s σ H D I h;have nm:=qF F;obtain⟨d,hcl,c1,W⟩:=qM (env:=X.env) (scope:=scope) λx hx e=>I.ok.has x.1 (by
  rcases nm.clos x hx e with q|q
  .exact .inl (by show X.env.scope.names.lookup _=_;rwa[n])
  .exact .inr (by show X.env.scope.names.lookup _=_;rwa[n]))
 rw[exec_Assign_Name_used _ _ _ _ S];refine A2<|wpAny_standAt<|A2 ?_;show wpAny _ X.A (do let _ <- comprehension (.ListComp elt [⟨target,iter,ifs,0⟩] scope pos) scope X.env _ (newList []) HH (eval iter X.env) (HA<|assign (.Name x c) X.env)) _ _ s;refine A2 (Cd (wpAny_comprehension_free (use:=HA<|assign (.Name x c) X.env) (Q:=λ_ b=>SP X a D .next b) Z hs hcl nm.kind nm.names
  (Hy (hi a s σ H _ I h) λv _ h1=>Hy h1 λ_ _ V=>?_)) (λ_ b hq=>Bi<|Bi hq) λ_ _ e=>e)
 obtain⟨_,fp,_,J,_,e,k,T,L,f2,Y⟩:=V;subst e;refine qnf (Q:=λx H1=>Ja i x σ H1 D.nx) (RR:=λG C=>compPost (model X.prog X.w) X.A X.xe (HA<|assign (.Name x c) X.env) (λ_ b=>SP X a D .next b) G C) hc hN n nm c1 W hg ht he k T L f2 Y λp C H' b m O hn l M q=>?_;obtain⟨o,es,ep,ho,B,hr⟩:=id hn;have Jp:Inv X (a++[(C,o)]) σ H' b:=O.pins_of λz hz=>(As.mp hz).elim (λy=>O.pin z<|A3 _ y) λy=>by
  have e:z=(C,o):=by simpa using y
  subst e;exact⟨ho,M,Cv<|Ay k.lt l,k.nofs l,λv z=>by rw[B]at z;cases z⟩
 refine Hy (Lr (X:=X) (pos:=c) u r (.inl j) (.inr j) (a++[(C,o)]) b σ H' (.ref p) (.ref p) _ Jp Z q) λ_ _ w35a'=>?_;obtain⟨σ'',P,R,U⟩:=w35a';have t:=R.pin (C,o) (A3 _<|A3 _<|by simp);refine⟨m,HW o es ep ⟨t.1,B,hr⟩,λ_ K=>HP σ'' P ⟨ql2 k R.unpinned l t.2.1 K,U⟩⟩
end
def VT (J:It)(H:Hp)(xs:tW):Prop:=∀H',Same H H'->(∀i x,xs[i]?=HA x->J.go i H'/\∀y H2,J.yld i H' y H2->y=x/\H2=H')/\J.stop xs.length H'
def Xp {K:Ag}{H:Hp}{a:HC}{xs:tW}(h:SqL K H a xs):VT (Vz K a) H xs:=λ_ e =>
 ⟨λi x b=>⟨HP xs x ⟨e.seq h,b⟩,λy _ f=>by obtain⟨d,c⟩:=f;have:=c xs<|e.seq h;rw[b]at this;exact⟨(A8 this).symm,d⟩⟩,⟨xs,e.seq h,Al _⟩⟩
theorem aY {H:Hp}{lo:Int}{n:Nat}:VT (VE lo n) H ((An n).map λi=>V.int<|lo+(i:Nat)):=λ_ _ =>
 ⟨λi x a=>by
  rw[Ai]at a;cases q:(An n)[i]? with
  |none=>rw[q]at a;cases a
  |some j =>
   have e:i<n:=by obtain⟨f,_⟩:=Ac.mp q;simpa using f
   have d:j=i:=by obtain⟨_,c⟩:=Ac.mp q;simpa using c.symm
   rw[q]at a;subst d;exact⟨e,λy _ b=>⟨b.2.trans<|A8 a,b.1⟩⟩,by show n<=_;simp⟩
theorem Z5 {js:sr}{g:TG}{n:TE}{J:It}{σ:L2.St}{H:Hp}{Q:VK}{xs:tW}(f:V->V)(c:L2.St->Prop)(F:VT J H xs)(hz:xs.length<=A4)(E:c (Lb js σ))
  (step:∀(x:V)(σ':L2.St)(H':Hp)(R:L2.St->VK),x∈xs->Same H H'->c σ'->(∀σ3,c σ3->R σ3 (f x) H')->g x σ' H' λσ3 h=>n σ3 h<|R σ3)
  (y:∀(x:V)(σ':L2.St)(H':Hp)(R s:L2.St->Hp->Prop),(∀σ3 h,R σ3 h->s σ3 h)->g x σ' H' R->g x σ' H' s)
  (r:∀p,H p=HD->Q (.ref p) (upd H p<|.lst<|xs.map f)) :
  Va js g Yv n σ Q J H:=by
 intro p q;have t:∀o,Same H (upd H p o):=λo b u e=>by rwa[qr<|Iz e q]
 refine⟨λi m σ' H'=>m=xs.length-i/\i<=xs.length/\c σ'/\H'=upd H p (.lst<|(xs.take i).map f),⟨xs.length,by simp,AR _,E,by simp⟩,?_⟩;intro i m σ' H' w';obtain⟨rfl,_,w,rfl⟩:=w';obtain⟨B,D⟩:=F _<|t<|.lst<|(xs.take i).map f;by_cases d:i<xs.length
 .have ex:xs[i]?=HA xs[i]:=by simp[d]
  obtain⟨A,G⟩:=B i _ ex;refine .inr ⟨A,λσ2 j=>c σ2/\j=upd H p (.lst<|(xs.take<|i+1).map f),by rintro σ2 j ⟨a,b⟩;exact ⟨xs.length-(i+1),sZ,Z,d,a,b⟩,λx j C=>?_⟩;obtain⟨rfl,rfl⟩:=G x j C;refine y _ _ _ _ _ (λσ3 h z=>?_)<|step xs[i] σ' _ (λσ3 v l=>∃ys,l p=HA (.lst ys)/\ys.length<A4/\(c σ3/\upd l p (.lst<|ys++[v])=upd H p (.lst<|(xs.take<|i+1).map f))) (B9 d) (t _) w λσ3 k=>?_
  .exact z
  .refine⟨_,qk,?_,k,?_⟩
   .rw[Ab,Bp];lia
   .rw[qu8,B1,ex,Aq];rfl
 .have e:i=xs.length:=by lia
  subst e;refine .inl ⟨D,?_⟩;rw[Bc];exact r p q
def Rl {i:Nat}(x:V)(σ':L2.St)(H':Hp)(R a:L2.St->Hp->Prop)(h:∀σ3 H3,R σ3 H3->a σ3 H3)(z:Ja i x σ' H' R):Ja i x σ' H' a:=h _ _ z
section
variable {X:Cx}{tg:HS}
end
section
variable {X:Cx}
section
variable {es:tN}{env:Env}
theorem XW {a b}:starEach (.List a b::es) env=(HH,eval (.List a b) env)::starEach es env:=by rw[starEach];intro e _ h;cases h
theorem zo {a b c}:starEach (.Tuple a b c::es) env=(HH,eval (.Tuple a b c) env)::starEach es env:=by rw[starEach];intro e _ h;cases h
theorem ML {a b c d}:starEach (.ListComp a b c d::es) env=(HH,eval (.ListComp a b c d) env)::starEach es env:=by rw[starEach];intro e _ h;cases h
theorem ql {a b c}:starEach (.Constant a b c::es) env=(HH,eval (.Constant a b c) env)::starEach es env:=by rw[starEach];intro e _ h;cases h
theorem qe {a b}:starEach (.Name a b::es) env=(HH,eval (.Name a b) env)::starEach es env:=by rw[starEach];intro e _ h;cases h
theorem zl {a b c d}:starEach (.Call a b c d::es) env=(HH,eval (.Call a b c d) env)::starEach es env:=by rw[starEach];intro e _ h;cases h
theorem zm {a b c d}:starEach (.BinOp a b c d::es) env=(HH,eval (.BinOp a b c d) env)::starEach es env:=by rw[starEach];intro e _ h;cases h
theorem MJ {a b c d}:starEach (.Compare a b c d::es) env=(HH,eval (.Compare a b c d) env)::starEach es env:=by rw[starEach];intro e _ h;cases h
theorem zn {a b c}:starEach (.Subscript a b c::es) env=(HH,eval (.Subscript a b c) env)::starEach es env:=by rw[starEach];intro e _ h;cases h
theorem KZ {a b c}:starEach (.Attribute a b c::es) env=(HH,eval (.Attribute a b c) env)::starEach es env:=by rw[starEach];intro e _ h;cases h
theorem MK {a b c d}:starEach (.IfExp a b c d::es) env=(HH,eval (.IfExp a b c d) env)::starEach es env:=by rw[starEach];intro e _ h;cases h
end
end
section
variable {K:Ag}
def Xs:AK K (.type "str") (.type "str")=HA HG:=by kernel_rfl
def ql3:AK K (.type "int") (.type "str")=HA HH:=by kernel_rfl
def qrv:AK K (.type "list") (.type "str")=HA HH:=by kernel_rfl
def ql4:AK K (.type "list") (.type "list")=HA HG:=by kernel_rfl
def qrw:AK K (.type "tuple") (.type "str")=HA HH:=by kernel_rfl
end
section
variable {prog:AJ}{w:HQ}{A:AO}{E:tR}{h:HX}{g:Array GenState}{d:Drawn}{t:Nat}{os:OsState}
variable {nm q:Str}{C N:HC}{bs bm bmB:tH}{hdct:Bool}{sn:tG}{sub:tH}{ab:Bool}{col:Option Bool}{dd:tQ}{k0 k1 k2 k3 k5:tK}{B Bn newId nid initId inN:String}{bmN:tH}
end
section
open PySem.W
variable {prog:AJ}{w:HQ}{A:AO}{E:tR}{s:Af}{K:Frag}{x C:HC}{ox:Obj}{od:Option Obj}{name:Str}{expr:Bool}
end
section
open PySem.W
variable {prog:AJ}{w:HQ}{A:AO}{E:tR}{s:Af}{K:Frag}{x C:HC}{ox:Obj}{od:Option Obj}{name:Str}{expr:Bool}
end
section
open PySem.W
variable {prog:AJ}{w:HQ}{A:AO}{E:tR}{s:Af}{K:Frag}{x C:HC}{o:Obj}{name:Str}{v:HE}
end
section
variable {prog:AJ}{w:HQ}{A:AO}{E:tR}{K:Ag}{C fI:HC}{s:Af}{JF:tH}
end
section
variable {P:AJ}{w:HQ}{H:Hp}{h:HX}{x C dx:HC}{od:tQ}{fr:Bool}{fs:tY}
end
section
variable {X:Cx}{pins:List (HC×Obj)}{σ:L2.St}{H:Hp}{s:Af}{A:AO}{E:tR}
variable {CX:LQ}{k:Nat}{f:HC}{fd:BC}{ps:tG}{sp:Sp}{ds:tH}{dvs:tW}{EX:XK}
end
section
variable {X:Cx}{pins:List (HC×Obj)}{σ:L2.St}{H:Hp}{s:Af}{E:tR}
end
section
variable {X:Cx}
theorem oU:∀{x:V},Jj x=HG->K3 x x=HG
 |.non,_=>rfl
 |.bl b,_=>by cases b <;>rfl
 |.int i,_=>by simp[K3]
 |.str y,_=>by simp[K3]
 |.byt _,h=>by simp[Jj]at h
 |.flt _,h=>by simp[Jj]at h
 |.ref _,h=>by simp[Jj]at h
 |.ty _,h=>by simp[Jj]at h
theorem qpn:∀{xs:tW},xs.all Jj=HG->Lj xs xs=HG
 | [],_=>rfl
 |x::xs,h=>by rw[DW,B7]at h;show (K3 x x && Lj xs xs)=HG;rw[oU h.1,qpn h.2];rfl
end
noncomputable def Kp (K:Ag)(C:HC)(ns:tG):Bool:=ns.all λn=>Bf K (.ref C) n == HA HD
def qp {K:Ag}{C:HC}{a:tG}{n:Str}(h:Kp K C a=HG)(m:n∈a):Bf K (.ref C) n=HA HD:=HU.mp<|B8.mp h n m
structure MethAt (K:Ag)(x qual:Str)(st:HN)(ps:tG)(f:HC)(fd:BC):Prop where
 fn:Fun K x qual st f fd
 bd:Binds K fd ps []
 ty:CD K (.ref f)=HA (.type "function")
section
variable {X:Cx}{K:Ag}
def l0 {e:HS}{f:Str}{pos:Pos}{a:TE}(c:X.K=K)(b:PE X e a)(d:attributeBase e f X.env (eval e X.env)=eval e X.env):PE X (.Attribute e f pos) (SV K a f):=c ▸ ZD b d
end
section
variable {M:Model}{A:AO}{E:tR}{s:Af}{base:HX}{env:Env}{outer:List Env}{L x C:HC}{od:tQ}{vs:tO}{sl:tD}
end
section
variable {X:Cx}{pins:List (HC×Obj)}{σ:L2.St}{H:Hp}{s:Af}{E:tR}{x C:HC}{od:tQ}
end
section
variable {P:AJ}{w:HQ}{K:Ag}{mg:Str->tK}{base:HX}
end
section
variable {X:Cx}{k:Nat}{f C:HC}{fd:BC}{ps:tG}{sp:Sp}{dvs:tW}{ds:tH}{EX:L2.St->XK}{x m:Str}{p pos apos:Pos}{e o:HS}{es:tN}{ta:TE}{t:TA}
end
abbrev _root_.L2.Cx.tr (X:Cx)(pins:List (HC×Obj))(W:tR):Cx:={X with pn:=X.pn++pins,xe:=W}
section
variable {X:Cx}{pins pins':List (HC×Obj)}{σ:L2.St}{H:Hp}{s:Af}{W:tR}{e:HE}
end
abbrev TH:=Ends->L2.St->HC->HC->tQ->Hp->Prop
section
variable {X:Cx}{pins:List (HC×Obj)}{σ:L2.St}{H:Hp}{s:Af}{E:tR}
end
def PC (X:Cx)(t:HS)(c:HE):Prop:=∀(e:HE)(E:tR)(pins:List (HC×Obj))(s:Af)(σ:L2.St)(H:Hp)(Q:tR),Inv X pins σ H s->Q c s->wpAny (model X.prog X.w) (X.A.mark<|HA e) (eval t X.env) Q E s
section
variable {X:Cx}{t:HS}{b₀:HN}{body:List HN}{pos:Pos}{JF:List ExceptHandler}{c:HE}{ts:HC->TS}{tr:TH}
end
section
variable {X:Cx}
def qrx {e:HS}:PE X e λ_ _ _=>False:=λ_ _ _ _ _ _ h=>h.elim
end
noncomputable abbrev TJ:=Str->TE
section
variable {X:Cx}{e:HS}{es:tN}{te:TE}{tj:TJ}{pos:Pos}
end
open Builtin Builtin.Str
section
variable {X:Cx}
end
end Add
namespace Add
open PySem PySem.Spec PyProof.Rows L2
section
variable {K:Ag}{C f:HC}{m:Str}
noncomputable def OQ (K:Ag)(C:HC):Bool:=Dn K C AN && DG K C && Et K C && (Bf K (.ref C) "__setattr__" == HA (HA<|.builtin "object.__setattr__"))
def Rk (h:OQ K C=HG):Cls K C:=by unfold OQ at h;simp only[B7,HU]at h;obtain⟨⟨⟨c,b⟩,d⟩,a⟩:=h;exact⟨c,b,d,a⟩
noncomputable def Og (K:Ag)(C f:HC):Bool:=PySem.W.makesIn K C && (Bf K (.ref C) "__init__" == HA (HA<|.ref f)) && Ej K (.ref f) && Bw K (.ref C)
def Ra (h:Og K C f=HG):Mk K C f:=by unfold Og at h;simp only[B7,HU]at h;obtain⟨⟨⟨c,b⟩,d⟩,a⟩:=h;exact⟨c,b,d,a⟩
noncomputable def I0 (K:Ag)(C:HC)(m:Str)(f:HC):Bool:=(Bf K (.ref C) m == HA (HA<|.ref f)) && Ej K (.ref f) && Bw K (.ref f)
def JA (h:I0 K C m f=HG):Meth K C m f:=by unfold I0 at h;simp only[B7,HU]at h;obtain⟨⟨b,c⟩,a⟩:=h;exact⟨b,c,a⟩
end
open Builtin Builtin.Str
section
variable {X:Cx}
end
end Add
namespace Add
open PySem PySem.Spec PyProof.Rows L2
open Builtin Builtin.Str
end Add
namespace Add
open PySem PySem.Spec PyProof.Rows L2
section
variable {H H':Hp}{js:sr}{J:It}{σ:L2.St}{xs:tW}
theorem JP {p:HC}{o:HO}(s:Same H H')(n:H p=HD):Same H (upd H' p o):=λb u e=>by rw[qr<|Iz e n];exact s _ _ e
theorem qpo {g:TG}{s:TE}{Q:VK}(f:V->V)(h:L2.St->Prop)(F:VT J H xs)(hz:xs.length<=A4)(G:h (Lb js σ))
  (step:∀(x:V)(σ':L2.St)(H':Hp)(R:L2.St->VK),x∈xs->Same H H'->h σ'->(∀σ3 d,h σ3->Same H' d->R σ3 (f x) d)->g x σ' H' λσ3 k=>s σ3 k<|R σ3)
  (A:∀(x:V)(σ':L2.St)(H':Hp)(R w:L2.St->Hp->Prop),(∀σ3 k,R σ3 k->w σ3 k)->g x σ' H' R->g x σ' H' w)
  (u:∀p H',H p=HD->Same H H'->H' p=HA (.lst<|xs.map f)->Q (.ref p) H') :
  Va js g Yv s σ Q J H:=by
 intro p q;refine⟨λi m σ' H'=>m=xs.length-i/\i<=xs.length/\h σ'/\Same H H'/\H' p=HA (.lst<|(xs.take i).map f),⟨xs.length,by simp,AR _,G,JP (Same.refl H) q,by rw[qk];rfl⟩,?_⟩;intro i m σ' H' w';obtain⟨rfl,_,y,n,o⟩:=w';obtain⟨C,E⟩:=F _ n;by_cases j:i<xs.length
 .have ex:xs[i]?=HA xs[i]:=by simp[j]
  obtain⟨B,I⟩:=C i _ ex;refine .inr ⟨B,λσ2 l=>h σ2/\Same H l/\l p=HA (.lst<|(xs.take<|i+1).map f),by intro σ2 l w';obtain⟨a,b,c⟩:=w';exact ⟨xs.length-(i+1),sZ,Z,j,a,b,c⟩,λx l D=>?_⟩;obtain⟨rfl,rfl⟩:=I x l D;refine A _ _ _ _ _ (λσ3 k z=>?_)<|step xs[i] σ' _ (λσ3 v d=>∃ys,d p=HA (.lst ys)/\ys.length<A4/\(h σ3/\Same H (upd d p<|.lst<|ys++[v])/\upd d p (.lst<|ys++[v]) p=HA (.lst<|(xs.take<|i+1).map f))) (B9 j) n y λσ3 d r t=>?_
  .exact z
  .refine⟨_,t _ _ o,?_,r,JP (n.trans t) q,?_⟩
   .rw[Ab,Bp];lia
   .rw[qk,B1,ex,Aq];rfl
 .have e:i=xs.length:=by lia
  subst e;refine .inl ⟨E,?_⟩;rw[Bc]at o;exact u p _ q n o
theorem qpp {g:TG}{q:TT}{t:TE}{Q:VK}(b:V->Bool)(f:V->V)(c:L2.St->Prop)(F:VT J H xs)(hz:xs.length<=A4)(L:c (Lb js σ))
  (step:∀(x:V)(σ':L2.St)(H':Hp)(N:L2.St->Hp->Prop)(R:L2.St->VK),x∈xs->Same H H'->c σ'->(∀σ3,c σ3->b x=HH->N σ3 H')->(∀σ3,c σ3->b x=HG->R σ3 (f x) H') ->
   g x σ' H' λσ3 l=>q σ3 l λk r=>if k=HG then t σ3 r (R σ3) else N σ3 r)
  (D:∀(x:V)(σ':L2.St)(H':Hp)(R A:L2.St->Hp->Prop),(∀σ3 l,R σ3 l->A σ3 l)->g x σ' H' R->g x σ' H' A)
  (y:∀p,H p=HD->Q (.ref p) (upd H p<|.lst<|(xs.filter b).map f)) :
  Va js g q t σ Q J H:=by
 intro p u;have B:∀o,Same H (upd H p o):=λo=>JP (Same.refl H) u;have M:∀i,((xs.take i).filter b).length<=i:=λi=>Az (Di b<|xs.take i) (by rw[Bp];lia);refine⟨λi m σ' H'=>m=xs.length-i/\i<=xs.length/\c σ'/\H'=upd H p (.lst<|((xs.take i).filter b).map f),⟨xs.length,by simp,AR _,L,by simp⟩,?_⟩;intro i m σ' H' w';obtain⟨rfl,_,C,rfl⟩:=w';obtain⟨G,K⟩:=F _<|B<|.lst<|((xs.take i).filter b).map f;by_cases j:i<xs.length
 .have ex:xs[i]?=HA xs[i]:=by simp[j]
  obtain⟨E,O⟩:=G i _ ex;have w:(xs.take<|i+1).filter b=(xs.take i).filter b++(if b xs[i]=HG then [xs[i]] else []):=by
   rw[B1,ex,Cs]
   congr 1
   show List.filter b [xs[i]]=_;rw[DT];rfl
  refine .inr ⟨E,λσ2 d=>c σ2/\d=upd H p (.lst<|((xs.take<|i+1).filter b).map f),by rintro σ2 d ⟨a,b⟩;exact ⟨xs.length-(i+1),sZ,Z,j,a,b⟩,λx d I=>?_⟩;obtain⟨rfl,rfl⟩:=O x d I;refine D _ _ _ _ _ (λσ3 l z=>?_)<|step xs[i] σ' _ (λσ2 d=>c σ2/\d=upd H p (.lst<|((xs.take<|i+1).filter b).map f)) (λσ3 v s=>∃ys,s p=HA (.lst ys)/\ys.length<A4/\(c σ3/\upd s p (.lst<|ys++[v])=upd H p (.lst<|((xs.take<|i+1).filter b).map f))) (B9 j) (B _) C (λσ3 h n=>?_) λσ3 h n=>?_
  .exact z
  .refine⟨h,?_⟩;rw[w,n];simp
  .refine⟨_,qk,?_,h,?_⟩
   .rw[Ab];have:=M i;lia
   .rw[qu8,w,n,HI Z,Aq];rfl
 .have e:i=xs.length:=by lia
  subst e;refine .inl ⟨K,?_⟩;rw[Bc];exact y p u
end
end Add
namespace Wri
open PySem PySem.Spec PyProof.Rows PySem.W PySem.W.KIN PySem.NumText
noncomputable def plain (x:Str):Bool:=decide (x=Aa "0") || !decide (x.cps.toList.head?=HA 48)
end Wri
namespace Add
open PySem PySem.Spec PyProof.Rows L2
inductive Tups (H:Hp):tW->List tW->Prop where
 |nil:Tups H [] []
 |cons {a:HC} {r vs:tW} {rs:List tW} (h:H a=HA (.tup r)) (t:Tups H vs rs):Tups H (.ref a::vs) (r::rs)
section
variable {H H':Hp}{vs us r xs b:tW}{rs ts:List tW}{v:V}{a p:HC}
theorem Tups.same (t:Tups H vs rs)(s:Same H H'):Tups H' vs rs:=by
 induction t with
 |nil=>exact .nil
 |cons h _ ih=>exact .cons (s _ _ h) ih
theorem Tups.length (t:Tups H vs rs):vs.length=rs.length:=by
 induction t with
 |nil=>rfl
 |cons _ _ ih=>rw[AA,AA,ih]
theorem Tups.get (t:Tups H vs rs):∀{i:Nat}{r:tW},rs[i]?=HA r->∃a,vs[i]?=HA (.ref a)/\H a=HA (.tup r):=by
 induction t with
 |nil=>intro i r h;cases i <;>cases h
 |cons h _ ih =>
  intro i _ h';cases i with|zero=>cases h';exact⟨_,Z,h⟩|succ i=>exact ih (i:=i) h'
theorem Tups.get' (t:Tups H vs rs){i:Nat}(h:vs[i]?=HA v):∃a r,v=.ref a/\rs[i]?=HA r/\H a=HA (.tup r):=by
 have b:i<rs.length:=by rw[<- t.length];exact(Ac.mp h).1
 obtain⟨a,e,q⟩:=t.get (i:=i) (r:=rs[i]) (by simp[b]);rw[h]at e;cases e;exact(HP a _ ⟨Z,by simp[b],q⟩)
theorem Tups.app (t:Tups H vs rs)(u:Tups H us ts):Tups H (vs++us) (rs++ts):=by
 induction t with
 |nil=>exact u
 |cons h _ ih=>exact .cons h ih
theorem Tups.snoc (t:Tups H vs rs)(h:H a=HA (.tup r)):Tups H (vs++[.ref a]) (rs++[r]):=t.app<|.cons h .nil
theorem Tups.take (t:Tups H vs rs):∀n,Tups H (vs.take n) (rs.take n):=by
 induction t with
 |nil=>intro n;rw[List.take_nil,List.take_nil];exact .nil
 |cons h _ ih =>
  intro n;cases n with|zero=>exact .nil|succ n=>exact .cons h<|ih n
theorem Tups.drop (t:Tups H vs rs):∀n,Tups H (vs.drop n) (rs.drop n):=by
 induction t with
 |nil=>intro n;rw[List.drop_nil,List.drop_nil];exact .nil
 |cons h t ih =>
  intro n;cases n with|zero=>exact .cons h t|succ n=>exact ih n
theorem Tups.upd {o:HO}(t:Tups H vs rs)(a:H p=HA (.lst xs)):Tups (L2.upd H p o) vs rs:=by
 induction t with
 |nil=>exact .nil
 |cons h _ ih=>exact .cons (by rw[qr (λz=>by rw[z,a]at h;cases h)];exact h) ih
theorem Tups.setLast (t:Tups H (vs++[v]) (rs++[r]))(h:H a=HA (.tup b)):Tups H (vs++[.ref a]) (rs++[b]):=by have:=t.take vs.length;have c:=t.length;simp only[Ae,AA,Ee]at c;rw[List.take_left,show vs.length=rs.length by lia,List.take_left]at this;exact this.snoc h
def OP:List tW->List tW->Bool
 | [],[]=>HG
 |x::xs,y::ys=>Lj x y && OP xs ys
 |_,_=>HH
theorem qry:∀{xs ys:List tW},xs.length≠ys.length->OP xs ys=HH
 | [],[],h=>absurd rfl h
 | [],_::_,_=>rfl
 |_::_,[],_=>rfl
 |x::xs,y::ys,h=>by show (Lj x y && OP xs ys)=HH;rw[qry<|λz=>h<|by rw[AA,AA,z],BI]
def eI (xs ys:List tW)(j:Nat):Bool:=Lj (xs.getD j [])<|ys.getD j []
theorem qvh:∀{xs ys:List tW},xs.length=ys.length->(An xs.length).all (eI xs ys)=OP xs ys
 | [],[],_=>rfl
 |x::xs,y::ys,h=>by have a:=qvh (xs:=xs) (ys:=ys) (by simpa using h);show (An<|xs.length+1).all _=(Lj x y && OP xs ys);rw[List.range_succ_eq_map,DW,List.all_map,<- a];rfl
end
section
variable {X:Cx}
def Ve {a:HC}{u:HE}(r:RelV (.ref a) u):u=.ref a:=by cases r;rfl
theorem Oq {A:AO}{l:List (HC×Obj)}{σ:L2.St}{H:Hp}{s:Af}(I:Inv X l σ H s)(J:A.units<cLine){vs us:tW}{ts rs:List tW}{its c:tH}(o:Vals vs its)(C:Vals us c)(m:Tups H vs ts)(n:Tups H us rs)
  (R:ts.all (·.all Jj)=HG)(Q:rs.all (·.all Jj)=HG):∀j (B:j<its.toArray.size)(p:j<c.toArray.size),AY A s its.toArray[j] c.toArray[j] (eI ts rs j):=by
 intro j B p;have l1:=o.length;have l2:=C.length;have m1:=m.length;have m2:=n.length;have h:j<ts.length:=by rw[Ah]at B;lia
 have k:j<rs.length:=by rw[Ah]at p;lia
 obtain⟨a,F,t⟩:=m.get (i:=j) (r:=ts[j]) (by simp[h]);obtain⟨b,G,d⟩:=n.get (i:=j) (r:=rs[j]) (by simp[k]);obtain⟨u,e,L⟩:=o.get F;obtain⟨w,g,q⟩:=C.get G;have O:its.toArray[j]=.ref a:=by
  have:its[j]?=HA its[j]:=by simp
  rw[this]at e;rw[<- Ve L];simpa using A8 e
 have M:c.toArray[j]=.ref b:=by
  have:c[j]?=HA c[j]:=by simp
  rw[this]at g;rw[<- Ve q];simpa using A8 g
 have y:=B8.mp R _<|B9 h;have K:=B8.mp Q _<|B9 k;have D:eI ts rs j=Lj ts[j] rs[j]:=by simp[eI,h,k]
 rw[O,M,D];by_cases f:a=b
 .subst f;rw[t]at d;have:ts[j]=rs[j]:=by injection d with d;injection d
  rw[<- this,qpn y];exact AY.same _
 .refine AY.of_refs f ?_;obtain⟨P,x,S,_⟩:=I.tuple<|SqT.of t;obtain⟨N,v,E,_⟩:=I.tuple<|SqT.of d;have z:=SeqAt.RcAt.tuples (A:=A) (show s.heap.IsTuple a P.toArray from S) (show s.heap.IsTuple b N.toArray from E) J<|NZ x v y K;rwa[Ah,Ah,<- x.length,<- v.length,OK]at z
def Wk (K:Ag)(f:Bool->Bool):R2:=λx y H Q=>∃a b vs us ts rs,x=.ref a/\y=.ref b/\SqL K H a vs/\SqL K H b us/\Tups H vs ts/\Tups H us rs/\ts.all (·.all Jj)=HG/\rs.all (·.all Jj)=HG/\Q (.bl<|f<|OP ts rs) H
def P7 (hu:X.A.units+64<cLine):JH X (compareOp .Eq) (Wk X.K λz=>z):=by
 intro _ s σ H x y v u Q I j k h;obtain⟨a,b,_,_,ts,rs,rfl,rfl,l,m,c,d,o,r,q⟩:=h;cases j;cases k;obtain⟨_,f,g,_⟩:=I.list l;obtain⟨_,i,e,_⟩:=I.list m;have n:=f.length;have l2:=i.length;have p:=c.length;have m2:=d.length;by_cases hz:ts.length=rs.length
 .refine SeqAt.eq_listAt g.isList e.isList (by rw[Ah,Ah];lia) sZ (Oq I (by have:X.A.in1.units=X.A.units+1:=rfl;lia) f i c d o r) ?_;rw[Ah,<- n,p,qvh hz];exact HP (.bl<|OP ts rs) H ⟨I,Z,q⟩
 .refine SeqAt.eq_list_lengthsAt g.isList e.isList (bne_iff_ne.mpr (by rw[Ah,Ah];lia)) sZ ?_;rw[qry hz]at q;exact HP (.bl HH) H ⟨I,Z,q⟩
def ZS {K:Ag}(h:X.K=K):SB X (TM K):=by subst h;exact zq
def qrz {K:Ag}(h:X.K=K):SB X (TN K):=by subst h;exact zr
end
end Add
namespace Lay
section
variable {W:Type}[DecidableEq W]
noncomputable abbrev IM (W:Type):=Int×Int×W
noncomputable def Ir (a:W)(rs:List (IM W))(d:Int):W:=rs.foldl (λa r=>if r.1<=d/\d<=r.2.1 then r.2.2 else a) a
noncomputable def IR (es:tL)(d:Int):Nat:=(es.filter λe=>decide (e<d)).length
noncomputable abbrev ends (rs:List (IM W)):tL:=rs.map λr=>r.2.1
structure Dis (rs:List (IM W)):Prop where
 ok:∀r∈rs,r.1<=r.2.1
 pw:rs.Pairwise λr s=>r.2.1<s.1
noncomputable def left (rs:List (IM W))(f:Int):List (IM W):=rs.filterMap λr=>if r.1<f then HA (r.1,min r.2.1<|f-1,r.2.2) else HD
noncomputable def Iu (rs:List (IM W))(l:Int):List (IM W):=rs.filterMap λr=>if l<r.2.1 then HA (max r.1<|l+1,r.2.1,r.2.2) else HD
def over (rs:List (IM W))(f l:Int)(w:W):List (IM W):=left rs f++(f,l,w)::Iu rs l
theorem jT:∀{es:tL}{d:Int}{k:Nat},k<=es.length->(∀i e,es[i]?=HA e->i<k->e<d)->(∀i e,es[i]?=HA e->k<=i->¬e<d)->IR es d=k
 | [],d,k,hk,_,_=>by
  have:k=0:=by simpa using hk
  subst this;rfl
 |e::es,d,0,_,h1,h2=>by have b:=jT (es:=es) (d:=d) (k:=0) (AR _) (λ_ _ _ z=>absurd z<|Bj _) λi x a _=>h2 (i+1) x a<|AR _;have c:=h2 0 e rfl (Al _);unfold IR at b |-;rwa[DT,HF (by simpa using c)]
 |e::es,d,k+1,hk,h1,h2=>by have b:=jT (es:=es) (d:=d) (k:=k) (by simpa using hk) (λi x a z=>h1 (i+1) x a<|sZ) λi x a z=>h2 (i+1) x a sZ;have c:=h1 0 e rfl sZ;unfold IR at b |-;rw[DT,HI (by simpa using c),AA,b]
def Tz (e:Int)(es:tL)(d:Int):IR (e::es) d=if e<d then IR es d+1 else IR es d:=by unfold IR;rw[DT];by_cases h:e<d <;>simp[h]
def Y0 (es:tL)(d:Int):IR es d<=es.length:=Di _ _
def Zu {es:tL}{d:Int}(h:∀e∈es,¬e<d):IR es d=0:=by unfold IR;rw[List.filter_eq_nil_iff.mpr<|λe a=>by simpa using h e a];rfl
def Dis.tail {r:IM W}{rs:List (IM W)}(h:Dis (r::rs)):Dis rs:=⟨λs a=>h.ok s<|A1 _ a,(BF.mp h.pw).2⟩
def Dis.later {r:IM W}{rs:List (IM W)}(h:Dis (r::rs)){s:IM W}(a:s∈rs):r.2.1<s.1/\s.1<=s.2.1:=⟨(BF.mp h.pw).1 s a,h.ok s<|A1 _ a⟩
def NL {rs:List (IM W)}{f:Int}(h:∀s∈rs,¬s.1<f):left rs f=[]:=by unfold left;rw[List.filterMap_eq_nil_iff];intro s a;rw[HF<|h s a]
theorem qE:∀{rs:List (IM W)}(f:Int),Dis rs->left rs f=rs.take (IR (ends rs) f)++(match rs[IR (ends rs) f]? with|some r=>if r.1<f then [(r.1,f-1,r.2.2)] else [] | none=>[])
 | [],f,_=>rfl
 |r::rs,f,h=>by
  have l:=h.ok r Am;by_cases c:r.2.1<f
  .have e:IR (ends<|r::rs) f=IR (ends rs) f+1:=by rw[show ends (r::rs)=r.2.1::ends rs from Z,Tz,HI c]
   have k:=qE f h.tail;rw[e,List.take_succ_cons,DE,List.cons_append,<- k];show DK _ (r::rs)=_;have g:min r.2.1 (f-1)=r.2.1:=Int.min_eq_left<|Int.le_sub_one_of_lt c;rw[BK (b:=r)<|by rw[HI<|En l c,g]];rfl
  .have e:IR (ends<|r::rs) f=0:=Zu λx j=>by
    obtain⟨s,a,rfl⟩:=AQ.mp j
    rcases Ax.mp a with rfl|a
    .exact c
    .exact λz=>c<|CO (Bd (h.later a).1 (h.later a).2) z
   have i:left rs f=[]:=NL λs a z=>c<|CO (h.later a).1 z
   rw[e,Dl,List.nil_append,List.getElem?_cons_zero]
   show DK _ (r::rs)=_
   by_cases d:r.1<f
   .have g:min r.2.1 (f-1)=f-1:=Int.min_eq_right<|Bh (Do<|Int.sub_lt_self f Ud)<|B6.mp c;rw[BK (b:=(r.1,f-1,r.2.2))<|by rw[HI d,g]];show _::left rs f=_;rw[i];exact(HI d).symm
   .rw[CV<|by rw[HF d]];show left rs f=_;rw[i];exact(HF d).symm
theorem qpq:∀{rs:List (IM W)}{l:Int},(∀s∈rs,l<s.1/\s.1<=s.2.1)->Iu rs l=rs
 | [],_,_=>rfl
 |r::rs,l,h=>by have a:=h r Am;have e:=qpq (l:=l) λs d=>h s<|A1 _ d;show DK _ (r::rs)=_;have c:max r.1 (l+1)=r.1:=Int.max_eq_left a.1;rw[BK (b:=r)<|by rw[HI<|Bd a.1 a.2,c]];show r::Iu rs l=_;rw[e]
theorem qL:∀{rs:List (IM W)}(l:Int),Dis rs->Iu rs l=(match rs[IR (ends rs)<|l+1]? with|some r=>if r.1<=l then (l+1,r.2.1,r.2.2)::rs.drop (IR (ends rs) (l+1)+1) else rs.drop (IR (ends rs)<|l+1)|none=>[])
 | [],l,_=>rfl
 |r::rs,l,h=>by
  have h0:=h.ok r Am;by_cases c:r.2.1<l+1
  .have e:IR (ends<|r::rs) (l+1)=IR (ends rs) (l+1)+1:=by rw[show ends (r::rs)=r.2.1::ends rs from Z,Tz,HI c]
   have j:=qL l h.tail;rw[e,DE,List.drop_succ_cons,List.drop_succ_cons,<- j];show DK _ (r::rs)=_;rw[CV<|by rw[HF<|B6.mpr<|Ea c]];rfl
  .have e:IR (ends<|r::rs) (l+1)=0:=Zu λx i=>by
    obtain⟨s,a,rfl⟩:=AQ.mp i
    rcases Ax.mp a with rfl|a
    .exact c
    .exact λz=>c<|CO (Bd (h.later a).1 (h.later a).2) z
   have g:Iu rs l=rs:=qpq λs a=>⟨CO (B6.mp c) (h.later a).1,(h.later a).2⟩
   rw[e,List.getElem?_cons_zero]
   show DK _ (r::rs)=if r.1<=l then (l+1,r.2.1,r.2.2)::rs else r::rs
   by_cases d:r.1<=l
   .have f:max r.1 (l+1)=l+1:=Int.max_eq_right<|Eo d;rw[BK (b:=(l+1,r.2.1,r.2.2))<|by rw[HI (show l<r.2.1 from B6.mp c),f],HI d];show _::Iu rs l=_;rw[g]
   .have f:max r.1 (l+1)=r.1:=Int.max_eq_left<|Ep.mp d;rw[BK (b:=r)<|by rw[HI (show l<r.2.1 from B6.mp c),f],HF d];show _::Iu rs l=_;rw[g]
def Tx (a:W)(rs b:List (IM W))(d:Int):Ir a (rs++b) d=Ir (Ir a rs d) b d:=by unfold Ir;rw[CP]
def Od (a:W)(r:IM W)(rs:List (IM W))(d:Int):Ir a (r::rs) d=Ir (if r.1<=d/\d<=r.2.1 then r.2.2 else a) rs d:=rfl
theorem qD:∀(a:W)(rs:List (IM W))(f d:Int),Ir a (left rs f) d=if d<f then Ir a rs d else a
 |a,[],f,d=>by show a=if d<f then a else a;split <;>rfl
 |a,r::rs,f,d=>by
  by_cases c:r.1<f
  .have e:left (r::rs) f=(r.1,min r.2.1<|f-1,r.2.2)::left rs f:=BK (by rw[HI c]);rw[e,Od,qD];by_cases q:d<f
   .rw[HI q,HI q,Od];have hz:(r.1<=d/\d<=min r.2.1 (f-1))↔(r.1<=d/\d<=r.2.1):=and_congr_right λ_=>⟨λz=>Bh z<|Int.min_le_left _ _,λz=>Int.le_min.mpr ⟨z,Int.le_sub_one_of_lt q⟩⟩;simp only[hz]
   .rw[HF q,HF q,HF (show ¬(r.1<=d/\d<=min r.2.1 (f-1)) from λz=>q<|Int.lt_of_le_sub_one<|Bh z.2<|Int.min_le_right _ _)]
  .have e:left (r::rs) f=left rs f:=CV (by rw[HF c]);rw[e,qD];by_cases q:d<f
   .rw[HI q,HI q,Od,HF<|λz=>c<|En z.1 q]
   .rw[HF q,HF q]
theorem qK:∀(a:W)(rs:List (IM W))(l d:Int),Ir a (Iu rs l) d=if l<d then Ir a rs d else a
 |a,[],l,d=>by show a=if l<d then a else a;split <;>rfl
 |a,r::rs,l,d=>by
  by_cases c:l<r.2.1
  .have e:Iu (r::rs) l=(max r.1<|l+1,r.2.1,r.2.2)::Iu rs l:=BK (by rw[HI c]);rw[e,Od,qK];by_cases q:l<d
   .rw[HI q,HI q,Od];have hz:(max r.1 (l+1)<=d/\d<=r.2.1)↔(r.1<=d/\d<=r.2.1):=and_congr_left λ_=>⟨λz=>Bh (Int.le_max_left _ _) z,λz=>Int.max_le.mpr ⟨z,q⟩⟩;simp only[hz]
   .rw[HF q,HF q,HF (show ¬(max r.1 (l+1)<=d/\d<=r.2.1) from λz=>q<|Bh (Int.le_max_right _ _) z.1)]
  .have e:Iu (r::rs) l=Iu rs l:=CV (by rw[HF c]);rw[e,qK];by_cases q:l<d
   .rw[HI q,HI q,Od,HF<|λz=>c<|Bd q z.2]
   .rw[HF q,HF q]
def qxg (a:W)(rs:List (IM W)){f l:Int}(w:W)(h:f<=l)(d:Int):Ir a (over rs f l w) d=if f<=d/\d<=l then w else Ir a rs d:=by
 unfold over;rw[Tx,Od,qD,qK];by_cases b:d<f
 .rw[HI b,HF<|B6.mpr<|Bh (Do b) h,HF (show ¬(f<=d/\d<=l) from λz=>B6.mpr z.1 b)]
 .by_cases c:l<d
  .rw[HF b,HI c,HF (show ¬(f<=d/\d<=l) from λz=>B6.mpr z.2 c)];exact(HF (show ¬(f<=d/\d<=l) from λz=>B6.mpr z.2 c)).symm
  .rw[HF b,HF c,HI (show f<=d/\d<=l from ⟨B6.mp b,B6.mp c⟩)];exact(HI (show f<=d/\d<=l from ⟨B6.mp b,B6.mp c⟩)).symm
def qr0 {rs:List (IM W)}{f l:Int}(w:W)(h:Dis rs)(p:f<=l):Dis (over rs f l w):=by
 have n:∀r∈left rs f,r.1<=r.2.1/\r.2.1<f:=λr i=>by
  obtain⟨s,m,e⟩:=Ce.mp i;have:=h.ok s m;split at e
  .injection e with e;subst e;show s.1<=min s.2.1 (f-1)/\min s.2.1 (f-1)<f;lia
  .cases e
 have i:∀r∈Iu rs l,r.1<=r.2.1/\l<r.1:=λr i=>by
  obtain⟨s,m,e⟩:=Ce.mp i;have:=h.ok s m;split at e
  .injection e with e;subst e;show max s.1 (l+1)<=s.2.1/\l<max s.1 (l+1);lia
  .cases e
 refine⟨λr g=>?_,?_⟩
 .rcases As.mp g with g|g
  .exact(n r g).1
  .rcases Ax.mp g with rfl|g
   .exact p
   .exact(i r g).1
 .refine Bg.mpr ⟨?_,BF.mpr ⟨λr g=>(i r g).2,?_⟩,λa q b k=>?_⟩
  .refine List.pairwise_filterMap.mpr<|h.pw.imp λ{r s} j x d y c=>?_;split at d
   .split at c
    .injection d with d;injection c with c;subst d;subst c;exact En (Int.min_le_left _ _) j
    .cases c
   .cases d
  .refine List.pairwise_filterMap.mpr<|h.pw.imp λ{r s} j x d y c=>?_;split at d
   .split at c
    .injection d with d;injection c with c;subst d;subst c;exact Bd j<|Int.le_max_left _ _
    .cases c
   .cases d
  .have o:=n a q;rcases Ax.mp k with rfl|k
   .exact o.2
   .exact CO (Bd o.2 p) (i b k).2
noncomputable def Kc (told:List (IM W))(r:IM W):List (IM W):=match told.getLast? with
 |some t=>if t.2.2=r.2.2/\t.2.1+1=r.1 then told.dropLast++[(t.1,r.2.1,r.2.2)] else told++[r]
 |none=>told++[r]
def Nx (r s:IM W):Prop:=r.2.1<s.1/\(s.1=r.2.1+1->r.2.2≠s.2.2)
structure Ap (rs:List (IM W)):Prop where
 ok:∀r∈rs,r.1<=r.2.1
 nx:∀i r s,rs[i]?=HA r->rs[i+1]?=HA s->Nx r s
def ly {rs:List (IM W)}{t:IM W}(h:Ap rs)(g:t.1<=t.2.1)(j:∀z,rs.getLast?=HA z->Nx z t):Ap (rs++[t]):=by
 refine⟨λr a=>?_,λi r s d b=>?_⟩
 .rcases As.mp a with a|a
  .exact h.ok r a
  .rwa[Aj.mp a]
 .have f:i+1<rs.length+1:=by
   have:=(Ac.mp b).1
   simpa using this
  rw[AB<|Nat.lt_of_succ_lt_succ f]at d
  by_cases c:i+1<rs.length
  .rw[AB c]at b;exact h.nx i r s d b
  .have e:i+1=rs.length:=Nat.le_antisymm (Nat.le_of_lt_succ f)<|DU.mp c;rw[AV<|DU.mp c,e,DL]at b;cases b;refine j r ?_;rw[Du,show rs.length-1=i by rw[<- e];rfl];exact d
def Q5 {rs:List (IM W)}{t:IM W}(h:Ap (rs++[t])):Ap rs/\t.1<=t.2.1/\∀z,rs.getLast?=HA z->Nx z t:=by
 refine⟨⟨λr d=>h.ok r<|BA _ d,λi r s c a=>?_⟩,h.ok t<|by simp,λz hz=>?_⟩
 .have f:=(Ac.mp c).1;have e:=(Ac.mp a).1;exact h.nx i r s (by rwa[AB f]) (by rwa[AB e])
 .rw[Du]at hz;have g:=(Ac.mp hz).1;refine h.nx (rs.length-1) z t (by rwa[AB g]) ?_;have b:=Nat.sub_add_cancel<|CF (AR _) g;rw[AV<|BN b.symm,b,DL];rfl
def Xm {α:Type}(xs:List α)(x:α):(xs++[x]).getLast?=HA x:=by simp
def Tw (rs:List (IM W))(t r:IM W):Kc (rs++[t]) r=if t.2.2=r.2.2/\t.2.1+1=r.1 then rs++[(t.1,r.2.1,r.2.2)] else rs++[t]++[r]:=by unfold Kc;rw[Xm];simp
theorem Uc {b:List (IM W)}{r:IM W}(h:Ap b)(j:r.1<=r.2.1)(m:∀z,b.getLast?=HA z->z.2.1<r.1) :
  Ap (Kc b r)/\(∀z,(Kc b r).getLast?=HA z->z.2.1=r.2.1)/\∀a d,Ir a (Kc b r) d=Ir a (b++[r]) d:=by
 rcases Bm b with rfl|⟨rs,t,rfl⟩
 .refine⟨ly h j (λz hz=>by cases hz),λz hz=>?_,λ_ _=>rfl⟩;have:z=r:=by simpa [Kc] using hz.symm
  rw[this]
 .rw[Bo]at h m |-;rw[Tw];obtain⟨o,l,n⟩:=Q5 h;have k:=m t<|Xm rs t;by_cases c:t.2.2=r.2.2/\t.2.1+1=r.1
  .rw[HI c];refine⟨ly o (show t.1<=r.2.1 from Bh l (Bh (Do k) j))<|λz hz=>?_,λz hz=>?_,λa d=>?_⟩
   .have:=n z hz;exact⟨this.1,λe=>by rw[<- c.1];exact this.2 e⟩
   .rw[Xm]at hz;cases hz;rfl
   .rw[Tx,Tx,Tx];show (if t.1<=d/\d<=r.2.1 then r.2.2 else _)=if r.1<=d/\d<=r.2.1 then r.2.2 else if t.1<=d/\d<=t.2.1 then t.2.2 else _;rw[c.1];by_cases f:r.1<=d/\d<=r.2.1
    .rw[HI f,HI ⟨Bh l<|Bh (Do k) f.1,f.2⟩]
    .rw[HF f];by_cases i:t.1<=d/\d<=t.2.1
     .rw[HI i,HI ⟨i.1,Bh i.2<|Bh (Do k) j⟩]
     .rw[HF i,HF λz=>(Int.lt_or_le d r.1).elim (λy=>i ⟨z.1,Ea (by rwa[c.2])⟩) λy=>f ⟨y,z.2⟩]
  .rw[HF c];refine⟨ly h j<|λz hz=>?_,λz hz=>?_,λ_ _=>rfl⟩
   .rw[Xm]at hz;cases hz;exact⟨k,λe g=>c ⟨g,e.symm⟩⟩
   .rw[Xm]at hz;cases hz;rfl
def jn (rs:List (IM W)):List (IM W):=rs.foldl Kc []
def YH {rs:List (IM W)}(h:Dis rs):Ap (jn rs)/\∀a d,Ir a (jn rs) d=Ir a rs d:=by
 have step:∀(f c:List (IM W))(b:List (IM W)),Dis (c++f)->Ap b->(∀z,b.getLast?=HA z->∃y∈c,z.2.1=y.2.1)->(∀a d,Ir a b d=Ir a c d) ->
   Ap (f.foldl Kc b)/\∀a d,Ir a (f.foldl Kc b) d=Ir a (c++f) d:=by
  intro f
  induction f with
  |nil=>intro c b _ k _ j;exact⟨k,λa d=>by rw[Br];exact j a d⟩
  |cons r f ih =>
   intro c b g k n j;have m:=g.ok r (by simp);have l:∀z,b.getLast?=HA z->z.2.1<r.1:=λz hz=>by obtain⟨y,o,e⟩:=n z hz;rw[e];exact(Bg.mp g.pw).2.2 y o r Am
   obtain⟨q,t,p⟩:=Uc k m l;have e:c++r::f=(c++[r])++f:=by simp
   rw[e];rw[e]at g;refine ih (c++[r]) (Kc b r) g q (λz hz=>⟨r,by simp,t z hz⟩) λa d=>?_;rw[p,Tx,Tx,j]
 exact step rs [] [] h ⟨λ_ h=>absurd h A9,λi r s h=>by cases h⟩ (λz hz=>by cases hz) λ_ _=>rfl
def NP (rs:List (IM W)):List (IM W):=rs.foldl (λlaid r=>over laid r.1 r.2.1 r.2.2) []
def NN (rs:List (IM W))(r:IM W):NP (rs++[r])=over (NP rs) r.1 r.2.1 r.2.2:=by unfold NP;rw[CP];rfl
def NO {rs:List (IM W)}(h:∀r∈rs,r.1<=r.2.1):Dis (NP rs)/\∀a d,Ir a (NP rs) d=Ir a rs d:=by
 have step:∀(c b laid:List (IM W)),(∀r∈c,r.1<=r.2.1)->Dis laid->(∀a d,Ir a laid d=Ir a b d) ->
   Dis (c.foldl (λlaid r=>over laid r.1 r.2.1 r.2.2) laid)/\∀a d,Ir a (c.foldl (λlaid r=>over laid r.1 r.2.1 r.2.2) laid) d=Ir a (b++c) d:=by
  intro c
  induction c with
  |nil=>intro b laid _ g f;exact⟨g,λa d=>by rw[Br];exact f a d⟩
  |cons r c ih =>
   intro b laid j g f;have i:=j r Am;have e:b++r::c=(b++[r])++c:=by simp
   rw[e];refine ih (b++[r]) _ (λs k=>j s<|A1 _ k) (qr0 r.2.2 g i) λa d=>?_;rw[qxg a laid r.2.2 i,Tx,f];rfl
 exact step rs [] [] h ⟨λ_ h=>absurd h A9,Ew⟩ λ_ _=>rfl
def ov (rs:List (IM W)):List (IM W):=jn<|NP rs
def Mt {rs:List (IM W)}(h:∀r∈rs,r.1<=r.2.1):Ap (ov rs)/\∀a d,Ir a (ov rs) d=Ir a rs d:=by obtain⟨f,c⟩:=NO h;obtain⟨e,b⟩:=YH f;exact⟨e,λa d=>(b a d).trans<|c a d⟩
def Ti {rs:List (IM W)}(h:Ap rs):Dis rs:=by
 refine⟨h.ok,?_⟩;rw[Ba];intro i j b _ _;have step:∀n,∀(a:i+1+n<rs.length),(rs[i]'b).2.1<(rs[i+1+n]'a).1:=by
  intro n
  induction n with
  |zero=>intro a;exact(h.nx i (rs[i]'b) (rs[i+1]'a) (Ad _)<|Ad _).1
  |succ n ih =>intro a;have g:=ih<|Nat.lt_of_succ_lt a;have k:=(h.nx (i+1+n) (rs[i+1+n]'(Nat.lt_of_succ_lt a)) (rs[i+1+n+1]'a) (Ad _)<|Ad _).1;have m:=h.ok rs[i+1+n]<|B9 _;exact CO (Bd g m) k
 have:=step (j-i-1) sZ;simpa [show i+1+(j-i-1)=j by lia] using this
def qvi {rs:List (IM W)}(h:Dis rs):(ends rs).Pairwise (· < ·):=by refine Ck.mpr ?_;refine(List.Pairwise.and_mem.mp h.pw).imp λ{r s} q=>?_;have:=h.ok s q.2.1;have:=q.2.2;lia
end
end Lay
namespace Srt
open PySem PySem.W PyProof.Rows
section
variable {α β:Type}{n:Nat}{r:Nat->Nat->Bool}
def Sat {α:Type}(n:Nat)(r:Nat->Nat->Bool):KasT α->(α->Prop)->Prop
 |.ret a,Q=>Q a
 |.ask i j k,Q=>i<n/\j<n/\Sat n r (k<|r i j) Q
theorem Sat.mono:∀{t:KasT α}{Q b:α->Prop},Sat n r t Q->(∀a,Q a->b a)->Sat n r t b
 |.ret _,_,_,h,q=>q _ h
 |.ask i j k,_,_,h,q=>⟨h.1,h.2.1,Sat.mono (t:=k<|r i j) h.2.2 q⟩
theorem Sat.bind {f:α->KasT β}:∀{t:KasT α}{Q:β->Prop},Sat n r t (λa=>Sat n r (f a) Q)->Sat n r (t.bind f) Q
 |.ret _,_,h=>h
 |.ask i j k,_,h=>⟨h.1,h.2.1,Sat.bind (t:=k<|r i j) h.2.2⟩
theorem Sat.wp {b:Nat->Nat->(Bool->Af->Prop)->Af->Prop}{s:Af}(c:∀i j C,i<n->j<n->C (r i j) s->b i j C s):∀{t:KasT α}{Q:α->Prop}{d:α->Af->Prop},Sat n r t Q->(∀a,Q a->d a s)->t.kasWp b d s
 |.ret a,_,_,h,q=>q a h
 |.ask i j k,_,_,h,q=>c i j _ h.1 h.2.1<|Sat.wp c (t:=k<|r i j) h.2.2 q
end
structure Ord (r:Nat->Nat->Bool):Prop where
 asym:∀i j,r i j=HG->r j i=HH
 trans:∀i j k,r j i=HH->r k j=HH->r k i=HH
section
variable {n:Nat}{r:Nat->Nat->Bool}
section
variable {p:Array Nat}{i j a b d:Nat}
noncomputable abbrev IX (p:Array Nat)(i:Nat):Nat:=p.getD i 0
structure Gd (n:Nat)(p:Array Nat):Prop where
 perm:p.Perm (An n).toArray
theorem Gd.size (h:Gd n p):p.size=n:=by rw[h.perm.size_eq];simp
theorem Gd.lt (h:Gd n p)(b:0<n)(i:Nat):IX p i<n:=by
 by_cases a:i<p.size
 .have e:IX p i=p[i]:=by simp[IX,a]
  rw[e];have:p[i]∈p:=Array.getElem_mem a;have:=h.perm.mem_iff.mp this;simpa using this
 .have e:IX p i=0:=by simp[IX,a]
  rwa[e]
def Up (r:Nat->Nat->Bool)(p:Array Nat)(k:Nat):Prop:=∀i j,i<=j->j<k->r (IX p j) (IX p i)=HH
def OO (r:Nat->Nat->Bool)(p:Array Nat)(k:Nat):Prop:=∀i j,i<=j->j<k->r (IX p i) (IX p j)=HH
theorem Ord.irr (o:Ord r)(i:Nat):r i i=HH:=by
 cases h:r i i with|false=>rfl|true=>rw[o.asym i i h]at h;cases h
theorem On (o:Ord r){k:Nat}(h:Up r p k)(h1:1<=k)(e:r (IX p k) (IX p<|k-1)=HH):Up r p (k+1):=by
 intro i j a _;by_cases c:j<k
 .exact h i j a c
 .have d:j=k:=by lia
  subst d;by_cases b:i=j
  .rw[b];exact o.irr _
  .exact o.trans _ _ _ (h i (j-1) sZ<|sZ) e
theorem Xl (o:Ord r){k:Nat}(h:OO r p k)(h1:1<=k)(e:r (IX p<|k-1) (IX p k)=HH):OO r p (k+1):=by
 intro i j a _;by_cases c:j<k
 .exact h i j a c
 .have d:j=k:=by lia
  subst d;by_cases b:i=j
  .rw[b];exact o.irr _
  .exact o.trans _ _ _ e (h i (j-1) sZ<|sZ)
theorem jS (o:Ord r){p:Array Nat}(g:Gd n p)(a:0<n):∀(f k:Nat),Up r p k->1<=k->Sat n r (kas_asc p f k) λm=>k<=m/\m<=k+f/\Up r p m/\(m=k+f\/r (IX p m) (IX p<|m-1)=HG)
 |0,k,h,_=>⟨Al _,Al _,h,.inl Z⟩
 |f+1,k,h,h1=>by
  refine⟨g.lt a _,g.lt a _,?_⟩;cases c:r (IX p k) (IX p<|k-1) with
  |true=>dsimp only;rw[HI Z];exact⟨Al _,sZ,h,.inr c⟩
  |false =>
   dsimp only;rw[HF<|by simp];refine(jS o g a f (k+1) (On o h h1 c)<|sZ).mono λm b=>⟨sZ,sZ,b.2.2.1,?_⟩;rcases b.2.2.2 with e|e
   .exact .inl sZ
   .exact .inr e
theorem Rj (a:j<=p.size)(k:Nat):IX (kas_rev p i j) k=if i<=k/\k<j then IX p (i+j-1-k) else IX p k:=by
 unfold IX kas_rev;rw[C8,getElem?_mirror_all a];split
 .rw[C8]
 .rw[C8]
theorem Wv (g:Gd n p)(i j:Nat):Gd n (kas_rev p i j):=⟨(mirror_perm _ _ _ _).trans g.perm⟩
def VR (r:Nat->Nat->Bool)(p:Array Nat)(a b:Nat):Prop:=∀i j,a<=i->i<b->a<=j->j<b->r (IX p i) (IX p j)=HH
theorem oT (o:Ord r)(e:b<=p.size)(h:OO r p b)(g:VR r p a b):OO r (kas_rev p a b) b:=by
 intro i j d c;rw[Rj e,Rj e];by_cases f:a<=i
 .rw[HI ⟨f,sZ⟩,HI ⟨sZ,c⟩];exact g _ _ sZ sZ sZ sZ
 .rw[HF<|sZ];by_cases k:a<=j
  .rw[HI ⟨k,c⟩];exact h _ _ sZ sZ
  .rw[HF<|sZ];exact h _ _ d c
theorem TK (a:b<=p.size)(h:OO r p b):Up r (kas_rev p 0 b) b:=by intro i j _ c;rw[Rj a,Rj a,HI ⟨sZ,c⟩,HI ⟨sZ,sZ⟩];exact h _ _ sZ sZ
theorem ZR (o:Ord r)(b:0<n):∀(f:Nat)(p:Array Nat)(k q:Nat),Gd n p->OO r p k->q+1<=k->k+f<=n->VR r p (k-(q+1)) k ->
  Sat n r (kas_desc f p k q) λt=>Gd n t.1/\OO r t.1 t.2.1/\t.2.2+1<=t.2.1/\t.2.1<=k+f/\VR r t.1 (t.2.1-(t.2.2+1)) t.2.1
 |0,p,k,q,g,h,h1,_,hf=>⟨g,h,h1,Al _,hf⟩
 |f+1,p,k,q,g,h,h1,hk,hf=>by
  have hs:=g.size;refine⟨g.lt b _,g.lt b _,?_⟩;cases c:r (IX p k) (IX p<|k-1) with
  |true =>
   dsimp only;rw[HI Z];have v:=o.asym _ _ c;have one:∀m:Array Nat,VR r m (k+1-(0+1)) (k+1):=λm i j _ _ _ _=>by
    have:i=j:=by lia
    rw[this];exact o.irr _
   by_cases u:q > 0
   .rw[HI u];have x:=oT o (show k<=p.size by lia) h hf;have e:r (IX (kas_rev p (k-(q+1)) k)<|k-1) (IX (kas_rev p (k-(q+1)) k) k)=HH:=by rw[Rj<|sZ,Rj<|sZ,HI ⟨sZ,sZ⟩,HF<|sZ];exact o.trans _ _ _ v (hf _ _ sZ sZ sZ<|sZ)
    refine(ZR o b f _ (k+1) 0 (Wv g _ _) (Xl o x sZ e) sZ sZ<|one _).mono λt a=>⟨a.1,a.2.1,a.2.2.1,sZ,a.2.2.2.2⟩
   .rw[HF u];exact(ZR o b f _ (k+1) 0 g (Xl o h sZ v) sZ sZ<|one _).mono λt a=>⟨a.1,a.2.1,a.2.2.1,sZ,a.2.2.2.2⟩
  |false =>
   dsimp only;rw[HF<|by simp];refine⟨g.lt b _,g.lt b _,?_⟩;cases d:r (IX p<|k-1) (IX p k) with
   |true=>dsimp only;rw[HI Z];exact⟨g,h,h1,by show k<=k+(f+1);lia,hf⟩
   |false =>
    dsimp only;rw[HF<|by simp];have s:VR r p (k+1-(q+1+1)) (k+1):=by
     intro i j _ _ _ _;by_cases w:i=k
     .by_cases l:j=k
      .rw[w,l];exact o.irr _
      .rw[w];exact o.trans _ _ _ (hf (k-1) j sZ sZ sZ<|sZ) c
     .by_cases l:j=k
      .rw[l];exact o.trans _ _ _ d (hf i (k-1) sZ sZ sZ<|sZ)
      .exact hf i j sZ sZ sZ sZ
    exact(ZR o b f p (k+1) (q+1) g (Xl o h sZ d) sZ sZ s).mono λt a=>⟨a.1,a.2.1,a.2.2.1,sZ,a.2.2.2.2⟩
theorem qr1 (o:Ord r)(c:0<n){k:Nat}(g:Gd n p)(h:OO r p k)(d:1<=k)(b:k<=n):Sat n r (kas_tail3 k n p) λt=>Gd n t.2/\Up r t.2 t.1/\1<=t.1/\t.1<=n:=by refine Sat.bind ((jS o (Wv g 0 k) c (n-k) k (TK (by rwa[g.size]) h) d).mono λm a=>?_);exact⟨Wv g 0 k,a.2.2.1,by show 1<=m;lia,by show m<=n;lia⟩
theorem ql6 (o:Ord r)(a:0<n){k:Nat}(g:Gd n p)(h:OO r p (k+1))(hk:k+1<=n):Sat n r (kas_descPart k n p) λt=>Gd n t.2/\Up r t.2 t.1/\1<=t.1/\t.1<=n:=by
 refine Sat.bind ((ZR o a (n-(k+1)) p (k+1) 0 g h sZ sZ (λi j _ _ _ _=>by
  have:i=j:=by lia
  rw[this];exact o.irr _)).mono λt f=>?_)
 obtain⟨b,d,_,_,e⟩:=f;have hs:=b.size;by_cases c:t.2.2 > 0
 .rw[HI c];exact qr1 o a (Wv b _ _) (oT o sZ d e) sZ sZ
 .rw[HF c];exact qr1 o a b d sZ sZ
theorem N6 (o:Ord r)(a:0<n)(g:Gd n p):Sat n r (kas_count n p) λt=>Gd n t.2/\Up r t.2 t.1/\1<=t.1/\t.1<=n:=by
 refine Sat.bind ((jS o g a (n-1) 1 (λi j q b=>by
  have:i=j:=by lia
  rw[this];exact o.irr _)<|Al _).mono λm u=>?_)
 obtain⟨l,_,h,f⟩:=u;by_cases c:(m == n)=HG
 .rw[HI c];exact⟨g,h,l,by show m<=n;lia⟩
 .rw[HF c];have cn:m≠n:=λz=>c (by rw[z];exact beq_self_eq_true n);have e:r (IX p m) (IX p<|m-1)=HG:=by
   rcases f with f|f
   .lia
   .exact f
  by_cases s:m > 1
  .rw[HI s];refine⟨g.lt a _,g.lt a _,?_⟩;cases d:r (IX p 0) (IX p<|m-1) with|true=>dsimp only;rw[HI Z];exact⟨g,h,l,by show m<=n;lia⟩|false =>dsimp only;rw[HF<|by simp];have k:VR r p 0 m:=λi j _ w _ b=>o.trans _ _ _ (h j (m-1) sZ<|sZ) (o.trans _ _ _ d<|h 0 i sZ w);have v:OO r (kas_rev p 0 m) m:=oT o (by rw[g.size];lia) (λi j _ b=>k i j sZ sZ sZ b) k;refine ql6 o a (Wv g _ _) (Xl o v l ?_) sZ;rw[Rj (by rw[g.size];lia),Rj (by rw[g.size];lia),HI ⟨sZ,sZ⟩,HF<|sZ];exact o.trans _ _ _ (o.asym _ _ e) (k _ _ sZ sZ sZ<|sZ)
  .rw[HF s];have:m=1:=by lia
   subst this;refine ql6 o a g (Xl o (λi j q b=>?_) sZ<|o.asym _ _ e) sZ;have:i=j:=by lia
   rw[this];exact o.irr _
theorem oS (o:Ord r)(j:0<n){p:Array Nat}{k:Nat}(g:Gd n p)(h:Up r p k):∀(f a b:Nat),b-a<=f->a<=b->b<=k->(∀i,i<a->r (IX p k) (IX p i)=HH)->(∀i,b<=i->i<k->r (IX p k) (IX p i)=HG) ->
  Sat n r (kas_place p k f a b) λl=>l<=k/\(∀i,i<l->r (IX p k) (IX p i)=HH)/\∀i,l<=i->i<k->r (IX p k) (IX p i)=HG
 |0,a,b,hf,hab,hb,h1,h2=>⟨sZ,h1,λi e=>h2 i<|sZ⟩
 |f+1,a,b,hf,hab,hb,h1,h2=>by
  unfold kas_place;by_cases c:a ≥ b
  .rw[HI c];exact⟨sZ,h1,λi e=>h2 i<|sZ⟩
  .rw[HF c];refine⟨g.lt j _,g.lt j _,?_⟩;cases d:r (IX p k) (IX p<|(a+b) / 2) with
   |true =>
    dsimp only;rw[HI Z];refine oS o j g h f a ((a+b) / 2) sZ sZ sZ h1 λi e m=>?_;by_cases q:b<=i
    .exact h2 i q m
    .cases z:r (IX p k) (IX p i) with
     |true=>rfl
     |false =>have:=o.trans _ _ _ (h ((a+b) / 2) i e m) z;rw[d]at this;cases this
   |false =>dsimp only;rw[HF<|by simp];refine oS o j g h f ((a+b) / 2+1) b sZ sZ hb (λi e=>?_) h2;exact o.trans _ _ _ (h i ((a+b) / 2) sZ<|sZ) d
theorem qpr {k:Nat}(b:k<p.size)(a:d<=k)(i:Nat):IX (bubble p k d) i=if i=k-d then IX p k else if k-d<i/\i<=k then IX p (i-1) else IX p i:=by
 have e:∀(q:Array Nat)(j:Nat),IX q j=q[j]?.getD 0:=λq j=>C8;rw[e,e,e,e,getElem?_bubble b d a];split
 .rfl
 .split <;>rfl
theorem OF (o:Ord r)(c:0<n):∀(f:Nat)(p:Array Nat)(k:Nat),Gd n p->Up r p k->k+f=n->Sat n r (kas_bin f p k) λq=>Gd n q/\Up r q n
 |0,p,k,g,h,e=>by
  have u:k=n:=by lia
  subst u;exact⟨g,h⟩
 |f+1,p,k,g,h,e=>by
  have hs:=g.size;refine Sat.bind ((oS o c g h k 0 k sZ sZ (Al _) (λi t=>sZ)<|λi t _=>sZ).mono λl s=>?_);obtain⟨_,v,m⟩:=s;refine OF o c f _ (k+1) ⟨(bubble_perm _ _ _).trans g.perm⟩ (λi j b _=>?_) sZ;rw[qpr sZ<|sZ,qpr sZ<|sZ,show k-(k-l)=l by lia];by_cases d:i=l
  .rw[HI d];by_cases a:j=l
   .rw[HI a];exact o.irr _
   .rw[HF a,HI ⟨sZ,sZ⟩];exact o.asym _ _ (m (j-1) sZ<|sZ)
  .rw[HF d];by_cases a:j=l
   .rw[HI a,HF<|sZ];exact v i sZ
   .rw[HF a];by_cases c1:l<i
    .rw[HI (show l<j/\j<=k by lia),HI (show l<i/\i<=k by lia)];exact h _ _ sZ sZ
    .rw[HF (show ¬(l<i/\i<=k) by lia)];by_cases c2:l<j
     .rw[HI (show l<j/\j<=k by lia)];exact h _ _ sZ sZ
     .rw[HF (show ¬(l<j/\j<=k) by lia)];exact h _ _ b sZ
theorem PJ (o:Ord r)(a:0<n):Sat n r (kas_sort n) λq=>Gd n q/\Up r q n:=by
 refine Sat.bind<|(N6 o a ⟨.refl _⟩).mono λt b=>?_;obtain⟨g,h,_,_⟩:=b;by_cases c:t.1<n
 .rw[HI c];have:max t.1 1=t.1:=by lia
  rw[this];exact OF o a _ _ _ g h sZ
 .rw[HF c];have:t.1=n:=by lia
  rw[this]at h;exact⟨g,h⟩
end
end
end Srt
namespace Srt
open PySem PySem.W PySem.Calls PyProof.Rows
section
variable {prog:AJ}{w:HQ}{A:AO}{E:tR}{s:Af}
noncomputable abbrev OU (vs:tH)(p:Array Nat):tH:=p.toList.map λi=>vs.getD i CS
def qxi (vs:tH):OU vs (An vs.length).toArray=vs:=by
 unfold OU;refine Cm λi=>?_;rw[Ai];by_cases h:i<vs.length
 .simp[h]
 .simp[h]
end
end Srt
namespace Add
open PySem PySem.Spec PyProof.Rows L2 Srt PySem.W
noncomputable def Qn (r:Int×Int):tW:=[.int r.1,.int r.2]
def qt4 {α:Type}(xs:List α)(d:α):(An xs.length).map (λi=>xs.getD i d)=xs:=by
 refine Cm λi=>?_;rw[Ai];by_cases h:i<xs.length
 .simp[h]
 .simp[h]
section
variable {X:Cx}{pins:List (HC×Obj)}{σ:L2.St}{H:Hp}{s:Af}
theorem qps {us:tW}{its:tH}(rv:Vals us its):∀(js:tP),(∀i∈js,i<its.length)->Vals (js.map λi=>us.getD i V.non) (js.map λi=>its.getD i CS)
 | [],_=>.nil
 |i::js,h=>by
  have d:=h i Am;have a:i<us.length:=by rwa[rv.length]
  obtain⟨v,b,r⟩:=rv.get (i:=i) (x:=us[i]) (by simp[a]);refine .cons ?_<|qps rv js λj c=>h j<|A1 _ c;show L2.RelV (us.getD i V.non) (its.getD i CS);rwa[Ak,Ak,b,Ad a]
end
end Add
namespace Mrg
noncomputable abbrev S2:=Int×Int
abbrev _root_.uB:=List S2
noncomputable def R6 (rs:uB)(d:Int):Bool:=rs.any λr=>decide (r.1<=d) && decide (d<=r.2)
noncomputable def mg1 (told:uB)(r:S2):uB:=match told.getLast? with
 |some t=>if r.1<=t.2+1 then told.dropLast++[(t.1,if r.2 > t.2 then r.2 else t.2)] else told++[r]
 |none=>told++[r]
def mg (rs:uB):uB:=rs.foldl mg1 []
end Mrg
namespace Add
open PySem PySem.Spec PyProof.Rows L2
section
variable {X:Cx}{f a:List (HC×Obj)}{σ:L2.St}{H:Hp}{e it b:HC}{K:Ag}
theorem qvj {s:Af}{h':HX}{t':Nat}(I:Inv X f σ H s)(k:∀b o,b≠e->b≠it->s.heap.get? b=HA o->h'.get? b=HA o)(i:La X f H e)(h:La X f H it) :
  Inv X f σ H {s with heap:=h',toks:=t'}:=by
 have j:∀b u,H b=HA u->b≠e:=λb u q z=>by rw[z,i.1]at q;cases q
 have l:∀b u,H b=HA u->b≠it:=λb u q z=>by rw[z,h.1]at q;cases q
 have d:∀b,b∉[e,it]->b≠e/\b≠it:=λb g=>⟨λz=>g (by simp[z]),λz=>g (by simp[z])⟩;refine I.step (g':=s.gens) (d':=s.drawn) (ch:=[e,it]) (λb g=>?_) (λb o _ _ a q _=>k b o (d b a).1 (d b a).2 q) (λb o _ _ a q _=>⟨o.slots,k b o (d b a).1 (d b a).2 q⟩) (λ_ _ _ _ n=>n)
  (λb o a q=>⟨o,k b o (d b a).1 (d b a).2 q⟩) (λ_ _ q=>q) (λ_ _ _ q=>q) (λb _ q=>⟨#[],by rw[q];simp⟩) (λm p=>?_) (λb u q=>?_) I.bare
 .rcases Ax.mp g with rfl|g
  .exact⟨i.2.2.2.1,i.2.1,i.2.2.2.2.1,i.2.2.2.2.2⟩
  .cases Aj.mp g;exact⟨h.2.2.2.1,h.2.1,h.2.2.2.2.1,h.2.2.2.2.2⟩
 .obtain⟨o,es,ep,t,r⟩:=p;exact HW o es ep ⟨k _ o (By i.2.1) (By h.2.1) t,r⟩
 .refine(I.hok b u q).stay (λc v a z=>k c v ?_ ?_ z) (λ_ z=>z) λ_ _ z=>z
  .rcases a with rfl|a
   .exact j _ u q
   .exact j c _ a
  .rcases a with rfl|a
   .exact l _ u q
   .exact l c _ a
def Yh (K:Ag)(a:HC):It :=
 ⟨λi H=>∃xs x,SqL K H a xs/\xs[i]?=HA x,λi H x H'=>∀xs,SqL K H a xs->∃y t,xs[i]?=HA y/\H t=HD/\x=.ref t/\H'=upd H t (.tup [.int i,y]),λi H=>∃xs,SqL K H a xs/\xs.length<=i⟩
theorem Nl {t:HC}{o:HO}(f:La X a H b)(c:b≠t):La X a (L2.upd H t o) b:=⟨by rw[qr c];exact f.1,f.2⟩
theorem qxj {P:AJ}{w:HQ}{es:tN}{kk pos}(a e it:HC)(G:e≠it):Turn P w K (.Tuple es kk pos) (Yh K a) [e,it] e (λi h=>∃f,IsEnum h e it i f/\h.IsListIter it a i) where
 mem:=by simp
 obj:=λi h st b l=>by
  obtain⟨f,t,o,j,c,d⟩:=st;rcases Ax.mp l with rfl|l
  .exact⟨_,t,λv z=>by cases z⟩
  .cases Aj.mp l;exact⟨o,j,λv z=>by rw[d]at z;cases z⟩
 keep:=λi h h' st k=>by obtain⟨f,t,j⟩:=st;exact⟨f,k e (by simp) _ t,j.at λo q=>k it (by simp) o q⟩
 item:=by
  intro X O R M V i T s σ H E I r st L;subst O R M;obtain⟨f,m,g⟩:=st;obtain⟨xs,x,B,N⟩:=L;obtain⟨its,rv,p,hz⟩:=I.list B;obtain⟨u,hu,ru⟩:=rv.get N;have D:=r e (by simp);have C:=r it (by simp);refine wpAny_pyNext_enum_item m g p.isList (x:=u) (by simpa using hu) G λt ho S ht _ keep=>⟨_,Z,?_⟩;refine wpAny_letOwnedTupleGo_enum ho λj W n=>?_
  replace n:CM e t j:=n
  have y:e<s.heap.objs.size:=AC m;obtain⟨_,ae,_⟩:=id g;have F:it<s.heap.objs.size:=AC ae;have ad:j.get? s.heap.objs.size=HA {cls:=.type "tuple",data:=.seq #[.int i s.toks,u]}:=(n.2 _<|Cv y).trans ht;have Y:H s.heap.objs.size=HD:=I.hok.fresh<|Al _;have I1:=I.laid (a:=s.heap.objs.size) (o:=.tup [.int i,x]) (h':=s.heap.push {cls:=.type "tuple",data:=.seq #[.int i s.toks,u]}) (t':=s.toks) (λb o q=>Aw _ q) (Al _) ⟨show 2<=A4 by rw[Bv];decide,[.int i s.toks,u],.cons ⟨_,Z⟩<|.cons ru .nil,⟨_,AX _ Z,Z,_,Z⟩⟩;have I2:=qvj (h':=j) (t':=s.toks+1) I1 (λb o J U q=>by
   by_cases z:b=s.heap.objs.size
   .subst z;rw[AX _ Z]at q;cases q;exact ad
   .rw[Heap.get?_push_ne _ _ _ z]at q;exact(n.2 b J).trans<|keep b o J U q) (Nl D<|AD y)<|Nl C<|AD F
  refine HP (.ref s.heap.objs.size) _ ⟨I2,Z,λ_ hy=>?_,⟨u,W,S.at λo q=>(n.2 it<|By G).trans q⟩,λb l=>?_⟩
  .rw[I.list_inj hy B];exact HP x _ ⟨N,Y,Z,Z⟩
  .rcases Ax.mp l with rfl|l
   .rw[qr<|AD y];exact D.1
   .cases Aj.mp l;rw[qr<|AD F];exact C.1
 done:=by intro X O R M V i T s σ H E I r st L;subst O R M;obtain⟨f,m,g⟩:=st;obtain⟨xs,B,N⟩:=L;obtain⟨its,rv,p,hz⟩:=I.list B;have hl:=rv.length;have D:=r e (by simp);have C:=r it (by simp);exact wpAny_pyNext_enum_end (I.ok.hd V) m g p.isList (by simp;lia) λh' eb=>⟨Z,qvj (t':=s.toks) I (λb o J U q=>eb b o U q) D C⟩
 self:=λA i s Q E st h=>by obtain⟨f,m,g⟩:=st;exact wpAny_pyIter_enum m h
def YQ (K:Ag)(ta:TA):TI:=λσ H R=>ta σ H λvs H1=>∃a xs,vs=[.ref a]/\H1 a=HA (.lst xs)/\R (Yh K a) H1
theorem qxk:bootBuiltins "enumerate"=HA (.type "enumerate"):=Uk
theorem ZQ {es:tN}{v:_}{g:Pos}{a:HS}{m:TA}{p pos:Pos}(y:Gl X "enumerate")(r:X.mg "enumerate"=HD)(t:PA X [a] m)(C:autoParam (starEach [a] X.env=[(HH,eval a X.env)]) uG):PI X (.Tuple es v g) (.Call (.Name "enumerate" p) [a] [] pos) (YQ X.K m):=by
 intro f s σ H R I h;refine Call_<|Rh I y r qxk<|Ch (Hy (t pos f s σ H _ I h) λ_ d w31a'=>?_) C Z;obtain⟨_,o,c,D,A⟩:=w31a';obtain⟨l,_,e,x,q⟩:=A;subst e;obtain⟨u,rfl,w⟩:=RX D;cases Ve w;obtain⟨z,_,n,_,_,e⟩:=c.lstM x;refine call_enumerate_1 e λh' j k _ keep=>wpAny_pyIter_enum j ?_;have B:Inv X f σ o {d with heap:=h'}:=c.kept (t':=d.toks) keep;refine J0 (d.heap.objs.size+1) [d.heap.objs.size+1,d.heap.objs.size] _ _ o ⟨Z,B,qxj l _ _<|Cv<|BQ _,⟨.none,j,k⟩,λb i=>?_,q⟩;rcases Ax.mp i with rfl|i
 .exact c.fpOk (CA _)<|c.hok.fresh<|CA _
 .cases Aj.mp i;exact c.fpOk (Al _)<|c.hok.fresh<|Al _
theorem Zt {a:HC}{xs:tW}{g:TG}{tb:TS}{D:Ends}(b:Nat->L2.St->Hp->Prop)(r:b 0 σ H)(h:∀i σ H,i<=xs.length->b i σ H->SqL K H a xs)
  (l:∀i x t σ H,xs[i]?=HA x->b i σ H->H t=HD->g (.ref t) σ (upd H t<|.tup [.int i,x]) λσ2 d=>tb {D with nx:=b<|i+1,ct:=b<|i+1,bk:=D.nx} σ2 d)(hd:∀σ H,b xs.length σ H->D.nx σ H) :
  ∃W:Nat->Nat->L2.St->Hp->Prop,(∃m,W 0 m σ H)/\∀i m σ H,W i m σ H ->
   ((Yh K a).stop i H/\D.nx σ H)\/((Yh K a).go i H/\∃N:L2.St->Hp->Prop,(∀σ' H',N σ' H'->∃m',m'<m/\W (i+1) m' σ' H')/\∀x H',(Yh K a).yld i H x H'->g x σ H' λσ2 d=>tb {D with nx:=N,ct:=N,bk:=D.nx} σ2 d):=by
 refine⟨λi m σ H=>m=xs.length-i/\i<=xs.length/\b i σ H,⟨xs.length,by simp,AR _,r⟩,?_⟩
 intro i m σ H w';obtain⟨rfl,o,p⟩:=w'
 have f:=h i σ H o p
 by_cases c:i<xs.length
 .have ex:xs[i]?=HA xs[i]:=by simp[c]
  refine .inr ⟨HP xs (xs[i]) ⟨f,ex⟩,b<|i+1,λσ' H' n=>⟨xs.length-(i+1),sZ,Z,c,n⟩,λx H' j=>?_⟩;obtain⟨y,t,k,q,rfl,rfl⟩:=j xs f;exact l i y t σ H k p q
 .have e:i=xs.length:=by lia
  subst e;exact .inl ⟨⟨xs,f,Al _⟩,hd σ H p⟩
end
end Add
namespace Add
open PySem PySem.Spec PyProof.Rows L2
section
variable {X:Cx}
def OJ (bs:tE):((An bs.length).any λj=>(bs[j]?).getD HG)=bs.any λb=>b:=by
 rw[CK,CW,CW];constructor
 .intro w';obtain⟨j,a,e⟩:=w';have c:j<bs.length:=by simpa using a
  rw[Ad c]at e;exact⟨bs[j],B9 c,e⟩
 .intro w';obtain⟨b,d,e⟩:=w';obtain⟨j,a,rfl⟩:=C4 d;exact⟨j,by simpa using a,by rwa[Ad a]⟩
def qxl (l:X.calm=HG):Lm X (.builtin "any") (λxs H Q=>∃(p:HC)(bs:tE),xs=[V.ref p]/\SqL X.K H p (bs.map V.bl)/\Q (.bl<|bs.any λb=>b) H):=by
 intro _ s σ H xs _ Q I r h;obtain⟨p,bs,rfl,y,q⟩:=h;obtain⟨u,rfl,d⟩:=Vals.one r;cases d;obtain⟨its,rv,pl,_⟩:=I.list y;have c:=rv.length;rw[Ab]at c;have k:p≠s.heap.objs.size:=by obtain⟨o,n,_⟩:=pl.isList;exact AD<|AC n
 refine call_any_walk (wpAny_pyIter_list pl.isList (K9 s.heap.objs.size _ _ its.toArray.size _ _ ⟨λj=>(bs[j]?).getD HG,Z,Walks.list (show X.A.in1.handled=HD from I.ok.hd l) _ p k its.toArray, 
  ⟨⟨_,AX _ Z,Z,Z⟩,pl.isList.at λo e=>Aw _ e⟩,?_,λ_ tk w=>?_⟩))
 .intro i v s' Q' E' m f;have a:its[i]?=HA v:=by simpa using m
  cases e:bs[i]? with
  |none =>
   exfalso;have t:its.length<=i:=by rw[<- c];exact Dv.mp e
   rw[Dv.mpr t]at a;cases a
  |some b =>obtain⟨u,g,d⟩:=rv.get (i:=i) (x:=.bl b) (by rw[Ai,e];rfl);rw[a]at g;cases g;cases (show v=DR b from d);dsimp only at f;rw[e]at f;exact B0 f
 .refine(HP (.bl _) H ⟨I.kept (t':=tk) λb o e=>w b o (λz=>?_)<|Aw _ e,Z,?_⟩)
  .have B:b=s.heap.objs.size:=by simpa using z
   exact absurd (AC e) (by rw[B];exact BY _)
  .have e:its.toArray.size=bs.length:=by rw[Ah,c]
   rwa[e,OJ]
def Uq {K:Ag}{n:Nat}{t:RA}(f:∀xs σ' H' R b,(∀σ3 H3,R σ3 H3->b σ3 H3)->t xs σ' H' R->t xs σ' H' b)(x:V)(σ':L2.St)(H':Hp)(R b:L2.St->Hp->Prop)(h:∀σ3 H3,R σ3 H3->b σ3 H3)(z:Qf K n t x σ' H' R):Qf K n t x σ' H' b:=by obtain⟨a,xs,e,c,d,z⟩:=z;exact HP a xs ⟨e,c,d,f _ _ _ _ _ h z⟩
end
structure FunD (K:Ag)(x qual:Str)(st:HN)(f:HC)(fd:BC):Prop where
 ex:∃(oc dV kV doc pm cdv ct:HE)(od an:tQ)(osl:tD),
  fd=Bl x qual (KO st) (Jv st) (Iy st) dV kV doc pm an cdv ct/\K.lookup f=HA ⟨oc,od,.func fd,osl⟩/\BG K cdv qual=HG
 kp:Bw K (.ref f)=HG
section
variable {P:AJ}{w:HQ}{K:Ag}{mg:Str->tK}{base:HX}
section
variable {x a:Str}{st:HN}{f:HC}{fd:BC}{N ps:tG}{j h d g b:HE}
theorem FunD.ok {k:Nat}{sp:Sp}(F:FunD K x a st f fd)(S:FnScope N ps (Iy st))(len:∀vs H Q E,sp vs H Q E->vs.length=ps.length)
  (c:∀(b:HE)(A:AO)(outer:List Env)(s:Af)(H:Hp)(vs:tW)(Q:VK)(E:XK),Room k (A.deeper<|envOfC a (Iy st) s.heap.objs.size f b)->sp vs H Q E ->
   ∃t,PSs (OR Hw P w K mg base N a (Iy st) f b A outer s H E).nox (Jv st) t/\t {nx:=λ_ H'=>Q .non H',rt:=Q} (start N vs) H):FnOk P w K mg base Hw (k+1) f fd ps sp:=by
 obtain⟨_,_,_,_,_,b,_,_,_,_,rfl,i,e⟩:=F.ex
 refine Nm i e S len λA outer s H vs Q E g d=>?_
 obtain⟨t,h,q⟩:=c b A outer s H vs Q E g d
 exact⟨t,h.nox,q⟩
theorem j3 {m i:tQ}{e:tD}{kV ct:HE}(l:K.lookup f=HA ⟨j,m,.func<|Bl x a (KO st) (Jv st) (Iy st) h kV d g i b ct,e⟩)
  (c:BG K b a=HG)(k:Bw K (.ref f)=HG):FunD K x a st f (Bl x a (KO st) (Jv st) (Iy st) h kV d g i b ct):=⟨Ic j h kV d g b ct m<|HP i e ⟨Z,l,c⟩,k⟩
theorem jR {ds:tH}(h:∀us:tH,(us++ds).length=ps.length->∀S,Dp K S (bindArgs fd ⟨us,[]⟩)=HA (ps.zip<|us++ds)):Binds K fd ps ds:=λs us X a=>PySem.W.kp_binds X<|h us a
end
end
structure MethD (K:Ag)(x qual:Str)(st:HN)(ps:tG)(f:HC)(fd:BC):Prop where
 fn:FunD K x qual st f fd
 bd:Binds K fd ps []
 ty:CD K (.ref f)=HA (.type "function")
section
variable {X:Cx}{a b c d:HS}{ta tb tc td:TE}{pos:Pos}
def Oz (r r' r2:R2)(ta tb tc td:TE):TE:=λσ H Q=>ta σ H λx H1=>tb σ H1 λy H2=>r x y H2 λz H3=>∃k,z=.bl k /\
 (if k=HG then tc σ H3 λw' H4=>r' y w' H4 λz' H5=>∃k',z'=.bl k'/\(if k'=HG then td σ H5 λu H6=>r2 w' u H6 Q else Q (.bl HH) H5) else Q (.bl HH) H3)
theorem qxm {op i g:CmpOp}{r o E:R2}(ho:JH X (compareOp op) r)(B:JH X (compareOp i) o)(n:JH X (compareOp g) E)(R:PE X a ta)(hb:PE X b tb)(G:PE X c tc)(hd:PE X d td)
  (O:autoParam (lastMarks [op,i,g] [b,c,d]=HH) uO._auto_1):PE X (.Compare a [op,i,g] [b,c,d] pos) (Oz r o E ta tb tc td):=by
 intro f s σ H Q I h;refine Compare_chain (Hy (R f s σ H _ I h) λv J w30a'=>?_) O;obtain⟨x,H1,I1,r1,q1⟩:=w30a';refine chain_link (Hy (hb f J σ H1 _ I1 q1) λu U w29a'=>?_);obtain⟨y,L,I2,j,q2⟩:=w29a';refine Hy (ho f U σ L x y v u _ I2 r1 j q2) λe s3 w28a'=>?_;obtain⟨z,F,q,V,k,W,t⟩:=w28a'
 subst W;cases V;refine B0 ?_;cases k with
 |false=>exact ite_ff (HP (.bl HH) F ⟨q,Z,t⟩)
 |true =>
  refine ite_tt<|chain_link<|Hy (G f s3 σ F _ q t) λA s4 w27a'=>?_;obtain⟨D,S,Y,l,q4⟩:=w27a';refine Hy (B f s4 σ S y D u A _ Y j l q4) λ_ s5 w26a'=>?_;obtain⟨_,p,C,P,k',w,m⟩:=w26a';subst w;cases P;refine B0 ?_;cases k' with|false=>exact ite_ff (HP (.bl HH) p ⟨C,Z,m⟩)|true=>exact ite_tt<|chain_last<|Hy (hd f s5 σ p _ C m)<|by intro u' s6 w';obtain⟨K,N,T,r6,M⟩:=w';exact n f s6 σ N D K A u' Q T l r6 M
end
theorem Px {X:Cx}{K:Ag}(d:X.K=K){es:tN}{b:_}{pos:Pos}{t:RA}{n:Nat}(a:X.calm=HG)(h:Ye X es t)
  (c:autoParam ((assignEach es X.env).length=n) uG)(hst:autoParam ((assignEach es X.env).findIdx? (·.1)=HD) uG):PG X (.Tuple es b pos) (Qf K n t):=by
 subst d;exact Kw a h c hst
theorem qr2 {α:Type}{H:Hp}{Jx:α->tW}{f g:V->V}{h:α->V}:∀{rs:List α}{us:tW},Tups H us (rs.map Jx)->(∀a r,H a=HA (.tup<|Jx r)->f (.ref a)=h r)->us.map f=rs.map h
 | [],us,t,_=>by cases t;rfl
 |r::rs,us,t,k=>by
  cases t with|cons q t=>rw[AW,AW,k _ _ q,qr2 (g:=g) t k]
def oR (x:Int)(xs:tL):Ko (.int x) (xs.map V.int)=xs.contains x:=by
 unfold Ko;rw[List.any_map,List.contains_eq_any_beq]
 congr 1
 funext y;show (y == x)=(x == y);rw[CK,HU,HU];exact eq_comm
def qC (xs:tL):(xs.map V.int).all Jj=HG:=by rw[List.all_map];exact B8.mpr λ_ _=>rfl
end Add
namespace Tab
open Mrg Lay
def fy (wk:tL)(yr:uB)(i:Int):Bool:=wk.contains (i % 7+1) || R6 yr i
def II (wk:tL)(yr:uB):tE:=(An 371).map λi=>fy wk yr (i:Nat)
def Tq (wk:tL)(yr:uB):(II wk yr).length=371:=by unfold II;rw[Ab,Ar]
noncomputable def IU (bs:tE)(k:Nat):Int:=(((bs.take k).filter λb=>!b).length:Nat)
def Oh (bs:tE):tL:=(An<|bs.length+1).map λk=>IU bs k
def jQ (bs:tE){k:Nat}(h:k<=bs.length):(Oh bs)[k]?=HA (IU bs k):=by unfold Oh;rw[Ai,AS<|sZ];rfl
def oQ {bs:tE}{k:Nat}{b:Bool}(h:bs[k]?=HA b):IU bs (k+1)=if b=HG then IU bs k else IU bs k+1:=by unfold IU;rw[B1,h,Cs];cases b <;>simp
def VZ (bs:tE)(k:Nat):0<=IU bs k/\IU bs k<=bs.length:=by
 unfold IU;have h1:=Di (λb=>!b)<|bs.take k;have h2:(bs.take k).length<=bs.length:=by rw[Bp];lia
 lia
noncomputable def Lw (bs:tE):tL:=((An bs.length).filter λi=>!(bs.getD i HG)).map λ(i:Nat)=>(i:Int)
structure OkW (wk:tL):Prop where
 len:wk.length<=6
 nd:wk.Nodup
 rng:∀x∈wk,1<=x/\x<=7
structure OkY (yr:uB):Prop where
 len:yr.length<=4
 rng:∀r∈yr,0<=r.1/\r.1<=r.2/\r.2<r.1+30/\r.2<364
end Tab
namespace Add
open PySem PySem.Spec PyProof.Rows L2
section
variable {X:Cx}{tg:HS}
end
end Add
namespace Rev
open PySem PyProof.Rows
set_option maxRecDepth 100000
def UK:typeLookup (.type "list_reverseiterator") "__len__"=pure HD:=by rw[typeLookup_type,builtinLookup_eq_fast];kernel_rfl
def NY:typeLookup (.type "list_reverseiterator") "__length_hint__"=pure (HA<|.builtin "list_reverseiterator.__length_hint__"):=by rw[typeLookup_type,builtinLookup_eq_fast];kernel_rfl
section
variable {prog:AJ}{w:HQ}{A:AO}{s:Af}{R:Result->Af->Prop}{E:tR}
variable {I:HC}{fp wr:tI}{G:Array GenState->Array GenState->Prop}{n:Nat}{P:Nat->HE->Prop}{St:Nat->Af->Prop}
def QU {x:HE}{Q:Bool->Af->Prop}(c:s.TypeIs x "list_reverseiterator")(h:Q HH s):wpAny (model prog w) A (BJ.List.listLengthHint x) Q E s:=by
 unfold BJ.List.listLengthHint;refine A2<|wpAny_specialOf c UK ?_;show wpAny _ A (specialOf x (Aa "__length_hint__") >>= _) _ _ _;refine A2<|wpAny_specialOf c NY ?_;generalize a:("list_reverseiterator.__length_hint__" : String)=id0
 wp_delta
 rw[show splitId id0=HA ("list_reverseiterator","__length_hint__") from by subst a;decide +kernel];subst a;refine A2 (wpAny_isInstance (b:=HG) c (by rw[isSubtype_type];kernel_rfl) ?_);exact Bi h
theorem qxn (W:WalksS prog w A.in1 I fp wr G n P St)(j:∀i s,St i s->s.TypeIs (.ref I) "list_reverseiterator")(S:HC)(res:HE)(o:Nat)(c:St 0 s)(g:S∉fp)(t:I∈fp)
  (u:s.heap.get? S=HA {cls:=.type "list",data:=.seq #[] o})
  (hR:∀a b d,Moved (S::wr) G s a->a.heap.get? S=HA {cls:=.type "list",dict:=HD,data:=.seq b d,slots:=#[]}->ItemsOf P b n->R (.ok<|.ret res) a)(hn:n<=A4) :
  wpAny (model prog w) A.in1 (BJ.List.listExtendWith (.ref S) (.ref I) res)
   (λm a=>match m with | .done f=>R (.ok f) a | .again d=>d.quiet=HG/\codeAny (model prog w) A d R a) (λe a=>R (.error e) a) s:=by
 have l:S≠I:=λe=>g<|e ▸ t
 unfold BJ.List.listExtendWith
 refine A2<|wpAny_typeOf (j 0 _ c) ?_
 have v:BJ.List.listSameRef (.ref S) (.ref I)=HH:=by simp[BJ.List.listSameRef,l]
 have p:(Cq "list_reverseiterator" == Cq "list")=HH:=by decide
 have r:(Cq "list_reverseiterator" == Cq "tuple")=HH:=by decide
 simp only[v,p,r,Ca,Em,if_false]
 refine A2<|W.self 0 _ _ _ c ?_
 refine A2<|Dh<|QU (j 0 _ c) ?_
 rw[HF Ud]
 exact Bi ⟨plainId_quiet F.plain_extend_loop _,codeAny_extend_loopS W hn _ g _ n 0 _ _ _ Z (AR _) c u (ItemsOf.nil P) λa b d q k h=>hR a b d q k h⟩
theorem QS (W:WalksS prog w A.in1 I fp wr G n P St)(v:∀i s,St i s->s.TypeIs (.ref I) "list_reverseiterator")(S:HC)(p:St 0 s)(j:S∉fp)(y:I∈fp)
  (m:s.heap.get? S=HA {cls:=.type "list",data:=.seq #[]})
  (hR:∀a c d,Moved (S::wr) G s a->a.heap.get? S=HA {cls:=.type "list",dict:=HD,data:=.seq c d,slots:=#[]}->ItemsOf P c n->R (.ok<|.ret .none) a)(hn:n<=A4) :
  wpAny (model prog w) A.in1 (BJ.«list.__init__» ⟨[.ref S,.ref I],[]⟩)
   (λu a=>match u with | .done f=>R (.ok f) a | .again d=>d.quiet=HG/\codeAny (model prog w) A d R a) (λe a=>R (.error e) a) s:=by
 show wpAny _ A.in1 (BJ.List.listItems (.ref S) >>= λq=>BJ.List.listUpdate (.ref S) (λ_=>#[]) >>= λ_=>letGo q.toList.reverse >>= λ_=>BJ.List.listExtendWith (.ref S) (.ref I) .none) _ _ s
 refine A2 ?_
 unfold BJ.List.listItems
 refine A2<|wpAny_seqItems m Z<|Bi ?_
 refine A2<|wpAny_updateSeq m Z ?_
 have t:=Heap.get?_update_self (BE<|λ_=>(#[]:tO)) m rfl
 have k:∀b o,b≠S->s.heap.get? b=HA o->(s.heap.update S<|BE<|λ_=>(#[]:tO)).get? b=HA o:=λb o g e=>(DJ _ _<|By g).trans e
 refine A2<|wpAny_letGo ?_
 refine qxn W v S .none _ (W.frame 0 s _ s.toks p (Al _) λb g o e=>k b o (λh=>j<|h ▸ g) e) j y t (λa c d x r l=>?_) hn
 exact hR a c d (Moved.trans W.gtrans ((Moved.refl W.grefl).then_heap (Al _) λb o g e=>k b o (λh=>g<|h ▸ Am) e) x) r l
theorem list_ok {Q:tR}(W:WalksS prog w A.in1.in1 I fp wr G n P St)(t:∀i s,St i s->s.TypeIs (.ref I) "list_reverseiterator")(j:St 0 s)(l:∀b∈fp,b<s.heap.objs.size)(v:I∈fp)
  (u:∀c a h,Moved (s.heap.objs.size::wr) G {s with heap:=s.heap.push {cls:=.type "list",data:=.seq #[]} } c ->
   c.heap.get? s.heap.objs.size=HA {cls:=.type "list",dict:=HD,data:=.seq a h,slots:=#[]}->ItemsOf P a n->Q (.ref s.heap.objs.size) c) (hn:n<=A4) :
  wpAny (model prog w) A (call (.type "list") [.ref I]) Q E s:=by
 have m:s.heap.objs.size∉fp:=λf=>BY _<|l _ f;refine callType_codes (Q₁:=λd k=>d=.ref s.heap.objs.size/\k={s with heap:=s.heap.push {cls:=.type "list",data:=.seq #[]} }) F.called_list (F.typeCall_list_1 _) F.entry_list_init (code_list_new _ ⟨Z,Z⟩) λd k r=>?_;obtain⟨rfl,rfl⟩:=r;have q:(s.heap.push {cls:=.type "list",data:=.seq #[]}).get? s.heap.objs.size=HA {cls:=.type "list",data:=.seq #[]}:=AX _ rfl;exact⟨⟨_,q,Z⟩,F.args_list_init_2 _ _,QS W t _ (W.frame 0 s _ s.toks j (Al _) λb _ o e=>Aw _ e) m v q (λc a h f p g=>⟨Z,u c a h f p g⟩) hn⟩
end
end Rev
namespace Add
open PySem PySem.Spec PyProof.Rows L2
section
variable {xs:tW}{us its:tH}
theorem qoz:bootBuiltins "reversed"=HA (.type "reversed"):=Uk
theorem qxo {x:V}{u:HE}(h:Vals xs us)(r:RelV x u):Vals (xs++[x]) (us++[u]):=by
 induction h with
 |nil=>exact .cons r .nil
 |cons r' _ ih=>exact .cons r' ih
theorem L1 (h:Vals xs us):Vals xs.reverse us.reverse:=by
 induction h with
 |nil=>exact .nil
 |cons r _ ih=>rw[Dk,Dk];exact qxo ih r
theorem qxp {a:tO}(h:ItemsOf (λi v=>its.toArray[its.toArray.size-1-i]?=HA v) a its.toArray.size):a=its.reverse.toArray:=by
 obtain⟨g,d⟩:=h;have e:a.toList=its.reverse:=by
  refine Cm λi=>?_;have hs:a.size=its.length:=by rw[g];simp
  by_cases c:i<its.length
  .have f:i<a.size:=by lia
   have b:a[i]?=HA a[i]:=Array.getElem?_eq_getElem f;have:=d i _ b;rw[DQ,b,<- this,Dj c];simp
  .rw[AH (by rw[Cn];lia),AH (by rw[B3];lia)]
 rw[<- e]
end
section
variable {X:Cx}
def tLR (K:Ag)(t:TA):TE:=λσ H Q=>t σ H λvs H1=>∃l ys,vs=[.ref l]/\SqL K H1 l ys/\∀q,H1 q=HD->Q (.ref q) (upd H1 q<|.lst ys.reverse)
theorem qt7 {e:HS}{t:TA}{p y pos c:Pos}(C:X.calm=HG)(x:Gl X "list")(F:X.mg "list"=HD)(D:Gl X "reversed")(J:X.mg "reversed"=HD)(B:bootBuiltins "list"=HA (.type "list"))(N:PA X [e] t)
  (T:autoParam (starEach [e] X.env=(HH,eval e X.env)::starEach [] X.env) uG):PE X (.Call (.Name "list" p) [.Call (.Name "reversed" y) [e] [] c] [] pos) (tLR X.K t):=by
 intro v s σ H Q I h;refine Cr<|Rh I x F B ?_;refine Ch ?_ rfl rfl;show wpAny _ _ (spliced<|(HH,eval (.Call (.Name "reversed" y) [e] [] c) X.env)::[]) _ _ s;refine Db ?_;refine Cr<|Rh I D J qoz ?_;refine Ch (Hy (N c v s σ H _ I h) λ_ a w24a'=>?_) T rfl;obtain⟨_,V,r,Y,P⟩:=w24a';obtain⟨l,ys,rfl,R,q⟩:=P;obtain⟨u,rfl,M⟩:=RX Y;cases M;obtain⟨its,E,pl,hz⟩:=r.list R;refine call_reversed_list pl.isList<|DI ?_;have m:=pl.isList;have k:l<a.heap.objs.size:=by obtain⟨o,S,_⟩:=m;exact AC S
 have O:X.A.handled=HD:=I.ok.hd C;have W:=(Walks.listRev (prog:=X.prog) (w:=X.w) (A:=X.A.in1.in1) O a.heap.objs.size l (AD k) its.toArray).toS;refine Rev.list_ok W (λi s st=>st.2.1.typeIs) ⟨AR _,?_,m.at λo e=>Aw _ e⟩ (λb f=>?_) (by simp) (λd _ U g j n=>?_) ?_
 .refine⟨_,AX _ Z,Z,?_⟩;rw[show ((its.toArray.size:Nat):Int)-1-((0:Nat):Int)=(its.toArray.size:Int)-1 by lia];rfl
 .show b<(a.heap.push _).objs.size;rw[DH];rcases Ax.mp f with z|z
  .rw[z];exact BQ _
  .rw[Aj.mp z];exact DM k
 .have sz:(a.heap.push<|revObj l<|(its.toArray.size:Int)-1).objs.size=a.heap.objs.size+1:=DH _ _;have kp:∀b o,a.heap.get? b=HA o->d.heap.get? b=HA o:=λb o e=>by
   have f:=AC e;refine g.heap b o (λz=>?_)<|Aw _<|Aw _ e;rcases Ax.mp z with z|z
   .rw[z]at f;exact absurd f (by show ¬((a.heap.push<|revObj l<|(its.toArray.size:Int)-1).objs.size<a.heap.objs.size);rw[sz];exact Nat.not_lt_of_le<|CA _)
   .rw[Aj.mp z]at f;exact BY _ f
  have es:d={a with heap:=d.heap,toks:=d.toks}:=by
   have g1:=g.gens;have g2:=g.drawn;have g3:=g.os;cases d;cases a
   simp_all
  have le:a.heap.objs.size<=(a.heap.push<|revObj l<|(its.toArray.size:Int)-1).objs.size:=by rw[sz];exact CA _
  rw[qxp n]at j;have L:ObjOk X.prog X.w (upd V (a.heap.push<|revObj l<|(its.toArray.size:Int)-1).objs.size<|.lst ys.reverse) d.heap (a.heap.push<|revObj l<|(its.toArray.size:Int)-1).objs.size (.lst ys.reverse) :=
   ⟨by rwa[B3],its.reverse,U,L1 E,j⟩
  have G:=r.laid (t':=d.toks) kp le L;rw[<- es]at G;exact HP (.ref _) _ ⟨G,Z,q _<|r.hok.fresh le⟩
 .have:=E.length;simp only[Ah];lia
end
end Add
namespace Lay
theorem qr3 {W:Type}[DecidableEq W](d:Int):∀(b:List (IM W))(a:W),(∀s∈b,¬(s.1<=d/\d<=s.2.1))->Ir a b d=a
 | [],_,_=>rfl
 |r::b,a,h=>by rw[Od,HF<|h r Am];exact qr3 d b a λs c=>h s<|A1 _ c
theorem qpt {W:Type}[DecidableEq W](a:W)(d:Int):∀{b:List (IM W)},Dis b->Ir a b d=(match b[IR (ends b) d]? with|some r=>if r.1<=d then r.2.2 else a|none=>a)
 | [],_=>rfl
 |r::b,h=>by
  have pw:=BF.mp h.pw;have h':Dis b:=⟨λs f=>h.ok s<|A1 _ f,pw.2⟩;have e:ends (r::b)=r.2.1::ends b:=rfl;rw[Od,e,Tz];by_cases c:r.2.1<d
  .rw[HF<|λz=>B6.mpr z.2 c,HI c,DE];exact qpt a d h'
  .rw[HF c,Zu (λe i z=>by
    obtain⟨s,f,rfl⟩:=AQ.mp i
    exact c<|CO (Bd (pw.1 s f)<|h'.ok s f) z)]
   rw[qr3 d b _ λs f z=>c<|Bd (pw.1 s f) z.1]
   show _=if r.1<=d then r.2.2 else a
   by_cases g:r.1<=d
   .rw[HI ⟨g,B6.mp c⟩,HI g]
   .rw[HF λz=>g z.1,HF g]
theorem qvk {W:Type}[DecidableEq W](S:W->Prop)(d:Int):∀(b:List (IM W))(a:W),S a->(∀s∈b,S s.2.2)->S (Ir a b d)
 | [],_,h,_=>h
 |r::b,a,h,hs=>by
  rw[Od];refine qvk S d b _ ?_ λs z=>hs s<|A1 _ z;split
  .exact hs r Am
  .exact h
end Lay
namespace Add
open PySem PySem.Spec PyProof.Rows L2
end Add
namespace Add
open PySem PySem.Spec PyProof.Rows L2
section
variable {X:Cx}{CX:LQ}{k:Nat}{f C:HC}{fd:BC}{ps ks:tG}{sp:Sp}{E:XK}{x:Str}{p pos:Pos}{e:HS}{es:tN}{kws:List Keyword}{t tk:TA}{g:tH->tH->tH}{gV:tW->tW->tW}
end
noncomputable def g21 {α:Type}(n:α):List α->List α->List α
 | [a,b],[c]=>[a,b,n,c]
 |_,_=>[]
section
variable {X:Cx}
def Vm (n:Nat):(An n).all (λ_=>HG)=HG:=by simp
end
section
variable {X:Cx}
def ipL:Yb:=λx y H Q=>∃l b xs zs,x=.ref l/\y=.ref b/\H l=HA (.lst xs)/\H b=HA (.lst zs)/\xs.length+zs.length<=A4/\Q (.ref l) (upd H l<|.lst<|xs++zs)
def qmi:fillsInplaceSlot (.type "list") "add" (Operator.Add == .Add)=pure HH:=by unfold fillsInplaceSlot;show (typeLookup (.type "list") (dunderI "add") >>= λa=>pure (a.isSome && !isSeqSlot a))=pure HH;rw[F.slot_list_iadd.lookup];rfl
def qo0:seqSlot? (.type "list") (dunderI "add")=pure (HA<|.builtin "list.__iadd__"):=PySem.seqSlot_of F.slot_list_iadd.lookup Uk
def Uh:eP X .Add ipL:=by
 intro _ s σ H x y v u Q I i j h;obtain⟨l,b,_,_,rfl,rfl,f,k,_,q⟩:=h;cases i;cases j;obtain⟨z,its,n,r,_,e⟩:=I.lstM f;obtain⟨_,a,m,o,_,g⟩:=I.lstM k;have hsz:its.toArray.size+a.toArray.size<=A4:=by rw[Ah,Ah];lia
 have c:¬(!its.toArray.isEmpty && BJ.List.listTooLong (its.toArray.size+a.toArray.size))=HG:=by rw[oW hsz,BI];exact AF
 unfold inplaceOp;refine Dh ?_;have d:s.TypeIs (.ref l) "list" := ⟨_,e,Z⟩;have tb:s.TypeIs (.ref b) "list" := ⟨_,g,Z⟩;refine A2<|wpAny_typeOf d<|A2<|wpAny_of_eq qmi ?_;show wpAny _ _ (if HH=HG then _ else _) _ _ s;rw[HF AF];refine A2<|wpAny_binaryOp1_none (nm := "add") d tb noFill_list_add ?_;refine A2<|wpAny_of_eq qo0 ?_;refine A2<|wpAny_rule ?_;refine DS F.slot_list_iadd d F.entry_list_iadd (F.args_list_iadd_2 _ _)
  (AutoSeq1.list___iadd___list_list_0 l its.toArray n b a.toArray m c (by rw[Ah];lia)<|sZ) ⟨e,g,?_⟩
 refine(HP (.ref l) _ ⟨I.lset (its':=its++a) f e (by simp) (r.append o) ?_,Z,q⟩);rw[Ae];lia
theorem qpu {α β:Type}{F:α->β->Prop}:∀{l:List α}{m:List β},l.length=m.length->(∀(j:Nat)(x:α)(u:β),l[j]?=HA x->m[j]?=HA u->F x u)->Dw F l m
 | [],[],_,_=>.nil
 |x::l,u::m,h,f=>.cons (f 0 x u Z Z)<|qpu (Nat.succ.inj h) λj y v b a=>f (j+1) y v b a
def YK {P:AJ}{w:HQ}{k:IC}{u:HE}(h:(Jl P w).is k u=HG):RelV (kV k) u:=by
 cases k with|inl i=>exact Value.isInt_shape h|inr x=>exact Value.isStrOf_shape h
def qnn (o:X.calm=HG):Lm X (.type "list") (λxs H Q=>∃(d:HC)(kvs:List (IC×V)),xs=[.ref d]/\H d=HA (.dK kvs)/\∀l,H l=HD->Q (.ref l) (upd H l<|.lst<|kvs.map λa=>kV a.1)):=by
 intro _ s σ H xs _ Q I r h;obtain⟨d,kvs,rfl,hd,q⟩:=h;obtain⟨u,rfl,t⟩:=RX r;cases t;obtain⟨z,lo,vs,a,v⟩:=N1 I.hok hd;obtain⟨ep,m⟩:=v.dictAt;refine PySem.W.kdl_call (PySem.W.kdl_dict (knd:=Jl X.prog X.w) (kvs:=vs) (ep:=ep) lo) (I.ok.hd o) m (by rwa[<- a.length]) λh' tk b c kp e n=>?_;have rv:Vals (kvs.map λa=>kV a.1) b.toList:=by
  have B:(kvs.map λa=>kV a.1).length=b.toList.length:=(Ab _).trans<|a.length.trans<|n.1.symm.trans Cn.symm;refine qpu B λj x u f A=>?_;obtain⟨k,y,C,D⟩:=n.2 j u (by rwa[<- DQ]);rw[Ai]at f;have g:=HR (·[j]?) a.keys;simp only[Ai,C,D5]at g;cases i:kvs[j]? with|none=>rw[i]at f;cases f|some p =>rw[i]at f g;cases f;cases A8 g;exact YK D
 exact(HP (.ref s.heap.objs.size) _ ⟨I.laid (t':=tk) kp (Al _) (show ObjOk X.prog X.w _ h' _ (.lst<|kvs.map λa=>kV a.1) from ⟨by rwa[Ab],b.toList,c,rv,by simpa using e⟩),Z,q _<|I.hok.fresh<|Al _⟩)
end
def SU {ι:Type}(C:ι->HC)(m:Str)(sp:ι->Sp)(dvs:tW)(E:XK)(ta:TE)(t:TA):TE:=λσ H Q=>ta σ H λx H1=>∃(i:ι)(a dx:HC)(fs:tY),x=.ref a/\H1 a=HA (.ins (C i) dx fs)/\fs.lookup m=HD /\
 t σ H1 λvs H2=>sp i (x::(vs++dvs)) H2 Q E
section
variable {X:Cx}{CX:LQ}{ι:Type}{k:ι->Nat}{f C:ι->HC}{fd:ι->BC}{ps:ι->tG}{sp:ι->Sp}{dvs:tW}{ds:tH}{E:XK}{m:Str}{pos apos:Pos}{e o:HS}{es:tN}{ta:TE}{t:TA}
theorem oP {pl:Sem Bool}(J:PE X o ta)(c:∀i,Cls X.K<|C i)(g:∀i,Meth X.K (C i) m<|f i)(F:∀i,FnOk X.prog X.w X.K X.mg X.base CX (k i) (f i) (fd i) (ps i)<|sp i)(z:∀i,Room (k i) X.A)(D:∀i,Binds X.K (fd i) (ps i) ds)(L:Vals dvs ds)(G:Rg CX X E)(B:PA X (e::es) t)
  (d:autoParam (starEach (e::es) X.env=(HH,eval e X.env)::starEach es X.env) uG)(hpl:autoParam ((backTo pos<|starEach es X.env).any (·.1)=HH) uG)
  (ht:autoParam (eval (.Call (.Attribute o m apos) (e::es) [] pos) X.env=(do
   let ov <- eval o X.env
   standAt apos.atName
   let (f,first) <- holding [ov] (getMethod ov m pl)
   callWith pos f first (backTo pos<|starEach (e::es) X.env) (backToKw pos<|keywordEach [] X.env))) uG) :
  PE X (.Call (.Attribute o m apos) (e::es) [] pos) (SU C m sp dvs E ta t):=by
 intro b s σ H Q I h;refine DP (pl:=pl) (Hy (J b s σ H _ I h) λu v w23a'=>?_) ht;obtain⟨x,N,n,p,i,a,_,_,ex,y,l,q⟩:=w23a';subst ex;obtain rfl:u=Bk a:=p;refine qO n y (c i) (g i) l ?_;refine D7 (first:=[.ref a]) (h₀:=X.base) I.ok.mod.kin (g i).kp (Hy (B pos b v σ N _ n q) λus _ w22a'=>?_) d hpl;obtain⟨vs,_,j,r,M⟩:=w22a';refine ⟨j.kIn,?_⟩;exact ZC (us:=.ref a::us) (vs:=.ref a::vs) (F i) (z i) (D i) L G j (.cons Z r) M
end
inductive Three where
 |a|b|c
noncomputable def JX {α:Type}(x y z:α):Three->α
 |.a=>x
 |.b=>y
 |.c=>z
theorem Kr {p:Three->Prop}(x:p .a)(y:p .b)(z:p .c):∀i,p i
 |.a=>x
 |.b=>y
 |.c=>z
section
variable {X:Cx}
end
section
variable {K:Ag}{C:HC}
noncomputable def VQ (K:Ag)(C:HC):Bool:=(Bf K (.ref C) "__class__" == HA (HA<|.builtin "object.__class__")) && (PySem.W.specialIn K (.builtin "object.__class__") "__get__" == HA (HA<|.builtin "getset_descriptor.__get__")) && (PySem.W.takesIn K (.builtin "object.__class__") == HA HG) && (PySem.W.mroIn K C (.type "object") == HA HG)
end
section
variable {X:Cx}{tg:HS}
end
theorem qr4:∀{b:List String}{its:tH},Vals (b.map V.ty) its->its=b.map Cq
 | [],_,.nil=>rfl
 |c::b,_,.cons a r=>by have:=qr4 r;rw[AW,<- this];exact HR (· :: _) a
section
variable {X:Cx}
inductive PlTy (H:Hp):V->String->Prop where
 |non:PlTy H .non "NoneType"
 |bl (x:Bool):PlTy H (.bl x) "bool"
 |int (i:Int):PlTy H (.int i) "int"
 |str (x:Str):PlTy H (.str x) "str"
 |lst {a:HC} {xs:tW} (e:H a=HA (.lst xs)):PlTy H (.ref a) "list"
 |tup {a:HC} {xs:tW} (e:H a=HA (.tup xs)):PlTy H (.ref a) "tuple"
theorem qpv:Lm X (.builtin "isinstance") (λxs H Q=>∃(x:V)(n:String)(g:HC)(j:List String)(b:Bool),xs=[x,.ref g]/\PlTy H x n/\H g=HA (.tup<|j.map V.ty)/\Er X.K (.type n) (j.map Cq)=HA b/\Q (.bl b) H):=by
 intro l s σ H xs _ Q I r h;obtain⟨x,n,g,j,b,rfl,ty,B,e,q⟩:=h;obtain⟨u,_,rfl,d,E⟩:=Vals.two r;cases E;obtain⟨_,_,D,p⟩:=(show ObjOk X.prog X.w H s.heap g (.tup<|j.map V.ty) from I.hok g _ B);cases qr4 D;obtain⟨⟨_,_,_,_⟩,f,v,m,C⟩:=p;cases v;cases C;have c:∀tk,EP X l σ Q (.bool b) {s with toks:=tk}:=λtk=>HP (.bl b) H ⟨I.tok tk,Z,q⟩;cases ty with
 |non=>cases (show u=CS from d);exact De PySem.W.kitx_none I.kIn Cj f e sh c
 |bl y=>cases (show u=DR y from d);exact De PySem.W.kitx_bool I.kIn Cj f e sh c
 |int i=>obtain⟨t,q⟩:=(show ∃t,u=Dg i t from d);cases q;exact De PySem.W.kitx_int I.kIn Cj f e sh c
 |str y=>obtain⟨t,q⟩:=(show ∃t,u=Dm y t from d);cases q;exact De PySem.W.kitx_str I.kIn Cj f e sh c
 | @lst a xs ea =>cases (show u=Bk a from d);obtain⟨_,_,n,_,k⟩:=(show ObjOk X.prog X.w H s.heap a (.lst xs) from I.hok a _ ea);exact De Eu I.kIn ⟨_,k,Z⟩ f e sh c
 | @tup a xs ea =>cases (show u=Bk a from d);obtain⟨_,_,_,p⟩:=(show ObjOk X.prog X.w H s.heap a (.tup xs) from I.hok a _ ea);obtain⟨o,k,A,_⟩:=p;exact De PySem.W.kitx_tuple I.kIn ⟨o,k,A⟩ f e sh c
theorem oO:∀{b:tG}{its:tH},Vals (b.map V.str) its->StrsAre its b
 | [],_,.nil=>.nil
 |y::b,_,.cons a r=>by obtain⟨t,rfl⟩:=a;exact .cons y t<|oO r
theorem qr5:∀{a:tG}{its:tH},StrsAre its a->Vals (a.map V.str) its
 | [],_,.nil=>.nil
 |_::_,_,.cons y t h=>.cons ⟨t,Z⟩<|qr5 h
def qqo:Lm X (.builtin "sorted") (λxs H Q=>∃(p:HC)(c:tG),xs=[.ref p]/\SqL X.K H p (c.map V.str)/\c.length<64/\∀(q:HC)(a:tG),H q=HD->a.Perm c->Q (.ref q) (upd H q<|.lst<|a.map V.str)):=by intro _ s σ H xs _ Q I r h;obtain⟨p,c,rfl,k,_,q⟩:=h;obtain⟨u,rfl,i⟩:=RX r;cases Ve i;obtain⟨its,rv,pl,_⟩:=I.list k;have m:=rv.length;rw[Ab]at m;refine sorted_strs pl.isList (oO rv) sZ λd a g f _=>?_;obtain⟨e,l⟩:=sortedAll_at s.heap its d;refine HP (.ref<|s.heap.objs.size+1) (upd H (s.heap.objs.size+1)<|.lst<|a.map V.str) ⟨I.laid (t':=s.toks) (λb u e=>sortedAll_old e) (CA _) ?_,Z,q _ a (I.hok.fresh<|CA _) f⟩;have j:=f.length_eq;refine⟨by rw[Ab,j];exact Bt<|qpj<|sZ,d.toList,e,qr5 g,?_⟩;exact l
def jC (K:Ag):R2:=λx y H Q=>TN K x y H Q\/TM K x y H Q
def qvl:SB X (jC X.K):=by
 intro a b c s σ H x y v u Q I d e h f;rcases h with h|h
 .exact zr a b c s σ H x y v u Q I d e h f
 .exact zq a b c s σ H x y v u Q I d e h f
end
section
variable {X:Cx}
end
section
end
section
variable {prog:AJ}{w:HQ}{A:AO}{E:tR}{s:Af}
end
section
variable {prog:AJ}{w:HQ}{A:AO}{E:tR}{s:Af}{z TI TO i1 i2:HC}{f1 f2:tI}{n n2 k:Nat}{P1 P2:Nat->HE->Prop}{S1 S2:Nat->HX->Prop}
end
section
end
section
variable {X:Cx}
def PV:V->tW->Hp->VK->Prop:=λx vs H Q=>∃(l:HC)(ss:tG)(k:Str),x=.ref l/\vs=[.str k]/\H l=HA (.lst<|ss.map V.str)/\Q (.int (ss.count k:Nat)) H
theorem qr6 (k:Str):∀ys:tG,countIn (.str k) (ys.map PyData.str)=((ys.count k:Nat):Int)
 | []=>rfl
 |y::ys=>by
  have a:=qr6 k ys;show (if same (.str y) (.str k) then 1 else 0)+countIn (.str k) (ys.map PyData.str)=_;rw[a,List.count_cons];have e:same (.str y) (.str k)=(y == k):=rfl;rw[e];cases y == k
  .simp
  .simp;lia
def qxr:eR X "list.count" PV:=by intro _ s σ H x vs v _ Q I a rv h;obtain⟨l,d,k,rfl,rfl,b,q⟩:=h;cases a;obtain⟨u,rfl,c⟩:=rv.one;obtain⟨t,rfl⟩:=c;obtain⟨z,its,n,r,_,e⟩:=I.lstM b;refine count_list_strs (vs:=its) ⟨_,e,Z,n,Z⟩ (oO r) ?_;exact(HP (.int (d.count k:Nat)) H ⟨I.tok _,⟨_,by rw[qr6]⟩,q⟩)
end
section
variable {X:Cx}{t:HS}{es:tN}{c:HE}{us:tH}{JF:List ExceptHandler}{tr:TH}{body:List HN}{pos pos':Pos}
end
section
variable {X:Cx}
end
section
variable {X:Cx}
end
section
variable {prog:AJ}{w:HQ}{A:AO}{E:tR}{s:Af}
end
section
variable {P:AJ}{w:HQ}{K:Ag}{mg:Str->tK}{base:HX}
end
section
variable {X:Cx}
def TL (K:Ag):R2:=λx y H Q=>∃a b xs,x=.ref a/\y=.ref b/\SqL K H a xs/\SqL K H b []/\Q (.bl (!xs.isEmpty)) H
def qr7 (hu:X.A.units+64<cLine):JH X (compareOp .NotEq) (TL X.K):=by
 intro _ s σ H x y v u Q I k l h;obtain⟨a,b,xs,rfl,rfl,m,n,q⟩:=h;cases k;cases l;obtain⟨its,p,i,_⟩:=I.list m;obtain⟨c,r,f,_⟩:=I.list n;have d:=p.length;have g:=r.length;have g:0=c.length:=g;cases xs with|nil =>have d:0=its.length:=d;refine SeqAt.RcNeAt.lists (e:=λ_=>HG) i.isList f.isList (by rw[Ah,Ah];lia) sZ (λj o _=>absurd o (by rw[Ah];lia)) _ _ _ _ ?_;rw[Vm];exact(HP (.bl HH) H ⟨I,Z,q⟩)|cons z zs =>rw[AA]at d;refine SeqAt.RcNeAt.lists_lengths i.isList f.isList (bne_iff_ne.mpr (by rw[Ah,Ah];lia)) sZ _ _ _ _ ?_;exact HP (.bl HG) H ⟨I,Z,q⟩
end
section
variable {X:Cx}
theorem Qm (l b:HC)(a bs:tO)(n m:Nat)(j:tQ)(o:tD)(h0:¬(!a.isEmpty && BJ.List.listTooLong (a.size+bs.size))=HG)(k:a.size<=A4)(f:a.size+bs.size<=A4+1) :
  Meets (BJ.«list.extend» ⟨[.ref l,.ref b],[]⟩) (λ_ R s=>s.heap.get? l=HA ⟨.type "list",HD,.seq a n,#[]⟩/\s.heap.get? b=HA ⟨.type "tuple",j,.seq bs m,o⟩/\R (.ok<|.ret .none) {s with heap:=s.heap.update l<|BE λx=>x++bs,toks:=s.toks}):=by
 refine .of_wp λ_ w A R s h=>?_;obtain⟨_,g,d,_,_⟩:=s;obtain⟨e,i,h⟩:=h;have k1:=AutoSeq1.idx_int;have k2:=AutoSeq1.sub_tuple_tuple;have k3:=AutoSeq1.sub_list_list;have k4:=AutoSeq1.sub_tuple_list;have k5:=AutoSeq1.sub_list_tuple;have c:(a++bs).size<=A4+1:=Az (BN Array.size_append) f
 wp_walk using (wpAny_updateSeq e Z (hz:=k) (_hz':=c)),wpAny_loadPart' e,wpAny_loadPart' i
 exact⟨_,Z,h⟩
def Md (K:Ag):V->tW->Hp->VK->Prop:=λx vs H Q=>∃l b xs zs,x=.ref l/\vs=[.ref b]/\H l=HA (.lst xs)/\SqT K H b zs/\xs.length+zs.length<=A4/\Q .non (upd H l<|.lst<|xs++zs)
def qt8:Vy X "list.extend" (Md X.K):=by
 intro _ s σ H x _ v _ Q I g rv h;obtain⟨l,b,_,_,rfl,rfl,d,j,_,q⟩:=h;cases g;obtain⟨u,rfl,k⟩:=rv.one;cases k;obtain⟨z,its,n,r,_,e⟩:=I.lstM d;obtain⟨a,f,i,_⟩:=I.tuple j;have hl2:=f.length;obtain⟨⟨_,o,_,p⟩,m,rfl,t,rfl⟩:=i;have hsz:its.toArray.size+a.toArray.size<=A4:=by rw[Ah,Ah];lia
 have c:¬(!its.toArray.isEmpty && BJ.List.listTooLong (its.toArray.size+a.toArray.size))=HG:=by rw[oW hsz,BI];exact AF
 refine DS F.slot_list_extend ⟨_,e,Z⟩ F.entry_list_extend (F.args_list_extend_2 _ _)
  (Qm l b its.toArray a.toArray n t o p c (by rw[Ah];lia)<|sZ) ⟨e,m,?_⟩
 refine(HP .non _ ⟨I.lset (its':=its++a) d e (by simp) (r.append f) ?_,Z,q⟩);rw[Ae];lia
end
theorem N7 {js:sr}{g:TG}{N:TE}{J:It}{σ:L2.St}{H:Hp}{Q:VK}{xs:tW}(G:HC->V->HC->Hp->Prop)(P:∀p x q H H',(∀b o,b≠p->H b=HA o->H' b=HA o)->G p x q H->G p x q H')(Gn:∀p x q H,G p x q H->H q≠HD)
  (h:L2.St->Prop)(F:VT J H xs)(hz:xs.length<=A4)(h0:h (Lb js σ))
  (step:∀(p:HC)(x:V)(σ':L2.St)(H':Hp)(RR:L2.St->VK),x∈xs->H p=HD->Same H H'->(∃zs,H' p=HA (.lst zs))->h σ'->(∀σ3 q d,h σ3->Same H' d->H' q=HD->G p x q d->RR σ3 (.ref q) d)->g x σ' H' λσ3 s=>N σ3 s<|RR σ3)
  (W:∀(x:V)(σ':L2.St)(H':Hp)(R T:L2.St->Hp->Prop),(∀σ3 s,R σ3 s->T σ3 s)->g x σ' H' R->g x σ' H' T)
  (S:∀(p:HC)(H':Hp)(u:tI),H p=HD->Same H H'->H' p=HA (.lst<|u.map V.ref)->u.length=xs.length->u.Nodup->(∀(j:Nat)(x:V)(q:HC),xs[j]?=HA x->u[j]?=HA q->G p x q H'/\q≠p/\H q=HD)->Q (.ref p) H') :
  Va js g Yv N σ Q J H:=by
 intro p B;refine⟨λi m σ' H'=>m=xs.length-i/\i<=xs.length/\h σ'/\Same H H'/\∃ys:tI,H' p=HA (.lst<|ys.map V.ref)/\ys.length=i/\ys.Nodup/\∀(j:Nat)(x:V)(q:HC),xs[j]?=HA x->ys[j]?=HA q->G p x q H'/\q≠p/\H q=HD,⟨xs.length,by simp,AR _,h0,JP (Same.refl H) B,[],qk,Z,.nil,λj x y _ D=>by cases D⟩,?_⟩;intro i m σ' H' w';obtain⟨rfl,_,U,t,us,w,C,nd,K⟩:=w';obtain⟨F1,F2⟩:=F _ t;by_cases r:i<xs.length
 .have ex:xs[i]?=HA xs[i]:=by simp[r]
  obtain⟨X,yl⟩:=F1 i _ ex;refine .inr ⟨X,λσ2 k=>h σ2/\Same H k/\∃ys:tI,k p=HA (.lst<|ys.map V.ref)/\ys.length=i+1/\ys.Nodup/\∀(j:Nat)(x:V)(q:HC),xs[j]?=HA x->ys[j]?=HA q->G p x q k/\q≠p/\H q=HD,by intro σ2 k w';obtain⟨a,b,c⟩:=w';exact ⟨xs.length-(i+1),sZ,Z,r,a,b,c⟩,λx k D=>?_⟩;obtain⟨rfl,rfl⟩:=yl x k D;refine W _ _ _ _ _ (λσ3 s z=>?_)<|step p xs[i] σ' _ (λσ3 v d=>∃zs,d p=HA (.lst zs)/\zs.length<A4/\(h σ3/\Same H (upd d p<|.lst<|zs++[v])/\∃ys:tI,upd d p (.lst<|zs++[v]) p=HA (.lst<|ys.map V.ref)/\ys.length=i+1/\ys.Nodup/\∀(j:Nat)(x:V)(q:HC),xs[j]?=HA x->ys[j]?=HA q->G p x q (upd d p<|.lst<|zs++[v])/\q≠p/\H q=HD)) (B9 r) B t ⟨_,w⟩ U λσ3 q d M L A hq=>?_
  .exact z
  .have h5:=L _ _ w;have O:q≠p:=λz=>by rw[z,w]at A;cases A
   have keep:∀b o,b≠p->d b=HA o->upd d p (.lst<|us.map V.ref++[V.ref q]) b=HA o:=λb o n e=>by rwa[qr n]
   refine⟨_,h5,?_,M,JP (t.trans L) B,us++[q],?_,?_,?_,λj x y E f=>?_⟩
   .rw[Ab];lia
   .rw[qk,Aq];rfl
   .rw[Ae,C];rfl
   .refine Ey.mpr ⟨nd,CY _ _,λa Y b hb e=>?_⟩;obtain⟨j,l⟩:=Bx Y;have lj:=(Ac.mp l).1;obtain⟨I,_⟩:=K j _ a (Ad<|sZ) l;have:=Gn _ _ _ _ I;rw[e,Aj.mp hb]at this;exact this A
   .by_cases l:j<us.length
    .rw[AB l]at f;obtain⟨I,g2,g3⟩:=K j x y E f;exact⟨P _ _ _ _ _ (λb o n e=>keep b o n<|L _ _ e) I,g2,g3⟩
    .rw[AV<|DU.mp l]at f;have ej:j=i:=by have:=(Ac.mp f).1;simp at this;lia
     subst ej;rw[C,DL]at f;rw[ex]at E;cases E;cases f;exact⟨P _ _ _ _ _ keep hq,O,t.free A⟩
 .have e:i=xs.length:=by lia
  subst e;exact .inl ⟨F2,S p _ us B t w C nd K⟩
section
variable {X:Cx}
def TQ (K:Ag):R2:=λx y H Q=>∃a b xs,x=.ref a/\y=.ref b/\SqL K H a xs/\SqL K H b []/\Q (.bl xs.isEmpty) H
def Mw (g:X.A.units<cLine):JH X (compareOp .Eq) (TQ X.K):=by
 intro _ s σ H x y v u Q I l m h;obtain⟨a,b,xs,rfl,rfl,n,o,q⟩:=h;cases l;cases m;obtain⟨its,r,k,_⟩:=I.list n;obtain⟨c,t,f,_⟩:=I.list o;have d:=r.length;have i:=t.length;have i:0=c.length:=i;cases xs with|nil =>have d:0=its.length:=d;refine SeqAt.eq_listAt (e:=λ_=>HG) k.isList f.isList (by rw[Ah,Ah];lia) g (λj p _=>absurd p (by rw[Ah];lia)) ?_;rw[Vm];exact(HP (.bl HG) H ⟨I,Z,q⟩)|cons z zs =>rw[AA]at d;refine SeqAt.eq_list_lengthsAt k.isList f.isList (bne_iff_ne.mpr (by rw[Ah,Ah];lia)) g ?_;exact HP (.bl HH) H ⟨I,Z,q⟩
end
end Add
namespace Sts
open PySem PyProof.Rows
section
variable {prog:AJ}{w:HQ}{A:AO}{E:tR}{s:Af}
def once (acc:tG)(x:Str):tG:=if x∈acc then acc else acc++[x]
end
section
variable {prog:AJ}{w:HQ}{A:AO}{R:Result->Af->Prop}{I:HC}{fp wr:tI}{G:Array GenState->Array GenState->Prop}{n:Nat}{P:Nat->HE->Prop}{St:Nat->Af->Prop}
end
end Sts
namespace Sts
open PySem PyProof.Rows
set_option maxRecDepth 100000
section
variable {prog:AJ}{w:HQ}{A:AO}{E:tR}{s:Af}
end
end Sts
namespace Sts
open PySem PyProof.Rows
set_option maxRecDepth 100000
section
variable {prog:AJ}{w:HQ}{A:AO}{E:tR}{s:Af}
end
end Sts
namespace Sts
open PySem PyProof.Rows
set_option maxRecDepth 100000
section
variable {M:Model}{A:AO}{E:tR}{s:Af}
end
end Sts
namespace Sts
open PySem PyProof.Rows
set_option maxRecDepth 100000
section
variable {prog:AJ}{w:HQ}{A:AO}{E:tR}{s:Af}
end
end Sts
namespace Sts
open PySem PyProof.Rows
set_option maxRecDepth 100000
section
variable {prog:AJ}{w:HQ}{A:AO}{E:tR}{s:Af}
end
end Sts
namespace Sts
open PySem PyProof.Rows
set_option maxRecDepth 100000
section
variable {prog:AJ}{w:HQ}{A:AO}{E:tR}{s:Af}
end
end Sts
namespace Sts
open PySem PyProof.Rows
set_option maxRecDepth 100000
section
variable {prog:AJ}{w:HQ}{A:AO}{E:tR}{s:Af}
end
end Sts
namespace Sts
open PySem PyProof.Rows
set_option maxRecDepth 100000
section
variable {prog:AJ}{w:HQ}{A:AO}{E:tR}{s:Af}
end
end Sts
namespace Add
open PySem PySem.Spec PyProof.Rows L2
def boot_sorted:bootBuiltins "sorted"=HA (.builtin "sorted"):=Uk
section
variable {X:Cx}
end
end Add
namespace Add
open PySem PySem.Spec PyProof.Rows L2
section
variable {X:Cx}{pins:List (HC×Obj)}{σ:L2.St}{H:Hp}{s:Af}
section
variable {d:HC}{o:Obj}{kvs:List (IC×V)}
theorem QR (I:Inv X pins σ H s)(g:H d=HA (.dK kvs))(l:s.heap.get? d=HA o):Inv X pins σ (upd H d<|.frz o<|.dK kvs) s:=by
 have a:∀b u,H b=HA u->(∀k,u ≠ .dK k)->b≠d:=λb u e n z=>by rw[z,g]at e;exact n kvs (A8 e).symm
 have f:∀b,H b=HD->b≠d:=λb e z=>by rw[z,g]at e;cases e
 refine⟨I.ok,I.os,I.bare,⟨I.base.keep,I.base.slot,λb u e n j=>?_,I.base.there,λb xs e=>?_,λb u v e=>?_,λb ps e=>?_⟩,I.loc,I.cell,?_,λx c e=>?_,λp r=>?_,λb u e=>?_,I.len⟩
 .have:=I.base.free b u e n j;rw[qr<|f b this];exact this
 .have:=I.base.tups b xs e;rw[qr<|a b _ this λk z=>nomatch z];exact this
 .have:=I.base.frzs b u v e;rw[qr<|a b _ this λk z=>nomatch z];exact this
 .obtain⟨m,this⟩:=I.base.tbls b ps e;exact⟨m,by rw[qr<|a b _ this λk z=>nomatch z];exact this⟩
 .rw[qr<|f _ I.free];exact I.free
 .rw[qr<|f _<|I.freeC x c e];exact I.freeC x c e
 .obtain⟨i,h,t⟩:=I.pin p r;exact⟨i,by rwa[qr<|f _ h],t⟩
 .have st:∀{b u},ObjOk X.prog X.w H s.heap b u->ObjOk X.prog X.w (upd H d<|.frz o<|.dK kvs) s.heap b u:=λ{b u} q=>q.stay (λ_ _ _ e=>e) (λc e=>by rwa[qr<|a c _ e λk z=>nomatch z]) λc xs e=>by rwa[qr<|a c _ e λk z=>nomatch z]
  by_cases z:b=d
  .rw[z]at e |-;rw[qk]at e;cases e;exact⟨l,st<|I.hok d _ g⟩
  .rw[qr z]at e;exact st<|I.hok b u e
theorem Nb (I:Inv X pins σ H s)(g:H d=HA (.frz o<|.dK kvs))(t:∀u v,X.H₀ d≠HA (.frz u v)):Inv X pins σ (upd H d<|.dK kvs) s:=by
 have f:∀b u,H b=HA u->(∀k v,u ≠ .frz k v)->b≠d:=λb u e n z=>by rw[z,g]at e;exact n _ _ (A8 e).symm
 have a:∀b,H b=HD->b≠d:=λb e z=>by rw[z,g]at e;cases e
 refine⟨I.ok,I.os,I.bare,⟨I.base.keep,I.base.slot,λb u e n j=>?_,I.base.there,λb xs e=>?_,λb u v e=>?_,λb ps e=>?_⟩,I.loc,I.cell,?_,λx c e=>?_,λp l=>?_,λb u e=>?_,I.len⟩
 .have:=I.base.free b u e n j;rw[qr<|a b this];exact this
 .have:=I.base.tups b xs e;rw[qr<|f b _ this λk v z=>nomatch z];exact this
 .have:=I.base.frzs b u v e;rw[qr<|λz=>t u v (by rwa[<- z])];exact this
 .obtain⟨m,this⟩:=I.base.tbls b ps e;exact⟨m,by rw[qr<|f b _ this λk v z=>nomatch z];exact this⟩
 .rw[qr<|a _ I.free];exact I.free
 .rw[qr<|a _<|I.freeC x c e];exact I.freeC x c e
 .obtain⟨i,h,r⟩:=I.pin p l;exact⟨i,by rwa[qr<|a _ h],r⟩
 .have st:∀{b u},ObjOk X.prog X.w H s.heap b u->ObjOk X.prog X.w (upd H d<|.dK kvs) s.heap b u:=λ{b u} q=>q.stay (λ_ _ _ e=>e) (λc e=>by rwa[qr<|f c _ e λk v z=>nomatch z]) λc xs e=>by rwa[qr<|f c _ e λk v z=>nomatch z]
  by_cases z:b=d
  .rw[z]at e |-;rw[qk]at e;cases e;exact st (I.hok d _ g).2
  .rw[qr z]at e;exact st<|I.hok b u e
end
end
end Add
namespace Lam
open PySem PySem.Spec PySem.Calls PyProof.Rows L2 Add PySem.W
def Yu (X:Cx)(A:AO)(N:tG)(qual:Str)(scope:IS)(f:HC)(cd:HE)(cl:List (Str×HC))(s:Af)(H:Hp)(E:tR):Cx where
 prog:=X.prog
 w:=X.w
 K:=X.K
 mg:=X.mg
 base:=X.base
 A:=A.deeper<|envX qual scope s.heap.objs.size f cd cl
 N:=N
 s₀:=s
 H₀:=H
 env:=envX qual scope s.heap.objs.size f cd cl
 outer:=X.stack
 stack:=envX qual scope s.heap.objs.size f cd cl::X.stack
 ex:=[]
 fn:=λ_=>HH
 calm:=HG
 pn:=[]
 xe:=E
def OT (js:sr)(σ:L2.St)(x:V):L2.St:=(Lb js σ).set 0<|HA x
section
variable {X:Cx}{A:AO}{N XN:tG}{js:sr}{xs scope:IS}{qual y:Str}{f:HC}{cd:HE}{cl:List (Str×HC)}{E:tR}{pins:List (HC×Obj)}{σ:L2.St}{H:Hp}{s:Af}{u:HE}{x:V}
theorem qxs {D:HX}{tk:Nat}(hN:X.N=XN)(O:X.env.scope=xs)(nm:CompNm N js XN xs scope)(g:∀x c,cl.lookup x=HA c->X.env.cells.lookup x=HA c)(n:∀x∈scope.names,x.2=.free->(cl.lookup x.1).isSome=HG)
  (hA:A.frames=HA X.stack)(C:A.handled=HD)(h0:N[0]?=HA y)(j0:js[0]?=HA HD)(Y:scope.names.lookup y=HA .local)(I:Inv X pins σ H s)(R:RelV x u)
  (Q:D.Ns s.heap.objs.size (λz=>[(y,u)].reverse.lookup z))(m:∀b o,s.heap.get? b=HA o->D.get? b=HA o) :
  Inv (Yu X A N qual scope f cd cl s H E) [] (OT js σ x) H {s with heap:=D,toks:=tk}:=by
 have r:∀b:HC,b∉(Yu X A N qual scope f cd cl s H E).ex:=λb z=>absurd (show b∈([]:tI) from z) (by simp);have ln:0<js.length:=(Ac.mp j0).1;refine⟨⟨I.ok.mod,nm.kind,Z,Z,Al _,λx y c h1 T=>I.ok.inj x y c (g x c h1)<|g y c T,λz hz=>?_,(λ_ _ h _=>nomatch h),λ_=>C,AO.frames_deeper hA,.inr ⟨Z,Z⟩,λb z=>absurd z<|r b,I.bs,Az I.ok.bsz I.sz,λb _ _=>r b,λb z=>absurd z<|r b,I.stack,I.stkFree⟩,
  rfl,I.bare,Un.kept m,⟨_,Q,λi z v t d _=>?_⟩,λz c e=>?_,I.hok.fresh<|Al _,λz c e=>I.freeC z c<|g z c e,λp hp=>absurd (show p∈([]:List (HC×Obj)) from hp)<|by simp,I.hok.kept m,?_⟩
 .have hz:scope.names.lookup z=HA .cell\/scope.names.lookup z=HA .free:=hz;rcases hz with hz|hz
  .exact absurd rfl (nm.nocell _<|Co hz)
  .exact BZ.mp<|n _ (Co hz) Z
 .by_cases c:i=0
  .subst c;have t:N[0]?=HA z:=t;rw[h0]at t;cases t;have d:(OT js σ x)[0]?=HA (HA v):=d;unfold OT at d;rw[DF (by unfold Lb;rwa[Ab])]at d;cases d;exact⟨u,R,.inl ⟨Y,by show [(y,u)].reverse.lookup y=HA u;simp⟩⟩
  .have d:(OT js σ x)[i]?=HA (HA v):=d;unfold OT at d;rw[DY<|By c]at d;have l:((js[i]?).map λj=>j.bind λk=>(σ[k]?).join)=HA (HA v):=by
    unfold Lb at d
    rwa [Ai]at d
   cases F:js[i]? with
   |none=>rw[F]at l;cases l
   |some jo =>
    rw[F]at l;cases jo with
    |none=>cases l
    |some j =>
     have a:(σ[j]?).join=HA v:=A8 l;have e4:σ[j]?=HA (HA v):=by
      cases q:σ[j]? with
      |none=>rw[q]at a;cases a
      |some o=>rw[q]at a;cases o with
       |none=>cases a
       |some y=>cases a;rfl
     obtain⟨a1,K,W,U⟩:=nm.free i j z t F;obtain⟨_,_,lX⟩:=I.loc;have L:Q9 X.env.scope z:=by rw[O];exact .inr K
     obtain⟨u',V,lu⟩:=lX j z v (by rwa[hN]) e4 L;refine⟨u',V,?_⟩;rcases lu with ⟨P,_⟩|⟨P,c,S,w⟩
     .exfalso;have B:X.env.scope.names.lookup z=HA .local:=P;rw[O]at B;rcases K with q|q <;>rw[q]at B <;>cases B
     .obtain⟨c',M⟩:=BZ.mp<|n _ W Z;have J:=g z c' M;rw[S]at J;cases J;refine .inr ⟨.inr U,c,M,?_⟩;obtain⟨o,G,C⟩:=w;exact⟨o,m c o G,C⟩
 .obtain⟨v,o,G,C⟩:=I.cell z c<|g z c e;exact HP v o ⟨m c o G,C⟩
 .unfold OT Lb;rw[Ed,Ab];exact nm.len.symm
theorem NQ {g:Str}{d:Arguments}{a:HS}{D l:HE}{h:HC}{tb:TE}{Q:VK}(V:X.N=XN)(W:X.env.scope=xs)(nm:CompNm N js XN xs scope)(n:∀x c,cl.lookup x=HA c->X.env.cells.lookup x=HA c)(m:∀x∈scope.names,x.2=.free->(cl.lookup x.1).isSome=HG)
  (T:A.frames=HA X.stack)(U:A.handled=HD)(i:A.depth<recursionLimit)(Y:N[0]?=HA y)(S:js[0]?=HA HD)(B:scope.names.lookup y=HA .local)(C:scope.isCoroutine=HH)(p:scope.isGenerator=HH)
  (j:∀u,bindArgs (kla_fn g qual d a scope cl D (.ref h) l) ⟨[u],[]⟩=pure [(y,u)])
  (O:∀(s:Af)(H:Hp)(E:tR),PE (Yu X A N qual scope f (.ref h) cl s H E) a tb)
  (I:Inv X pins σ H s)(R:s.heap.get? f=HA (DX g qual d a scope cl D h l))(F:s.heap.CodeRec (.ref h) qual)(K:RelV x u)(P:tb (OT js σ x) H Q) :
  wpAny (model X.prog X.w) A (call (.ref f) [u]) (EP X pins σ Q) E s:=by
 refine wpAny_call<|kla_callFunE i R Z C p Z F ?_;rw[j u];refine Bi<|wpAny_newFunctionEnv nm.nocell (λz hz=>?_) (λL G t=>?_) nm.kind
 .rwa[Aj.mp hz]
 have k:∀b o,s.heap.get? b=HA o->L.get? b=HA o:=λb o e=>t.extBut b o (AD<|AC e)<|Aw _ e;refine⟨(I.nolimit).keeps k,?_⟩;show codeAny _ _ (.expr a<|envX qual scope s.heap.objs.size f (.ref h) cl) _ _;refine kla_codeExpr ?_;refine Cd (O s H _ [] _ (OT js σ x) H Q (qxs V W nm n m T U Y S B I K G k) P) (λv _ z=>?_) λ_ _ z=>z;obtain⟨M,H',J,r,q⟩:=z;exact I.after<|HP M H' ⟨J.os,J.bare,J.base,J.hok,r,q⟩
end
structure LamF (mg:Str->tK)(base:HX)(c Pt:HC):Prop where
 hd:CodeHd base c Pt
 bm:∃bm ob,mg "__builtins__"=HA (.ref bm)/\bm≠builtinsNs/\bm≠A7/\base.get? bm=HA ob/\ob.cls=.type "module" /\ ob.dict=HA builtinsNs/\ob.data=.plain
section
variable {fs ex:tI}{H:Hp}{h h':HX}{Pt:HC}{ps more:tO}{prog:AJ}{w:HQ}
def Wu {b:HC}{u:HO}(a:H Pt=HA (.tbl ps))(q:H b=HA u)(n:∀z,u ≠ .tbl z):b≠Pt:=λz=>by rw[z,a]at q;exact n _ (A8 q).symm
def SJ (a:H Pt=HA (.tbl ps))(k:∀b o,b≠Pt->h.get? b=HA o->h'.get? b=HA o)(e:h'.get? Pt=HA (tabObj<|ps++more)):Un fs ex H (upd H Pt<|.tbl<|ps++more) h h':=by
 have c:∀b,H b=HD->b≠Pt:=λb n z=>by rw[z,a]at n;cases n
 refine⟨λb o q n _ _=>k b o (c b n) q,λb o q n _ _=>⟨o.slots,k b o (c b n) q⟩,λb o q n _=>by rwa[qr<|c b n],λb o q _=>?_,λb _ q=>?_,λb o u q=>?_,λb _ q=>?_⟩
 .by_cases z:b=Pt
  .rw[z];exact⟨_,e⟩
  .exact⟨o,k b o z q⟩
 .rwa[qr<|Wu a q sh]
 .rwa[qr<|Wu a q sh]
 .by_cases z:b=Pt
  .rw[z,a]at q;cases q;exact⟨more,by rw[z,qk]⟩
  .exact⟨#[],by rw[qr z,q];simp⟩
def QT (f:HOk prog w H h)(d:H Pt=HA (.tbl ps))(k:∀b o,b≠Pt->h.get? b=HA o->h'.get? b=HA o)(e:h'.get? Pt=HA (tabObj<|ps++more)):HOk prog w (upd H Pt<|.tbl<|ps++more) h':=λb u q=>by
 by_cases z:b=Pt
 .subst z;rw[qk]at q;cases q;exact e
 .rw[qr z]at q;refine(f b u q).stay (λc v a r=>k c v ?_ r) (λc r=>?_) λc _ r=>?_
  .rcases a with rfl|a
   .exact z
   .exact Wu d a sh
  .rwa[qr<|Wu d r sh]
  .rwa[qr<|Wu d r sh]
end
section
variable {X:Cx}{scope:IS}{cl:List (Str×HC)}{E:tR}{pins:List (HC×Obj)}{σ:L2.St}{H:Hp}{s:Af}
end
section
variable {X:Cx}{A:AO}{E:tR}{pins:List (HC×Obj)}{σ:L2.St}{H:Hp}{s:Af}
def qpw {a:HC}{o:HO}(I:Inv X pins σ H s)(y:H a=HD)(C:X.s₀.heap.objs.size<=a)(i:a≠X.env.locals)(j:∀x c,X.env.cells.lookup x=HA c->c≠a)(A:∀p∈X.pn++pins,p.1≠a)(f:ObjOk X.prog X.w (upd H a o) s.heap a o):Inv X pins σ (upd H a o) s:=by
 have B:∀b u,H b=HA u->b≠a:=λb u e z=>by rw[z,y]at e;cases e
 have d:∀b u,H b=HA u->upd H a o b=HA u:=λb u e=>by rwa[qr<|B b u e]
 refine⟨I.ok,I.os,I.bare,⟨I.base.keep,I.base.slot,λb u e n t=>?_,I.base.there,λb xs e=>d _ _<|I.base.tups b xs e,λb u z e=>d _ _<|I.base.frzs b u z e,λb ps e=>?_⟩,I.loc,I.cell,?_,λx c e=>?_,λp g=>?_,λb u e=>?_,I.len⟩
 .rw[qr<|AD<|Ay (AC e) C];exact I.base.free b u e n t
 .obtain⟨m,q⟩:=I.base.tbls b ps e;exact⟨m,d _ _ q⟩
 .rw[qr i.symm];exact I.free
 .rw[qr<|j x c e];exact I.freeC x c e
 .obtain⟨l,k,h⟩:=I.pin p g;exact⟨l,by rw[qr<|A p g];exact k,h⟩
 .by_cases z:b=a
  .subst z;rw[qk]at e;cases e;exact f
  .rw[qr z]at e;exact(I.hok b u e).stay (λc v _ r=>r) (λc r=>d _ _ r) λc xs r=>d _ _ r
theorem YD {a:HC}{ks ks':tW}{g:tO->tO}{Q:Unit->Af->Prop}(I:Inv X pins σ H s)(h:H a=HA (.lst ks))(f:ks'.length<=A4)(i:∀its:tH,Vals ks its->Vals ks' (g its.toArray).toList)
  (k:∀s',Inv X pins σ (upd H a<|.lst ks') s'->Q () s'):wpAny (model X.prog X.w) A (BJ.List.listUpdate (.ref a) g) Q E s:=by
 obtain⟨z,its,n,r,e⟩:=(show ObjOk X.prog X.w H s.heap a (.lst ks) from I.hok a _ h);have c:=i its r;have sz:(g its.toArray).size<=A4:=by
  have e1:ks'.length=(g its.toArray).size:=by rw[c.length,Cn]
  lia
 refine listUpdate_at (o:=seqObj "list" its.toArray n) e rfl ?_ (by rwa[Ah,<- r.length]) (BV sz);obtain⟨c2,hc2⟩:∃c2,(s.heap.update a<|BE g).get? a=HA (seqObj "list" (g its.toArray) c2):=⟨_,get?_update_seq e g⟩;have d:=CM.update s.heap a<|BE g;refine k _ (I.write (x:=a) (e:=a) (t':=s.toks) (by rw[h];trivial) (.inl Z) (λb u j q=>(d.2 b j).trans q) ⟨_,hc2⟩ ⟨f,(g its.toArray).toList,c2,c,by rw[hc2,Array.toArray_toList]⟩)
end
section
variable {X:Cx}{A:AO}{E:tR}{pins:List (HC×Obj)}{σ:L2.St}{H:Hp}{s:Af}
end
end Lam
namespace Lam
open PySem PySem.Spec PySem.Calls PyProof.Rows L2 Add PySem.W
section
variable {prog:AJ}{w:HQ}{A:AO}{E:tR}{s:Af}
end
section
variable {X:Cx}
end
end Lam
namespace Lam
open PySem PySem.Spec PySem.Calls PyProof.Rows L2 Add PySem.W
section
variable {P:AJ}{w:HQ}{K:Frag}{mg mb:Str->tK}{CX:LQ}{k:Nat}{fa a c Pt:HC}{fd:BC}{x:Str}{sp:Sp}{s₁:Af}{vs:tH}{ns:tL}
noncomputable def R7 (K:Frag)(a Pt:HC)(vs:tH)(ns:tL):Hp:=λb =>
 if b=Pt then HA (.tbl #[]) else if b=a/\K.lookup a=HD then HA (.frz {cls:=.type "list",data:=.seq vs.toArray}<|.lst<|ns.map V.int) else HD
theorem QK (S:K.In s₁.heap)(E:s₁.heap.Ns A7 mg)(hb:s₁.heap.Ns builtinsNs mb)(Q:∀x:Str,x ≠ "__name__" -> mb x=bootBuiltins x)(L:s₁.heap.NoLimit)(hg:s₁.gens=#[])
  (g:s₁.heap.get? a=HA {cls:=.type "list",data:=.seq vs.toArray})(hi:IntsAre vs ns)(hl:ns.length<=A4)(hr:Room k callerA)
  (hC:CodeHd s₁.heap c Pt)(hPt:s₁.heap.get? Pt=HA (tabObj #[]))(hKP:K.lookup Pt=HD)
  (hbm:∃y A,mg "__builtins__"=HA (.ref y)/\y≠builtinsNs/\y≠A7/\s₁.heap.get? y=HA A/\A.cls=.type "module" /\ A.dict=HA builtinsNs/\A.data=.plain)
  (F:∀base:HX,K.In base->base.Ns A7 mg->LamF mg base c Pt->FnOk P w K mg base CX k fa fd [x] sp)(hbind:∀(s:Af)(u:HE),BindsTo s fd ⟨[u],[]⟩ [(x,u)])
  (hsp:∀H:Hp,H Pt=HA (.tbl #[])->SqL K H a (ns.map V.int)->sp [.ref a] H (λv _=>v=.bl HG) λ_ _ _=>False)
  (hCX:∀H e j,CX [] H s₁ (λ_ _ _=>False) e j->False) :
  codeAny (model P w) callerA (.call (.ref fa) ⟨[.ref a],[]⟩) (λr j=>r=.ok (.ret<|.bool HG)/\OldK s₁.heap j.heap/\j.os=s₁.os/\AllBare j.gens) s₁:=by
 have rv:=qpi hi;have M:=hi.length;have R:a≠Pt:=λz=>by rw[z,hPt]at g;cases g
 have l:R7 K a Pt vs ns Pt=HA (.tbl #[]):=HI rfl;have only:∀b,R7 K a Pt vs ns b≠HD->b=Pt\/(b=a/\K.lookup a=HD):=λb z=>by
  by_cases e:b=Pt
  .exact .inl e
  .by_cases f:b=a/\K.lookup a=HD
   .exact .inr f
   .exact absurd (by unfold R7;rw[HF e,HF f]) z
 have p:K.lookup a=HD->R7 K a Pt vs ns a=HA (.frz {cls:=.type "list",data:=.seq vs.toArray}<|.lst<|ns.map V.int):=λz=>by unfold R7;rw[HF R,HI ⟨Z,z⟩]
 generalize R7 K a Pt vs ns=H at l only p;have W:HOk P w H s₁.heap:=λb u e=>by
  rcases only b (by rw[e];simp) with rfl|⟨rfl,i⟩
  .rw[l]at e;cases e;exact hPt
  .rw[p i]at e;cases e;exact⟨g,by rwa[Ab],vs,_,rv,g⟩
 have un:∀{b:HC}{o:Obj},s₁.heap.get? b=HA o->o.cls ≠ .none->b≠a->H b=HD:=λ{b o} e hc U=>by
  cases q:H b with
  |none=>rfl
  |some u =>
   rcases only b (by rw[q];simp) with rfl|⟨z,_⟩
   .rw[hPt]at e;cases e;exact absurd rfl hc
   .exact absurd z U
 have O:∀{b:HC}{o:Obj}{es:Array DictEntry}{ep:Nat},s₁.heap.get? b=HA o->o.data=.dict es ep->H b=HD:=λ{b o es ep} e d=>by
  cases q:H b with
  |none=>rfl
  |some u =>
   rcases only b (by rw[q];simp) with rfl|⟨rfl,_⟩
   .rw[hPt]at e;cases e;cases d
   .rw[g]at e;cases e;cases d
 have t:∀{b:HC}{m:Str->tK},s₁.heap.Ns b m->(Pa s₁.heap H).Ns b m:=(by intro b m w';obtain⟨o,es,ep,e,d,r⟩:=w';exact HW o es ep ⟨Zm e<|O e d,d,r⟩);have kin:K.In (Pa s₁.heap H):=λb o e=>Zm (S b o e) (by
  cases q:H b with
  |none=>rfl
  |some u =>
   rcases only b (by rw[q];simp) with rfl|⟨rfl,i⟩
   .rw[hKP]at e;cases e
   .rw[i]at e;cases e)
 have md:Mod K mg (Pa s₁.heap H):=⟨kin,t E,⟨mb,t hb,Q⟩,by obtain⟨mc,h1,h2⟩:=L;exact⟨mc,t h1,h2⟩⟩;have lf:LamF mg (Pa s₁.heap H) c Pt:=by
  refine⟨?_,?_⟩
  .obtain⟨o,ws,N,tf,C,tg,X,G,tt,e,f,r⟩:=hC;refine(Ic o ws N tf C tg X G ⟨tt,Zm e (un e (by rw[f];exact sh) λz=>?_),f,r⟩);rw[z,g]at e;cases e;exact absurd (Cq.inj f) Ud
  .obtain⟨y,A,b1,b2,b3,D,J,b6⟩:=hbm;refine(HP y A ⟨b1,b2,b3,Zm D (un D (by rw[J];exact sh) λz=>?_),J,b6⟩);rw[z,g]at D;cases D;exact absurd (Cq.inj J) Ud
 have sq:SqL K H a (ns.map V.int):=by
  cases i:K.lookup a with|none=>exact .inl (.inr ⟨_,p i⟩)|some o =>have e:=S a o i;rw[g]at e;cases e;exact .inr (HW _ vs.toArray _ ⟨i,Z,Z,Z,by rwa[Ah,M],by simpa using rv⟩)
 have Y:Env0 P w K mg (Pa s₁.heap H) callerA [] s₁ H:=⟨Z,md,λb o e=>QA e,BN<|qw0 _ _,trivial,λb z=>absurd (show b∈([]:tI) from z)<|by simp,W,.of_eq hg⟩;refine codeAny_mono ((F _ kin (t E) lf).run callerA [] s₁ H ⟨[.ref a],[]⟩ [.ref a] [.ref a] _ _ hr Y (hbind s₁<|.ref a) (.cons Z .nil)<|hsp H l sq) λr j h=>?_
 match r,h with
 |.error e,h=>exact(hCX H e j h).elim
 |.ok .next,h=>exact C1 h
 |.ok .brk,h=>exact C1 h
 |.ok .cont,h=>exact C1 h
 |.ok (.ret u),h =>
  obtain⟨v,_,os,I,n,B,r',q⟩:=h;cases (show v=.bl HG from q);cases (show u=DR HG from r');refine⟨Z,⟨λb o e=>?_,λb o e=>n.there b o e<|by simp⟩,os,I⟩;by_cases T:H b=HD
  .exact .inl (n.keep b o e T (λz=>absurd (show b∈([]:tI) from z)<|by simp)<|by simp)
  .rcases only b T with rfl|⟨rfl,i⟩
   .obtain⟨more,f⟩:=n.tbls b _ l;have e3:j.heap.get? b=HA (tabObj (#[]++more)):=B b _ f;rw[hPt]at e;cases e;exact .inr<|.inl ⟨(hC.tab hPt).isCodeTable,Z,#[],more,Z,e3⟩
   .have f:=n.frzs b _ _<|p i;rw[g]at e;cases e;exact .inl (B b _ f).1
end
theorem walk_tab {l:OpenLaw}{n k:Nat}{q:AJ}{p:tG}{XP:(Str->tK)->HX->Prop}{P:HQ->HX->Prop}{d d':DefRec}{K:Params->Frag}{CX:HQ->LQ}{sp:HQ->HC->Sp}{x dn:Str}
  (W:l.most=HA n)(R:n<=A4)(M:d.params.defaults=[])(hr:Room k callerA)(A:(recsOf q).find? (λe=>e.name == dn)=HA d')
  (hY:∀(w:HQ)(h:HX),P w h->(K w.params).In h)
  (F:∀(w:HQ)(mg:Str->tK)(t:HC)(h:HX),(K w.params).In h->h.Ns A7 mg->mg d.name=HA (.ref t) ->
   ∃(fd:BC)(c i:HC),(∀(s:Af)(u:HE),BindsTo s fd ⟨[u],[]⟩ [(x,u)])/\tabIn (K w.params) dn=HA (c,i)/\(K w.params).lookup i=HD /\
    ∀base:HX,(K w.params).In base->base.Ns A7 mg->LamF mg base c i->FnOk l.prog w (K w.params) mg base (CX w) k t fd [x] (sp w i))
  (J:∀(w:HQ)(H:Hp)(a i:HC)(r:tL),r.length<=n->H i=HA (.tbl #[])->SqL (K w.params) H a (r.map V.int)->sp w i [.ref a] H (λv _=>v=.bl HG) λ_ _ _=>False)
  (L:∀(w:HQ)(H:Hp)(s:Af)(e:HE)(y:Af),CX w [] H s (λ_ _ _=>False) e y->False) :
  WalkO q p XP P l.row.toRowW d [] (λf vs=>PySem.call f vs):=by
 refine Att.attach_call W M λw _ s₁ mg _ t o _ _ _ a vs r G Y _ _ _ N D m j hg=>?_;have C:=hY w _ Y;obtain⟨fd,c,i,hb,ht,hk,hF⟩:=F w mg t _ C G.T.g N;obtain⟨hC,O⟩:=tab_of G.T C A ht;obtain⟨I,ob,b1,b2,E,X,S,B⟩:=G.T.bmain;have Q:I≠A7:=λz=>by obtain⟨u,_,_,e,U,_⟩:=G.T.g;rw[z,e]at E;cases E;rw[U]at B;cases B
 exact QK C G.T.g G.T.b G.T.builtins G.T.nolimit hg D m (Az j R) hr hC O hk (HP I ob ⟨b1,b2,Q,E,X,S,B⟩) hF hb (λH hP hS=>J w H a i r j hP hS) λH e y=>L w H s₁ e y
end Lam
namespace Lam
open PySem PySem.Spec PySem.Calls PyProof.Rows L2 Add PySem.W
theorem okT {P:AJ}{w:HQ}{K:Frag}{mg:Str->tK}{base:HX}{x b:Str}{st:HN}{f c:HC}{fd:BC}{N ps:tG}{k:Nat}{sp:Sp}(F:Fun K x b st f fd)(i:fd.code=.ref c)(S:FnScope N ps (Iy st))(len:∀vs H Q E,sp vs H Q E->vs.length=ps.length)
  (d:∀(a:HE),a=.ref c->∀(A:AO)(outer:List Env)(s:Af)(H:Hp)(vs:tW)(Q:VK)(E:XK),Room k (A.deeper<|envOfC b (Iy st) s.heap.objs.size f a)->sp vs H Q E ->
   ∃t,PSs (OR Hw P w K mg base N b (Iy st) f a A outer s H E).nox (Jv st) t/\t {nx:=λ_ H'=>Q .non H',rt:=Q} (start N vs) H):FnOk P w K mg base Hw (k+1) f fd ps sp:=by
 obtain⟨_,_,_,_,_,_,a,_,_,rfl,l,g⟩:=F.ex
 refine Nm l g S len λA outer s H vs Q E j e=>?_
 obtain⟨t,h,q⟩:=d a i A outer s H vs Q E j e
 exact⟨t,h.nox,q⟩
end Lam
namespace Lam
open PySem PySem.Spec PySem.Calls PyProof.Rows L2 Add PySem.W
end Lam
namespace Lam
open PySem PySem.Spec PySem.Calls PyProof.Rows L2 Add PySem.W
end Lam
namespace Lam
open PySem PySem.Spec PySem.Calls PyProof.Rows L2 Add PySem.W
def tab_mk {K:Frag}{x:Str}{f c b:HC}{g j:HE}{h n:tQ}{fd:BC}{a m:tD}{vs:tO}(k:nsIn K A7 x=HA (HA<|.ref f))(e:K.lookup f=HA ⟨g,h,.func fd,a⟩)(l:fd.code=.ref c)(d:K.lookup c=HA ⟨j,n,.fields vs,m⟩)(i:vs[11]?=HA (.ref b)):tabIn K x=HA (c,b):=by unfold tabIn;rw[k];dsimp only;rw[e];dsimp only;rw[l];dsimp only;rw[d];dsimp only;rw[i]
end Lam
namespace Add
open PySem PySem.Spec PyProof.Rows L2
end Add
namespace Lam
open PySem PySem.Spec PyProof.Rows L2 Add PySem.W PySem.Calls Srt
section
variable {H H':Hp}{d c b:HC}{a q:Str}
noncomputable def RU (c:HC)(qual:Str):HO:=.ext λh=>h.CodeRec (.ref c) qual
def LamAt (H:Hp)(Pt:HC)(pos:Pos)(qual:Str):Prop:=H Pt=HA (.tbl #[]) \/ ∃c',H Pt=HA (.tbl #[rawInt pos.line,rawInt pos.col,.ref c'])/\H c'=HA (RU c' qual)
theorem LamAt.keep {pos:Pos}(h:LamAt H d pos a)(k:∀b o,(∀xs,o ≠ .lst xs)->H b=HA o->H' b=HA o):LamAt H' d pos a:=by
 rcases h with h|⟨c,f,e⟩
 .exact .inl<|k _ _ sh h
 .exact .inr ⟨c,k _ _ sh f,k _ _ sh e⟩
theorem LamAt.same {pos:Pos}(h:LamAt H c pos a)(k:Same H H'):LamAt H' c pos a:=h.keep λb o _ e=>k b o e
theorem LamAt.tbl {pos:Pos}(h:LamAt H b pos a):∃ps,H b=HA (.tbl ps):=by
 rcases h with h|⟨c,d,_⟩
 .exact⟨_,h⟩
 .exact⟨_,d⟩
theorem Qu {P:AJ}{w:HQ}{h:HX}(r:h.CodeRec (.ref c) q):ObjOk P w H h c (RU c q):=by
 refine⟨r,?_,λ_ _ r k=>?_⟩
 .obtain⟨f,a,vs,t,e,b,_⟩:=r;cases e;exact⟨a,b⟩
 .obtain⟨f,a,vs,t,e,b,g,d⟩:=r;cases e;exact Hv c a vs t ⟨Z,k _ b,g,d⟩
end
section
variable {X:Cx}{scope:IS}{cl:List (Str×HC)}{E:tR}{pins:List (HC×Obj)}{σ:L2.St}{H:Hp}{s:Af}
theorem qxt {c g:HC}{a:Arguments}{i:HS}{pos:Pos}{Q:tR}(I:Inv X pins σ H s)(L:LamF X.mg X.base c g)(K:X.env.code=.ref c)(r:LamAt H g pos (X.env.qual ++ "<lambda>"))
  (D:defaultsOf a X.env=([],[]))(hcl:closureFor scope X.env=pure cl)
  (k:∀(f d:HC)(pm h:HE)(H':Hp)(s':Af),Inv X (pins++[(f,DX "<lambda>" (X.env.qual ++ "<lambda>") a i scope cl pm d h)]) σ H' s'->(∀b o,b≠g->H b=HA o->H' b=HA o)->H' g=HA (.tbl #[rawInt pos.line,rawInt pos.col,.ref d])->H' d=HA (RU d<|X.env.qual ++ "<lambda>")->Q (.ref f) s') :
  wpAny (model X.prog X.w) X.A (eval (.Lambda a i scope pos) X.env) Q E s:=by
 have V:s.heap.Ns A7 X.mg:=I.ok.mod.glob.keeps I.bk;obtain⟨bm,ob,b1,b2,b3,b4,P,b6,b7⟩:=L.bm;have y:=I.bk _ _ b4;have T:=I.lt;obtain⟨ad,O⟩:=r.tbl;have C:s.heap.get? g=HA (tabObj ad):=I.hok g _ O;have ag:A7≠g:=λq=>by obtain⟨o,_,_,e,hd,_⟩:=V;rw[q,C]at e;cases e;cases hd
 have M:bm≠g:=λq=>by rw[q,C]at y;cases y;cases P
 rcases r with r|⟨d,r,W⟩
 .have B:s.heap.get? g=HA (tabObj #[]):=I.hok g _ r;refine kla_eval D<|kla_makeFunction (mg:=X.mg) hcl I.ok.glob V K (L.hd.keeps I.bk) B trivial Z ag (HP bm ob ⟨b1,b2,b3,M,y,P,b6,b7⟩) λd h h' tk U l J R af=>?_;have G:∀b o,b≠g->s.heap.get? b=HA o->(h'.push<|DX "<lambda>" (X.env.qual ++ "<lambda>") a i scope cl ((X.mg "__name__").getD .none) d h).get? b=HA o:=λb o n e=>Aw _<|U b o n e;have tb:=Aw (DX "<lambda>" (X.env.qual ++ "<lambda>") a i scope cl ((X.mg "__name__").getD .none) d h) af;have F:Inv X pins σ (upd H g<|.tbl (#[] ++ #[rawInt pos.line,rawInt pos.col,.ref d])) {s with heap:=h'.push<|DX "<lambda>" (X.env.qual ++ "<lambda>") a i scope cl ((X.mg "__name__").getD .none) d h,toks:=tk}:=I.un (SJ r G tb)<|QT I.hok r G tb;have m:s.heap.objs.size<=h'.objs.size:=Bt<|CF l J;have N:g<s.heap.objs.size:=AC B;have hn:∀b,s.heap.objs.size<=b->upd H g (.tbl (#[] ++ #[rawInt pos.line,rawInt pos.col,.ref d])) b=HD:=λb hb=>by rw[qr<|Cv<|Ay N hb];exact I.hok.fresh hb
  have S:(h'.push<|DX "<lambda>" (X.env.qual ++ "<lambda>") a i scope cl ((X.mg "__name__").getD .none) d h).CodeRec (.ref d) (X.env.qual ++ "<lambda>"):=by obtain⟨_,oc,vs,t,e2,ae,hd,hv⟩:=id R;cases e2;exact Hv d oc vs t ⟨Z,Aw _ ae,hd,hv⟩
  have Y:=qpw (o:=RU d<|X.env.qual ++ "<lambda>") F (hn d l) (Az I.sz l) (Cv<|Ay T l) (λx cc e=>by obtain⟨v,qc⟩:=I.cell x cc e;exact AD<|Ay qc.lt l) (λp j=>AD<|Ay (AC (I.pin p j).1) l)<|Qu S;have nP:g≠d:=AD<|Ay N l;refine k h'.objs.size d ((X.mg "__name__").getD .none) h _ _ (Y.pins_of λp j=>?_) (λb o n e=>?_) ?_ qk
  .rcases As.mp j with j|j
   .exact Y.pin p<|A3 _ j
   .rw[Aj.mp j];refine⟨AX _ Z,?_,Cv<|Ay T m,I.nofs m,sh⟩;rw[qr<|Cv J];exact hn _ m
  .have lb:b<s.heap.objs.size:=I.hok.lt e;rwa[qr<|AD<|Ay lb l,qr n]
  .rw[qr nP,qk];rfl
 .have B:s.heap.get? g=HA (tabObj #[rawInt pos.line,rawInt pos.col,.ref d]):=I.hok g _ r;refine kla_eval D (kla_makeFunctionHit (mg:=X.mg) (cv:=.ref d) hcl I.ok.glob V K (L.hd.keeps I.bk) B trivial (by simp[codeAmong,rawInt]) (HP bm ob ⟨b1,b2,b3,M,y,P,b6,b7⟩) λh h' tk U m=>?_);have F:Inv X pins σ H {s with heap:=h'.push<|DX "<lambda>" (X.env.qual ++ "<lambda>") a i scope cl ((X.mg "__name__").getD .none) d h,toks:=tk}:=I.kept λb u e=>Aw _<|U b u e;refine k h'.objs.size d ((X.mg "__name__").getD .none) h H _ (F.pins_of λp j=>?_) (λb o _ e=>e) r W;rcases As.mp j with j|j
  .exact F.pin p<|A3 _ j
  .rw[Aj.mp j];exact⟨AX _ Z,I.hok.fresh m,Cv<|Ay T m,I.nofs m,sh⟩
end
end Lam
namespace Lam
open PySem PySem.Spec PyProof.Rows L2 Add PySem.W PySem.Calls Srt
noncomputable def encK (k:Int×Str):tW:=[.int k.1,.str k.2]
noncomputable abbrev kDf:Int×Str:=(0,AN)
noncomputable def ltK (a b:Int×Str):Bool:=decide (a.1<b.1) || (decide (a.1=b.1) && decide (a.2.cps.toList<b.2.cps.toList))
def qvn (a b:Int×Str):ltK a b=HG↔a.1<b.1\/(a.1=b.1/\a.2.cps.toList<b.2.cps.toList):=by unfold ltK;simp
def ltK_no (a b:Int×Str):ltK a b=HH ↔ ¬(a.1<b.1\/(a.1=b.1/\a.2.cps.toList<b.2.cps.toList)):=by rw[<- qvn];cases ltK a b <;>simp
def ordK (ks:List (Int×Str)):Ord λi j=>ltK (ks.getD i kDf) (ks.getD j kDf):=by
 refine⟨λi j h=>?_,λi j k c a=>?_⟩
 .rw[qvn]at h;rw[ltK_no];rintro (z|⟨l,b⟩)
  .lia
  .rcases h with h|⟨c,a⟩
   .lia
   .exact List.lt_asymm a b
 .rw[ltK_no]at c a |-;have d:∀x y:Int×Str,¬(x.1<y.1\/(x.1=y.1/\x.2.cps.toList<y.2.cps.toList))->y.1<=x.1/\(x.1=y.1->y.2.cps.toList<=x.2.cps.toList):=λx y h=>⟨sZ,λe=>List.not_lt.mp λz=>h<|.inr ⟨e,z⟩⟩;obtain⟨_,g⟩:=d _ _ c;obtain⟨_,f⟩:=d _ _ a;rintro (z|⟨l,b⟩)
  .lia
  .exact List.not_lt.mpr (List.le_trans (g<|sZ)<|f<|sZ) b
def L8 (tb:V->Hp->VK->Prop)(xs:tW)(H:Hp)(Q:VK):Prop:=∀kS,H kS=HD->∃W:Nat->Hp->Prop,W 0 (upd H kS<|.lst []) /\
 (∀i x H',xs[i]?=HA x->W i H'->tb x H' λv H2=>∃ks,H2 kS=HA (.lst ks)/\ks.length<A4/\W (i+1) (upd H2 kS<|.lst<|ks++[v])) /\
 ∀H',W xs.length H'->∃(kv:tW)(ks:List (Int×Str)),H' kS=HA (.lst kv)/\Tups H' kv (ks.map encK)/\ks.length=xs.length/\∀(p:tP)(q:HC),p.Perm (An xs.length)->(p.map λi=>ks.getD i kDf).Pairwise (λa b=>ltK b a=HH)->H' q=HD->Q (.ref q) (upd (upd H' kS<|.lst []) q<|.lst<|p.map λi=>xs.getD i V.non)
section
variable {X:Cx}{A:AO}{E:tR}{pins:List (HC×Obj)}{σ:L2.St}{H:Hp}{s:Af}
theorem qvo (I:Inv X pins σ H s):∀{rs:List (Int×Str)}{us:tW}{its:tH},Vals us its->Tups H us (rs.map encK)->∃fs,KatTups s.heap its fs/\fs.length=its.length/\∀v∈fs,∃n t,v=Dg n t
 | [],us,its,rv,ht=>by cases ht;cases rv;exact⟨[],.nil,Z,λv a=>absurd a A9⟩
 |r::rs,us,its,rv,ht=>by
  cases ht with
  |cons qa ht =>
   cases rv with
   |cons ru rv =>
    obtain⟨fs,h,d,c⟩:=qvo I rv ht;obtain⟨_,g,i,_⟩:=I.tuple<|SqT.of qa;obtain⟨_,_,rfl,⟨t,rfl⟩,⟨_,rfl⟩⟩:=Vals.two g;obtain⟨o,e,b,n,f⟩:=(show s.heap.IsTuple _ _ from i);cases Ve ru;refine⟨.int r.1 t::fs,.cons e b f Z h,by rw[AA,AA,d],λv a=>?_⟩;rcases Ax.mp a with rfl|a
    .exact(HP _ _ Z)
    .exact c v a
theorem qxu {prog:AJ}{w:HQ}{A:AO}{E:tR}{h:Af}{C:Bool->Af->Prop}{a b:HC}{i l:Obj}{x y:Int×Str}{f g k j:Tok}{n m:Nat}(p:h.heap.get? a=HA i)(r:i.data=.seq #[.int x.1 f,.str x.2 g] n)(q:h.heap.get? b=HA l)(o:l.data=.seq #[.int y.1 k,.str y.2 j] m)
  (d:C (ltK x y) h):wpAny (model prog w) A (keyLt' (tuples' HG) (.ref a)<|.ref b) C E h:=by
 refine kat_lt p r q o<|kat_cons<|AY.int_int x.1 f y.1 k prog w _ _<|kat_go (λc=>?_) λc=>?_
 .have c:x.1=y.1:=eq_of_beq c;refine kat_yes<|kat_cons<|AY.str_str x.2 g y.2 j prog w _ _<|kat_go (λe=>?_) λe=>?_
  .have e:x.2=y.2:=eq_of_beq e;refine kat_yes<|kat_nil ?_;have z:ltK x y=HH:=(ltK_no x y).mpr (by
    rintro (z|⟨_,z⟩)
    .lia
    .rw[e]at z;exact List.lt_irrefl _ z)
   rwa[z]at d
  .refine kat_no<|kat_one _ _<|lt_str ?_;have z:ltK x y=decide (x.2.cps.toList<y.2.cps.toList):=by unfold ltK;rw[HM (show ¬x.1<y.1 by lia),HJ c];rfl
   rwa[z]at d
 .have c:x.1≠y.1:=λz=>by rw[z]at c;simp at c
  refine kat_no<|oneLt_int ?_;have z:ltK x y=decide (x.1<y.1):=by unfold ltK;rw[HM c];simp
  rwa[z]at d
theorem qt9 {a:HC}{n:Nat}{vs:tH}{xs:tW}{f:HE}{tb:V->Hp->VK->Prop}{Q:VK}{P:PySem.Fin->Af->Prop}(I:Inv X pins σ H s)(rv:Vals xs vs)(F:s.heap.get? a=HA (seqObj "list" vs.toArray n))(ai:H a=HD)(U:X.s₀.heap.objs.size<=a)(M:a≠X.env.locals)(av:a∉X.fs)
  (af:∀x c,X.env.cells.lookup x=HA c->c≠a)(ag:∀p∈X.pn++pins,p.1≠a)(bj:vs.length<64)
  (hk:∀(B:List (HC×Obj))(d:Af)(H':Hp)(x:V)(u:HE)(Q':VK),(∀p∈pins,p∈B)->Inv X B σ H' d->RelV x u->tb x H' Q'->wpAny (model X.prog X.w) A (call f [u]) (EP X B σ Q') (λ_ _=>False) d)
  (hq:L8 tb xs H Q)(bc:∀d,EP X pins σ Q (.ref a) d->P (.done<|.ret .none) d):wpAny (model X.prog X.w) A (ksk_tree a f HH) P E s:=by
 have L:xs.length=vs.length:=rv.length;have halt:a<s.heap.objs.size:=AC F;have s1:=CM.update s.heap a<|BE λ_=>(#[]:tO);obtain⟨q,ho1⟩:∃q,(s.heap.update a<|BE λ_=>(#[]:tO)).get? a=HA (seqObj "list" #[] q):=⟨_,get?_update_seq F λ_=>#[]⟩;unfold ksk_tree;refine A2<|listItems_at F Z ?_;refine A2 (listUpdate_at F Z ?_ (by rw[Ah,Bv];lia)<|AR _);refine A2<|seqEpoch_at ho1 Z ?_;refine A2 (wpAny_newTuple ?_ (by show vs.length<=_;rw[Bv];lia));have I1:Inv X pins σ H {s with heap:=s.heap.update a<|BE λ_=>(#[]:tO)}:=I.turned (t':=s.toks) (it:=a) (λb o hb e=>(s1.2 b hb).trans e) ai M (.inr U) af ag;have I2:Inv X pins σ H {s with heap:=(s.heap.update a<|BE λ_=>(#[]:tO)).push<|seqObj "tuple" vs.toArray 0}:=I1.kept (t':=s.toks) λb u e=>Aw _ e;have I3:Inv X (pins++[(a,seqObj "list" #[] q)]) σ H {s with heap:=(s.heap.update a<|BE λ_=>(#[]:tO)).push<|seqObj "tuple" vs.toArray 0}:=I2.pins_of λp h=>by
  rcases As.mp h with h|h
  .exact I2.pin p<|A3 _ h
  .rw[Aj.mp h];exact⟨Aw _ ho1,ai,M,av,sh⟩
 clear I1 I2;generalize hs2:({s with heap:=(s.heap.update a<|BE λ_=>(#[]:tO)).push<|seqObj "tuple" vs.toArray 0}:Af)=l at I3 |-;refine A2<|wpAny_newList ?_<|AR _;refine Dh ?_;have au:H l.heap.objs.size=HD:=I3.hok.fresh<|Al _;obtain⟨W,w0,R,done⟩:=hq l.heap.objs.size au;have I4:=I3.lnew (ys:=[]) (its:=[]) (t':=l.toks) .nil<|AR _;generalize hkS:l.heap.objs.size=kS at w0 R done I4 |-;unfold ksk_rest;refine A2<|wpAny_rule ?_;first
  |rw[List.forIn_toArray]
  | (rw[<- Array.forIn_toList];simp only[List.toList_toArray])
  |rw[<- Array.forIn_toList]
 refine A2<|ksk_fold (λi d=>∃H',Inv X (pins++[(a,seqObj "list" #[] q)]) σ H' d/\W i H') vs 0 _ ⟨_,I4,w0⟩ ?step ?done
 case step =>
  intro j u d hu w';obtain⟨H',J,Y⟩:=w';simp only[Nat.zero_add]at Y |-;have O:j<xs.length:=by rw[L];exact(Ac.mp hu).1
  obtain⟨x,hx⟩:∃x,xs[j]?=HA x:=⟨_,Ad O⟩;obtain⟨_,al,rx⟩:=rv.get hx;rw[hu]at al;cases al;refine A2<|wpAny_attempt<|Cd (hk _ d H' x u _ (λp h=>BA _ h) J rx<|R j x H' hx Y) (λv _ he=>?_) λ_ _ hF=>hF.elim;obtain⟨v',_,I5,r5,ks,h5,l5,w5⟩:=he;dsimp only;refine A2 (YD I5 h5 (ks':=ks++[v']) (by rwa[Ae]) (λits k=>?_) λK I6=>Bi ⟨Z,_,I6,w5⟩);rw[show (its.toArray.push v).toList=its++[v] by simp];exact k.append<|.cons r5 .nil
 case done =>
  intro d w';obtain⟨H',J,Y⟩:=w';rw[Nat.zero_add,<- L]at Y;obtain⟨kv,ks,hz,tz,_,ao⟩:=done H' Y;obtain⟨_,its,nn,k,e5⟩:=(show ObjOk X.prog X.w H' d.heap kS (.lst kv) from J.hok kS _ hz);refine A2<|listItems_at (o:=seqObj "list" its.toArray nn) e5 Z ?_;have y:its.length=vs.length:=by have h1:=k.length;have D:=tz.length;rw[Ab]at D;lia
  have lks:ks.length=vs.length:=by lia
  have hzs:(its.toArray.zip vs.toArray).size=vs.length:=by rw[Array.size_zip,Ah,Ah,y,Nat.min_self]
  have tail:∀(st:SortSt)(p:Array Nat),Gd vs.length p->Up (λi j=>ltK (ks.getD i kDf)<|ks.getD j kDf) p vs.length->(arrOf st).map (·.2)=(OU vs p).toArray->failedOf st=HD->wpAny (model X.prog X.w) A (ksk_tail a HH q (.ref kS) st) P E d:=by
   intro st p g up ad ax;have ar:=J.pin (a,seqObj "list" #[] q)<|A3 _<|A3 _<|Aj.mpr Z;unfold ksk_tail;dsimp only;refine A2<|YD J hz (ks':=[]) (AR _) (λ_ _=>.nil) λK I6=>?_;refine A2<|wpAny_letGo ?_;have N:=I6.pin (a,seqObj "list" #[] q)<|A3 _<|A3 _<|Aj.mpr Z;have lp:(OU vs p).length=vs.length:=by rw[Ab,Cn,g.size]
   refine A2<|seqEpoch_at N.1 Z ?_;refine A2 (listUpdate_at N.1 Z ?_ (AR _) (by rw[HF Ud,ad,Ah,lp,Bv];lia));rw[ax];simp only[bne_self_eq_false,Em,if_false];rw[ad];have am:upd H' kS (.lst []) a=HD:=N.2.1;have aq:H' a=HD:=ar.2.1;have s7:=CM.update K.heap a<|BE λ_=>(OU vs p).toArray;obtain⟨c2,aj⟩:∃c2,(K.heap.update a<|BE λ_=>(OU vs p).toArray).get? a=HA (seqObj "list" (OU vs p).toArray c2):=⟨_,get?_update_seq N.1 λ_=>(OU vs p).toArray⟩;have J6:Inv X pins σ (upd H' kS<|.lst []) K:=I6.pins_of λp h=>I6.pin p<|A3 _<|BA _ h;have I7:Inv X pins σ (upd H' kS<|.lst []) {K with heap:=K.heap.update a<|BE λ_=>(OU vs p).toArray}:=J6.turned (t':=K.toks) (it:=a) (λb o hb e=>(s7.2 b hb).trans e) am M (.inr U) af ag;have aw:∀i∈p.toList,i<vs.length:=λi S=>by have:=g.perm.mem_iff.mp<|Array.mem_toList_iff.mp S;simpa using this
   have pp:p.toList.Perm (An vs.length):=by have:=Array.perm_iff_toList_perm.mp g.perm;simpa using this
   refine Bi (bc _<|HP (.ref a) _ ⟨qpw (o:=.lst<|p.toList.map λi=>xs.getD i V.non) I7 am U M af ag ⟨by rw[Ab,Cn,g.size,Bv];lia,OU vs p,c2,qps rv _ aw,aj⟩,Z,ao p.toList a (by rwa[L]) ?_ aq⟩);rw[Ck,Ba];intro i j S O bu;have bq:i<p.size:=by simpa using S
   have ah:j<p.size:=by simpa using O
   have z:=up i j sZ (by rwa[<- g.size]);have ei:IX p i=p.toList[i]:=by simp[IX,bq]
   have ej:IX p j=p.toList[j]:=by simp[IX,ah]
   rwa[ei,ej]at z
  have ae:∀i,i<its.length->∃(b:HC)(o:Obj)(t t':Tok)(n:Nat),its.getD i CS=.ref b/\d.heap.get? b=HA o/\o.cls=.type "tuple" /\ o.data=.seq #[.int (ks.getD i kDf).1 t,.str (ks.getD i kDf).2 t'] n:=by
   intro i S;have ak:i<ks.length:=by lia
   obtain⟨b,eb,qb⟩:=tz.get (i:=i) (r:=encK ks[i]) (by simp[ak]);obtain⟨v,hv,ay⟩:=k.get eb;have q:ks.getD i kDf=ks[i]:=by simp[ak]
   obtain⟨_,c1,p1,_⟩:=J.tuple<|SqT.of qb;obtain⟨_,_,rfl,⟨t,rfl⟩,⟨t',rfl⟩⟩:=Vals.two c1;obtain⟨o,F,hc,n,hd⟩:=(show d.heap.IsTuple b _ from p1);exact(J0 b o t t' n ⟨by rw[<- Ve ay,Ak,hv];rfl,F,hc,by rwa[q]⟩)
  unfold ksk_end;dsimp only;rw[HF (by decide:¬(HH=HG))];by_cases D:vs.toArray.size<2
  .rw[HI D,HI D];refine A2<|Bi ?_;rw[StateT.run_pure];refine A2<|Bi ?_;dsimp only;rw[Ah]at D;refine tail (SortSt.mk' general' (its.toArray.zip vs.toArray) #[] 7 HD) (An vs.length).toArray ⟨.refl _⟩ (λi j bu O=>?_) ?_ rfl
   .have:i=j:=by lia
    subst this;exact(ordK ks).irr _
   .rw[qxi];show (its.toArray.zip vs.toArray).map (·.2)=_;apply Array.toList_inj.mp;simp[List.map_snd_zip,y]
  .rw[HF D,HF D];rw[Ah]at D;refine A2 (m:=keyKind' its.toArray) ?_;obtain⟨fs,f1,_,f3⟩:=qvo J k tz;refine kat_kind (T:=.type "int") f1 sZ (λv hv=>?_) (beq_self_eq_true _) ?_
   .obtain⟨n,t,rfl⟩:=f3 v hv;exact .now
   refine A2 (Cd (kat_run (ks:=its) (vs:=vs) (κ:=tuples' HG) (E:=E) (Q:=λst' l=>l=d/\∃p:Array Nat,Gd vs.length p/\Up (λi j=>ltK (ks.getD i kDf)<|ks.getD j kDf) p vs.length/\arrOf st'=p.map (kas_item<|its.toArray.zip vs.toArray)/\failedOf st'=HD)
    (G:=λp l=>l=d/\Gd vs.length p/\Up (λi j=>ltK (ks.getD i kDf)<|ks.getD j kDf) p vs.length)
    y sZ bj (λp st' l _ a2 a3 a4=>⟨a4.1,p,a4.2.1,a4.2.2,a2,a3⟩) (Sat.wp (λi j C S O hC=>?_) (PJ (ordK ks)<|sZ) λp h=>⟨Z,h⟩)) ?_ λ_ _ e=>e)
   .obtain⟨b,o,t,t',n,e,F,hc,hd⟩:=ae i sZ;obtain⟨_,_,_,_,_,e2,bt,aj,bh⟩:=ae j sZ;unfold kas_ask;rw[e,e2];exact qxu F hd bt bh hC
   .rintro⟨⟨⟩,st'⟩ l ⟨rfl,p,g,u,bf,hf⟩;dsimp only;exact tail st' p g u (kat_snds y bf) hf
end
end Lam
namespace Lam
open PySem PySem.Spec PyProof.Rows L2 Add PySem.W PySem.Calls Srt
def _root_.L2.SqL.keepP {K:Frag}{H H':Hp}{l c:HC}{xs:tW}{ps:tO}(h:SqL K H l xs)(a:H c=HA (.tbl ps))(k:∀b o,b≠c->H b=HA o->H' b=HA o):SqL K H' l xs:=by
 rcases h with (h|⟨o,h⟩)|h
 .exact .inl (.inl<|k _ _ (λz=>by rw[z,a]at h;cases h) h)
 .exact .inl (.inr ⟨o,k _ _ (λz=>by rw[z,a]at h;cases h) h⟩)
 .exact .inr h
section
variable {X:Cx}
def hG (K:Frag)(t:TA)(js:sr)(tb:TE)(Pt:HC)(lpos:Pos)(qual:Str):TE:=λσ H Q=>t σ H λvs H1=>∃(l:HC)(xs:tW),vs=[.ref l]/\SqL K H1 l xs/\xs.length<64/\LamAt H1 Pt lpos qual /\
 ∀(H2:Hp)(c':HC),(∀b o,b≠Pt->H1 b=HA o->H2 b=HA o)->H2 Pt=HA (.tbl #[rawInt lpos.line,rawInt lpos.col,.ref c'])->H2 c'=HA (RU c' qual)->L8 (λx H' Q'=>H' c'=HA (RU c' qual)/\tb (OT js σ x) H' Q') xs H2 Q
theorem pe_sortLamT {N XN:tG}{js:sr}{xs scope:IS}{y:Str}{e g:HS}{t:TA}{tb:TE}{d:Arguments}{c Pt:HC}{p pos C V:Pos}(ae:X.calm=HG)(hr:Room 2 X.A)(ao:Gl X "sorted")(ak:X.mg "sorted"=HD)(ha:PA X [e] t)
  (L:LamF X.mg X.base c Pt)(aj:X.env.code=.ref c)(hN:X.N=XN)(Y:X.env.scope=xs)(hok:Ww N js XN xs scope=HG)(h0:N[0]?=HA y)(j0:js[0]?=HA HD)(hy:scope.names.lookup y=HA .local)(ah:scope.isCoroutine=HH)(T:scope.isGenerator=HH)
  (U:defaultsOf d X.env=([],[]))(G:∀n B i l u,bindArgs (kla_fn "<lambda>" (X.env.qual ++ "<lambda>") d g scope n B (.ref i) l) ⟨[u],[]⟩=pure [(y,u)])
  (hb:∀(f i:HC)(n:List (Str×HC))(s:Af)(H:Hp)(E:tR),PE (Yu X X.A.in1.in1 N (X.env.qual ++ "<lambda>") scope f (.ref i) n s H E) g tb)
  (he:autoParam (backTo pos (starEach [e] X.env)=(HH,eval e X.env)::backTo pos (starEach [] X.env)) uG)(hpl:autoParam ((backTo pos<|starEach [e] X.env).any (·.1)=HH) uG) :
  PE X (.Call (.Name "sorted" p) [e] [⟨HA "key",.Lambda d g scope C,V⟩] pos) (hG X.K t js tb Pt C<|X.env.qual ++ "<lambda>"):=by
 intro k s σ H Q I h;have nm:=qF hok;refine Cr<|Rh I ao ak Add.boot_sorted ?_;refine PyProof.Rows.callWith_kw (Hy (ha pos k s σ H _ I h) λ_ s1 w19a'=>?_) he hpl;obtain⟨_,_,I1,r1,q1⟩:=w19a';obtain⟨r,R,rfl,am,_,hP,q⟩:=q1;cases r1 with
 |cons ra rb =>
  cases rb;cases ra;obtain⟨n,hcl,c1,c2⟩:=qM (env:=X.env) (scope:=scope) λx hx e=>I.ok.has x.1 (by
   rcases nm.clos x hx e with q|q
   .exact .inl (by show X.env.scope.names.lookup _=_;rwa[Y])
   .exact .inr (by show X.env.scope.names.lookup _=_;rwa[Y]))
  show wpAny _ _ (evalAll<|(do let v <- eval (.Lambda d g scope C) X.env;standAt pos;pure v)::[]) _ _ s1;refine wpAny_evalAll_cons<|A2<|qxt I1 L aj hP U hcl λf i B l F j I2 kp ag af=>A2<|wpAny_standAt<|Bi ?_;refine wpAny_evalAll_nil ?_;have q:=q F i kp ag af;have al:∀p∈k,p∈k++[(f,DX "<lambda>" (X.env.qual ++ "<lambda>") d g scope n B i l)]:=λp D=>BA _ D;obtain⟨_,ad⟩:=hP.tbl;have W:SqL X.K F r R:=am.keepP ad kp;obtain⟨its,rv,pl,_⟩:=I2.list W;have ai:its.length=R.length:=rv.length.symm;have hd:=I.ok.hd ae;refine call_function_entry_kw (kw:=[(Aa "key",.ref f)]) kind_sorted plain_sorted entry_sorted (ksk_s1 _ _) ?_;unfold BJ.«sorted»;refine A2 (m:=checkCount "sorted" 1 1 _)<|Bi ?_;refine A2 (collect_list pl.isList ?_ (by rw[Bv];lia));have keep:∀b o,j.heap.get? b=HA o->((j.heap.push<|seqObj "list" #[] 0).update j.heap.objs.size<|BE (· ++ its.toArray)).get? b=HA o:=λb o q=>by have O:b<j.heap.objs.size:=AC q;rwa[Heap.get?_update_ne _ _ _ _<|AD O,Heap.get?_push_ne _ _ _<|AD O]
  have z:Inv X (k++[(f,DX "<lambda>" (X.env.qual ++ "<lambda>") d g scope n B i l)]) σ F {j with heap:=(j.heap.push<|seqObj "list" #[] 0).update j.heap.objs.size<|BE (· ++ its.toArray)}:=I2.kept (t':=j.toks) keep;generalize hs3:({j with heap:=(j.heap.push<|seqObj "list" #[] 0).update j.heap.objs.size<|BE (· ++ its.toArray)}:Af)=s3 at z |-;refine A2 (wpAny_newList ?_ (by rw[ai,Bv];lia));have I4:Inv X (k++[(f,DX "<lambda>" (X.env.qual ++ "<lambda>") d g scope n B i l)]) σ F {s3 with heap:=s3.heap.push<|seqObj "list" its.toArray 0}:=z.kept (t':=s3.toks) λb u e=>Aw _ e;have M:(s3.heap.push<|seqObj "list" its.toArray 0).get? s3.heap.objs.size=HA (seqObj "list" its.toArray 0):=AX _ rfl;have hL:=z.lt;refine A2<|Dh<|wpAny_call_entry_kw slot_list_sort ⟨_,M,Z⟩ entry_list_sort ?g<|ksk_l1 _ _
  case g =>
   rw[ksk_t1];refine qt9 (tb:=λx H' Q'=>H' i=HA (RU i<|X.env.qual ++ "<lambda>")/\tb (OT js σ x) H' Q') (Q:=Q) (s:={s3 with heap:=s3.heap.push<|seqObj "list" its.toArray 0}) I4 rv M (z.hok.fresh<|Al _) z.sz (Cv hL) (z.nofs<|Al _) (λx c e=>?_) (λp D=>AD<|AC (z.pin p D).1) sZ (λ_ s' H' x u Q' D S rx P=>?_) q λs' hE=>⟨_,Z,?_⟩
   .obtain⟨v,qc⟩:=z.cell x c e;exact AD qc.lt
   .have mf:=D _<|A3 _<|Am (a:=(f,DX "<lambda>" (X.env.qual ++ "<lambda>") d g scope n B i l));refine NQ (A:=X.A.in1.in1) hN Y nm c1 c2 I.ok.frames hd (hr.in1.in1).depth h0 j0 hy ah T (G n B i l) (hb f i n) S (S.pin _<|A3 _ mf).1 ?_ rx P.2;exact(show ObjOk X.prog X.w H' s'.heap i (RU i<|X.env.qual ++ "<lambda>") from S.hok i _ P.1).1
   .obtain⟨v,H',J,rr,qq⟩:=hE;exact Bi ⟨_,Z,v,H',J.pins_of λp D=>J.pin p<|A3 _<|al p D,rr,qq⟩
end
end Lam
namespace Add
open PySem PySem.Spec PyProof.Rows L2
def QO (k:Option IC)(v:HE):Bool:=match k with
 |some k=>RY k v
 |none=>(match v with | .none=>HG|_=>HH)
theorem Pp {k:Option IC}{v:HE}(h:QO k v=HG):(k=HD/\v=.none) \/ ∃q,k=HA q/\RY q v=HG:=by
 cases k with
 |none=>cases v <;>first|exact .inl ⟨rfl,rfl⟩|cases h
 |some q=>exact .inr ⟨q,Z,h⟩
def qxv {prog:AJ}{w:HQ}{A:AO}{E:tR}{s:Af}{Q:Int->Af->Prop}(h:Q 0xFCA86420 {s with toks:=s.toks+1}):wpAny (model prog w) A (PySem.pyHash .none) Q E s:=by
 show wpAny _ _ (pyHashByItsType .none) _ _ _;refine PySem.W.pyHash_slot (T := "NoneType") rfl PySem.F.slot_NoneType_hash PySem.F.entry_NoneType_hash (PySem.F.args_NoneType_hash_1 _) (beq_builtin_none _) (.inl Z) ?_;obtain⟨_,g,d,_,_⟩:=s
 wp_walk
 exact HP _ _ ⟨Z,h⟩
def j2 (prog:AJ)(w:HQ):PySem.KeyKind prog w (Option IC) where
 is:=QO
 hash:=λk=>match k with|some k=>YE w k|none=>0xFCA86420
 inj:=λv a b ha hb=>by
  rcases Pp ha with ⟨rfl,rfl⟩|⟨q,rfl,h1⟩
  .rcases Pp hb with ⟨rfl,_⟩|⟨q2,rfl,h2⟩
   .rfl
   .rcases LK h2 with ⟨i,t,_,e⟩|⟨x,t,_,e⟩ <;>exact nomatch e
  .rcases Pp hb with ⟨rfl,rfl⟩|⟨q2,rfl,h2⟩
   .rcases LK h1 with ⟨i,t,_,e⟩|⟨x,t,_,e⟩ <;>exact nomatch e
   .rw[(Jl prog w).inj v q q2 h1 h2]
 byValue:=λk v h=>by
  rcases Pp h with ⟨_,rfl⟩|⟨q,_,h⟩
  .rfl
  .exact(Jl prog w).byValue q v h
 pyHash:=λhv h=>by
  rcases Pp hv with ⟨rfl,rfl⟩|⟨q,rfl,h1⟩
  .exact qxv h
  .exact(Jl prog w).pyHash h1 h
 eqBool:=λ{A E s a b u v Q} hu hv h=>by
  rcases Pp hu with ⟨rfl,rfl⟩|⟨q,rfl,h1⟩
  .rcases Pp hv with ⟨rfl,rfl⟩|⟨q2,rfl,h2⟩
   .exact AY.same _ _ _ _ _ h
   .rcases LK h2 with ⟨i,t,rfl,rfl⟩|⟨x,t,rfl,rfl⟩
    .exact AY.none_int i t _ _ _ _ h
    .exact AY.none_str x t _ _ _ _ h
  .rcases Pp hv with ⟨rfl,rfl⟩|⟨q2,rfl,h2⟩
   .rcases LK h1 with ⟨i,t,rfl,rfl⟩|⟨x,t,rfl,rfl⟩
    .exact AY.int_none i t _ _ _ _ h
    .exact AY.str_none x t _ _ _ _ h
   .refine(Jl prog w).eqBool h1 h2 ?_;rw[show decide (HA q=HA q2)=decide (q=q2) by by_cases e:q=q2 <;>simp[e]]at h;exact h
 «strs» := λk x t v h=>by
  rcases Pp h with ⟨_,e⟩|⟨q,rfl,h1⟩
  .exact nomatch e
  .exact(Jl prog w).strs q x t v h1
theorem qvp {prog:AJ}{w:HQ}{h:HX}{a:HC}{f:IC->tK}(m:h.MapOf (Jl prog w) a f):h.MapOf (j2 prog w) a (λk=>k.bind f):=by
 obtain⟨o,es,ep,q,l,n,d,p⟩:=m;refine HW o es ep ⟨q,l,n,λe c=>?_,λk=>?_⟩
 .obtain⟨k,b,j⟩:=d e c;exact⟨HA k,b,j⟩
 .cases k with
  |some k=>exact p k
  |none =>
   show findBy QO es HD=HD;unfold findBy;have:es.find? (λe=>QO HD e.key)=HD:=by rw[Array.find?_eq_none];intro e c z;obtain⟨k,b,_⟩:=d e c;rcases LK b with ⟨i,t,_,g⟩|⟨x,t,_,g⟩ <;>(rw[g]at z;cases z)
   first
    | (rw[this];rfl)
    |simp[this]
def Ws (H:Hp)(a:HC)(y:V)(o:tX):Prop:=(y=.non/\o=HD/\∃kvs,Rd H a<|.dK kvs)\/DGet H a y o
section
variable {X:Cx}{pins:List (HC×Obj)}{σ:L2.St}{H:Hp}{s:Af}{a:HC}{y d:V}{u r:HE}{o:tX}{A:AO}{E:tR}
theorem YW {Q:tR}(f:A.units+1<cLine)(I:Inv X pins σ H s)(g:Ws H a y o)(b:L2.RelV y u)(h:∀s',Inv X pins σ H s'->Q (.bool o.isSome) s') :
  wpAny (model X.prog X.w) A (compareOp .In u<|.ref a) Q E s:=by
 rcases g with ⟨rfl,rfl,kvs,e⟩|g
 .cases (show u=CS from b);obtain⟨z,c,_,_,d⟩:=Lk I.hok e;exact wpAny_in_of (knd:=j2 X.prog X.w) (k:=HD) rfl c (qvp d.mapOf) (h _<|I.tok _)
 .exact rY f I g b h
theorem Qt {Q:tR}(f:A.units+1<cLine)(I:Inv X pins σ H s)(g:Ws H a y o)(b:L2.RelV y u)(h:∀w' s',Inv X pins σ H s'->L2.RelV (o.getD .non) w'->Q w' s') :
  wpAny (model X.prog X.w) A (call (.builtin "dict.get") [.ref a,u]) Q E s:=by
 rcases g with ⟨rfl,rfl,kvs,e⟩|g
 .cases (show u=CS from b);obtain⟨z,d,_,_,c⟩:=Lk I.hok e;exact Ek BX c.typeIs C7 (DC _ _) (meets_dict_get (j2 X.prog X.w) (k:=HD) a Z d) ⟨_,qvp c.mapOf,h _ _ (I.tok _) Z⟩
 .exact U1 f I g b h
end
def WK (ty td:TE):TE:=λσ H Q=>ty σ H λy H1=>td σ H1 λx H2=>∃a o,x=.ref a/\Ws H2 a y o/\Q (.bl o.isSome) H2
def Oy (td ty:TE):TE:=λσ H Q=>td σ H λx H1=>∃a,x=.ref a/\sP H1 a/\ty σ H1 λy H2=>∃o,Ws H2 a y o/\Q (o.getD .non) H2
section
variable {X:Cx}{o i e:HS}{apos cpos:Pos}{td ty:TE}
def Py (j:X.A.units+1<cLine)(r:PE X i ty)(l:PE X o td):L2.PC X .In i o (WK ty td):=by intro b s σ H Q I h;refine Hy (r b s σ H _ I h) λ_ d w18a'=>?_;obtain⟨y,t,p,f,k⟩:=w18a';refine Hy (l b d σ t _ p k) λu _ w17a'=>?_;obtain⟨x,e,m,c,a,ov,ex,g,q⟩:=w17a';subst ex;obtain rfl:u=Bk a:=c;exact YW j m g f λ_ n=>(HP (.bl ov.isSome) e ⟨n,Z,q⟩)
def qxw (q:X.A.units+1<cLine)(t:PE X o td)(v:PE X e ty)(m:M1 X o "get" apos e cpos):PE X (.Call (.Attribute o "get" apos) [e] [] cpos) (Oy td ty):=by intro b s σ H Q I h;refine wpAny_Call_method m.base m.few m.line PySem.F.plainAttrs_dict BX PySem.F.type_dict_get<|Hy (t b s σ H _ I h) λu j w16a'=>?_;obtain⟨x,C,f,i,a,ex,d,r⟩:=w16a';subst ex;obtain rfl:u=Bk a:=i;obtain⟨k,n,_⟩:=Na f d;refine⟨k,n,?_⟩;rw[m.trees];refine Dc rfl (DZ<|Db<|Hy (v b j σ C _ f r) λ_ _ w15a'=>?_);obtain⟨y,l,w,p,_,g,B⟩:=w15a';refine DI ?_;exact Qt q w g p λ_ _ z c=>(HP _ l ⟨z,c,B⟩)
end
end Add
namespace Add
open PySem PySem.Spec PyProof.Rows L2
section
variable {X:Cx}{pins:List (HC×Obj)}{σ:L2.St}{H:Hp}{s:Af}
def WG (te:TE)(g:TG)(tb:TS):TS:=λD σ H=>te σ H λx H1=>∃(d:HC)(kvs:List (IC×V)),x=.ref d/\H1 d=HA (.dK kvs)/\∀o:Obj,∃Pv:Nat->L2.St->Hp->Prop,Pv 0 σ (upd H1 d<|.frz o<|.dK kvs)/\(∀i σ H,Pv i σ H->H d=HA (.frz o<|.dK kvs)) /\
 (∀(i:Nat)(kv:IC×V)(σ:L2.St)(H:Hp),kvs[i]?=HA kv->Pv i σ H->g (kV kv.1) σ H λσ2 H2=>tb {nx:=Pv<|i+1,rt:=λ_ _=>False,ct:=Pv<|i+1} σ2 H2)/\∀σ H,Pv kvs.length σ H->D.nx σ (upd H d<|.dK kvs)
theorem UW {kvs:List (IC×V)}{vs:List (IC×HE)}(h:KV kvs vs){i:Nat}{a:IC×V}(e:kvs[i]?=HA a):∃k u,vs[i]?=HA (k,u)/\k=a.1:=by
 induction h generalizing i with
 |nil=>cases e
 |cons r _ ih =>
  cases i with|zero=>cases e;exact(HP _ _ ⟨Z,r.1.symm⟩)|succ i=>exact ih e
def Ub {P:AJ}{w:HQ}{k:IC}{u:HE}(h:(Jl P w).is k u=HG):RelV (kV k) u:=by
 rcases LK h with ⟨i,t,rfl,rfl⟩|⟨x,t,rfl,rfl⟩
 .exact⟨t,Z⟩
 .exact⟨t,Z⟩
theorem aE {tg e:HS}{K:List HN}{te:TE}{g:TG}{tb:TS}{pos:Pos}(J:AI (model X.prog X.w) X.A X.env X.xe)(ae:X.calm=HG)(he:PE X e te)(hg:PG X tg g)(p:PSs X K tb)
  (hs:autoParam (∀x,foldedSetIterable e X.env x=pure x) uM):PS X (.For tg e K [] pos) (WG te g tb):=by
 intro j s σ H D I h;refine wpAny_For (Hy (he j s σ H _ I h) λv M w14a'=>?_) hs;obtain⟨x,U,F,V,q1⟩:=w14a';obtain⟨d,kvs,rfl,hd,q⟩:=q1;cases V;obtain⟨z,lo,vs,kv,hD⟩:=N1 F.hok hd;obtain⟨ep,R⟩:=hD.dictAt;obtain⟨o,es,ho,hx,ah,V,r2,r3⟩:=id R;refine wpAny_pyIter_dict (knd:=Jl X.prog X.w) (kvs:=vs) (ep:=ep) lo R ?_;obtain⟨Y,p0,pd,step,ai⟩:=q o;have lk:kvs.length=vs.length:=kv.length;have h0:∀u v,X.H₀ d≠HA (.frz u v):=λu v e=>by have:=F.base.frzs d u v e;rw[hd]at this;cases this
 have hh:X.A.handled=HD:=I.ok.hd ae;generalize C:M.heap.objs.size=it;have I3:Inv X j σ U {M with heap:=M.heap.push {cls:=.type "dict_keyiterator",data:=.fields #[.ref d,.int 0 0,.int vs.length 0,.int ep 0]} }:=F.kept (t':=M.toks) λb o q=>Aw _ q;have I4:=QR I3 hd<|Aw _ ho;have T:upd U d (.frz o<|.dK kvs) it=HD:=by
  rw[qr<|λe=>?_,<- C]
  .exact F.hok.fresh<|Al _
  .have:=F.hok.fresh (a:=it)<|BN C;rw[e,hd]at this;cases this
 have fp:∀{H':Hp},H' it=HD->La X j H' it:=λn=>⟨n,(F.fpOk (H':=upd U d<|.frz o<|.dK kvs) (BN C) T).2⟩;refine codeAny_forLoop_any (λn s'=>∃i σ' H',n=vs.length-i/\i<=vs.length/\Inv X j σ' H' s'/\s'.heap.IsKeyIter it d i vs.length ep/\H' it=HD/\Y i σ' H') ?_ vs.length (HW 0 σ _ ⟨Z,AR _,I4,⟨_,by rw[<- C];exact AX _ Z,Z,Z⟩,T,p0⟩);intro n B w';obtain⟨i,σ5,y,rfl,_,I5,S,n5,p5⟩:=w';have P:=pd i σ5 y p5;have af:B.heap.get? d=HA o:=(show ObjOk X.prog X.w y B.heap d (.frz o<|.dK kvs) from I5.hok d _ P).1;have G:B.heap.DictAt (Jl X.prog X.w) d vs ep:=HP o es ⟨af,hx,ah,V,r2,r3⟩;obtain⟨f0,f1,_,f3,f4,f5⟩:=fp n5;by_cases c:i<vs.length
 .have hk:kvs[i]?=HA (kvs[i]'sZ):=Ad sZ;obtain⟨k,u,e1,ek⟩:=UW kv hk;refine BH J<|wpAny_pyNext_dict_item S G e1 λu h' ag Q sb=>?_;have I6:Inv X j σ5 y {B with heap:=h'}:=I5.turned (t':=B.toks) (λb o p e=>(sb.2 b p).trans e) f0 f1 f3 f4 f5;refine BH J<|letGo_keyiter Q ?_;obtain⟨W,O,ad,N⟩:=id Q;have aj:=I6.pinned (fp:=[it]) (λb p=>by rw[Aj.mp p];exact fp n5) (λb p=>by rw[Aj.mp p];exact⟨W,O,λv e=>by rw[N]at e;cases e⟩);refine BH J<|Hy (hg _ _ σ5 y _ u _ aj (ek ▸ Ub ag)<|step i _ σ5 y hk p5) λ_ s6 w13a'=>?_;obtain⟨σ6,H6,t,q6⟩:=w13a';refine BH J<|Hy (p _ s6 σ6 H6 _ t q6) λf s7 L=>?_;have E:∀{σ7:L2.St}{r:Hp},Inv X (j++Vc [it] h') σ7 r s7->Y (i+1) σ7 r->∃m,m<vs.length-i/\∃i σ' H',m=vs.length-i/\i<=vs.length/\Inv X j σ' H' s7/\s7.heap.IsKeyIter it d i vs.length ep/\H' it=HD/\Y i σ' H':=λ{σ7 r} I8 l=>by have pn:=I8.pin (it,W)<|A3 _<|A3 _<|Xq (Aj.mpr Z) O;exact⟨vs.length-(i+1),sZ,i+1,σ7,r,Z,sZ,I8.unpinned,⟨W,pn.1,ad,N⟩,pn.2.1,l⟩
  cases f with
  |next=>obtain⟨σ7,r,t,l⟩:=L;exact E t l
  |cont=>obtain⟨σ7,r,t,l⟩:=L;exact E t l
  |brk=>obtain⟨σ7,r,t,l⟩:=L;exact l.elim
  |ret v=>obtain⟨_,σ7,r,t,_,l⟩:=L;exact l.elim
 .have ei:i=vs.length:=by lia
  refine BH J (wpAny_pyNext_dict_end hh S G (AH<|sZ) λh' eb=>?_);have I6:Inv X j σ5 y {B with heap:=h'}:=I5.turned (t':=B.toks) (λb o p e=>eb b o p e) f0 f1 f3 f4 f5;exact D4 (HP σ5 _ ⟨Nb I6 P h0,ai σ5 y (by rwa[lk,<- ei])⟩)
end
def SF:Nat->Hp->V->V->Prop
 |0,_,v,u=>v=u/\Jj v=HG
 |n+1,H,v,u=>(v=u/\Jj v=HG) \/ ∃(p q:HC)(xs ys:tW),v=.ref p/\u=.ref q/\((H p=HA (.lst xs)/\H q=HA (.lst ys))\/(H p=HA (.tup xs)/\H q=HA (.tup ys)))/\xs.length=ys.length/\∀(i:Nat)(x y:V),xs[i]?=HA x->ys[i]?=HA y->SF n H x y
section
variable {X:Cx}{pins:List (HC×Obj)}{σ:L2.St}{H:Hp}{s:Af}
theorem qsa (I:Inv X pins σ H s){n:Nat}{A:AO}{xs ys:tW}{us a:tH}(c:Vals xs us)(l:Vals ys a)(r:∀(i:Nat) (x y:V),xs[i]?=HA x->ys[i]?=HA y->∀u w,RelV x u->RelV y w->AY A s u w HG) :
  ∀j (k:j<us.toArray.size) (d:j<a.toArray.size),AY A s us.toArray[j] a.toArray[j] HG:=by
 intro j k d;have q:=c.length;have t:=l.length;have f:j<xs.length:=by rw[q];simpa using k
 have g:j<ys.length:=by rw[t];simpa using d
 obtain⟨u,b,m⟩:=c.get (i:=j) (x:=xs[j]) (by simp[f]);obtain⟨w,h,e⟩:=l.get (i:=j) (x:=ys[j]) (by simp[g]);have p:us.toArray[j]=u:=by
  have:us[j]?=HA us[j]:=by simp
  rw[this]at b;simpa using A8 b
 have o:a.toArray[j]=w:=by
  have:a[j]?=HA a[j]:=by simp
  rw[this]at h;simpa using A8 h
 rw[p,o];exact r j _ _ (by simp[f]) (by simp[g]) _ _ m e
theorem j1 (I:Inv X pins σ H s):∀{n:Nat}{A:AO}{x y:V}{u w:HE},A.units+n<cLine->SF n H x y->RelV x u->RelV y w->AY A s u w HG
 |0,A,x,y,u,w,_,h,g,a=>by obtain⟨rfl,f⟩:=h;have:=ZA (A:=A) (s:=s) g a f f;rwa[oU f]at this
 |n+1,A,x,y,u,w,hu,h,g,a=>by
  rcases h with ⟨rfl,f⟩|⟨p,q,xs,ys,rfl,rfl,h,B,F⟩
  .have:=ZA (A:=A) (s:=s) g a f f;rwa[oU f]at this
  .cases g;cases a;have un:A.in1.units=A.units+1:=rfl;have r:=λ(us E:tH)(c:Vals xs us)(d:Vals ys E)=>qsa (n:=n) (A:=A.in1) I c d λi x y D C u w g a=>j1 I (n:=n) sZ (F i x y D C) g a;by_cases j:p=q
   .subst j;exact AY.same _
   .refine AY.of_refs j ?_;rcases h with ⟨m,l⟩|⟨m,l⟩
    .obtain⟨its,c,o,_⟩:=I.list<|SqL.of m;obtain⟨b,d,k,_⟩:=I.list<|SqL.of l;have t:=c.length;have v:=d.length;have z:=SeqAt.RcAt.lists (A:=A) (e:=λ_=>HG) o.isList k.isList (by rw[Ah,Ah];lia) sZ<|r its b c d;rwa[Vm]at z
    .obtain⟨its,c,o,_⟩:=I.tuple<|SqT.of m;obtain⟨b,d,k,_⟩:=I.tuple<|SqT.of l;have t:=c.length;have v:=d.length;have z:=SeqAt.RcAt.tuples (A:=A) (e:=λ_=>HG) (show s.heap.IsTuple p its.toArray from o) (show s.heap.IsTuple q b.toArray from k) sZ<|r its b c d;rwa[Vm,Ah,Ah,<- t,<- v,B,beq_self_eq_true,Bool.and_true]at z
def DkD (n:Nat)(H:Hp)(v u:V):Prop:=∃(d e:HC)(kvs kws:List (IC×V)),v=.ref d/\u=.ref e/\Rd H d (.dK kvs)/\Rd H e (.dK kws)/\kvs.length=kws.length/\∀k x,(k,x)∈kvs->∃y,Ih kws k=HA y/\SF n H x y
theorem N0 (I:Inv X pins σ H s){n:Nat}{A:AO}(j:A.units+n<cLine){c:List (IC×V)}{d:List (IC×HE)}(t:KV c d):∀{kvs:List (IC×V)}{vs:List (IC×HE)},KV kvs vs->(∀k x,(k,x)∈kvs->∃y,Ih c k=HA y/\SF n H x y)->PySem.W.KeqHits A s d vs HG:=by
 intro kvs vs r
 induction r with
 |nil=>intro _;exact .nil
 | @cons a b as bs h _ ih =>intro f;obtain⟨q,i⟩:=h;obtain⟨y,p,l⟩:=f a.1 a.2 Am;obtain⟨w,g,e⟩:=RelO.some_of (v:=y) (o:=valueAt d a.1) (by rw[<- p];exact t.val a.1);rw[q]at g;have z:=PySem.W.KeqHits.hit (A:=A) (s:=s) (v:=b.2) g (j1 I j l i e)<|ih λk x m=>f k x<|A1 _ m;exact z
end
section
variable {X:Cx}
def Wj:R2:=λx y H Q=>∃n,n<=20/\((SF n H x y)\/DkD n H x y)/\Q (.bl HH) H
theorem qvq (hu:X.A.units+64<cLine):JH X (compareOp .NotEq) Wj:=by
 intro c s σ H x y v u Q I t z h;obtain⟨n,_,h,q⟩:=h;have un:X.A.in1.units=X.A.units+1:=rfl;have l:∀{s'},s'=s->EP X c σ Q (.bool HH) s':=λe=>by rw[e];exact HP (.bl HH) H ⟨I,Z,q⟩
 rcases h with h|⟨d,e,kvs,kws,rfl,rfl,m,k,C,D⟩
 .have j:x=y/\Jj x=HG->wpAny (model X.prog X.w) X.A (compareOp .NotEq v u) (EP X c σ Q) X.xe s:=by
   rintro ⟨e,f⟩
   subst e
   refine OV c s σ H x x v u Q I t z ⟨?_,by simpa using q⟩
   cases x <;>first|rfl|cases f
  cases n with
  |zero=>exact j h
  |succ n =>
   rcases h with h|⟨p,R,xs,ys,rfl,rfl,h,C,D⟩
   .exact j h
   .cases t;cases z;have F:=λ(us K:tH)(b:Vals xs us)(g:Vals ys K)=>qsa (n:=n) (A:=X.A.in1) I b g λi x y T S u w P J=>j1 I (n:=n) sZ (D i x y T S) P J;rcases h with ⟨m,k⟩|⟨m,k⟩
    .obtain⟨its,b,E,_⟩:=I.list<|SqL.of m;obtain⟨a,g,B,_⟩:=I.list<|SqL.of k;have L:=b.length;have M:=g.length;refine SeqAt.RcNeAt.lists (e:=λ_=>HG) E.isList B.isList (by rw[Ah,Ah];lia) sZ (F its a b g) _ _ _ _ ?_;rw[Vm];exact l rfl
    .obtain⟨its,b,E,_⟩:=I.tuple<|SqT.of m;obtain⟨a,g,B,_⟩:=I.tuple<|SqT.of k;have L:=b.length;have M:=g.length;refine SeqAt.RcNeAt.tuples (e:=λ_=>HG) (show s.heap.IsTuple p its.toArray from E) (show s.heap.IsTuple R a.toArray from B) sZ (F its a b g) _ _ _ _ ?_;rw[Vm,Ah,Ah,<- L,<- M,C,beq_self_eq_true,Bool.and_true];exact l rfl
 .cases t;cases z;obtain⟨_,G,_,o,U⟩:=Lk I.hok m;obtain⟨_,N,K,r,O⟩:=Lk I.hok k;refine PySem.W.keq_ne G N U O sZ (λ_=>N0 I (A:=X.A.in1) sZ r o D) ?_;rw[<- o.length,<- r.length,C,beq_self_eq_true];exact l rfl
end
def tRv (K:Ag)(te:TE)(th:TO):TE:=λσ H Q=>te σ H λx H1=>th σ H1 λu H2=>u=HA (-1)/\∃a xs,x=.ref a/\SqL K H2 a xs/\∀p,H2 p=HD->Q (.ref p) (upd H2 p<|.lst xs.reverse)
def UA {X:Cx}{e st:HS}{l:TE}{j:TO}{f pos:Pos}(B:PE X e l)(t:PO X (HA st) j)(i:∀a b:HC,subscripted (.Slice HD HD (HA st) f) HH (.ref a) (.ref b)=operate [.ref a,.ref b] (getItem (.ref a)<|.ref b):=by intro _ _;with_unfolding_all rfl):PE X (.Subscript e (.Slice HD HD (HA st) f) pos) (tRv X.K l j):=by
 intro c s σ H Q I h;refine Subscript_<|Hy (B c s σ H _ I h) λv m w12a'=>?_;obtain⟨x,G,E,J,y⟩:=w12a';refine wpAny_Slice ?_;rw[evalPart_none];refine Bi ?_;try rw[evalPart_none]
 refine Bi ?_;refine Hy (t c m σ G _ E y) λvs d w11a'=>?_;obtain⟨u,L,C,p,n,a,xs,ex,z,D⟩:=w11a';subst n ex;cases J;have g:Inv X c σ L {d with heap:=d.heap.push {cls:=.type "slice",data:=.fields #[.none,.none,vs]} }:=C.kept (t':=d.toks) λb F q=>Aw _ q;obtain⟨its,r,k,hz⟩:=g.list z;have hlen:=r.length;show wpAny (model X.prog X.w) X.A (subscriptTail e (.Slice HD HD (HA st) f) (.ref a)<|.ref d.heap.objs.size) (EP X c σ Q) X.xe {d with heap:=d.heap.push {cls:=.type "slice",data:=.fields #[.none,.none,vs]} };refine tail_any (ops:=[.ref a,.ref d.heap.objs.size]) k.isList.typeIs Ev.lookup ?_<|i _ _;refine wpAny_getItem_list_slice k.isList (Heap.IsSliceOf.new ..) .none .none p Ud ?_ (by rw[Ah] <;>lia);rw[PySem.W.krv_pick];refine HP (.ref _) _ ⟨g.laid (t':=d.toks) (o:=.lst xs.reverse) (λb F q=>Aw _ q) (Al _) ?_,Z,D _<|g.hok.fresh<|Al _⟩;exact⟨by rwa[B3],its.reverse,0,r.reverse,AX _ Z⟩
def Mc:V->tW->Hp->VK->Prop:=λx vs H Q=>∃(l:HC)(xs:tW)(y:V)(k:Nat),x=.ref l/\vs=[.int (k:Int),y]/\H l=HA (.lst xs)/\k<=xs.length/\xs.length<1000/\Q .non (upd H l<|.lst<|xs.take k++y::xs.drop k)
def qua {X:Cx}:Vy X "list.insert" Mc:=by
 intro _ s σ H x _ v _ Q I i rv h;obtain⟨l,_,y,k,rfl,rfl,d,_,_,q⟩:=h;cases i;obtain⟨_,u,rfl,o,m⟩:=rv.two;obtain⟨j,rfl⟩:=o;obtain⟨z,its,n,r,_,e⟩:=I.lstM d;have hlen:=r.length;have b:its.toArray.size<=A4:=by rw[Ah,Bv];lia
 have c:BJ.List.listFitsIndex (k:Int)=HG:=by
  unfold BJ.List.listFitsIndex;rw[B7,decide_eq_true_eq,decide_eq_true_eq];have:(k:Int)<1001:=by lia
  exact⟨Bh Ud<|D8 k,Bd this Ud⟩
 have a:¬(!Builtin.List.listFitsIndex (k:Int))=HG:=λz=>by rw[c]at z;cases z
 have g:¬(k:Int)<0:=by lia
 have f:min ((k:Int).toNat) its.toArray.size=k:=by rw[Bb,Ah];exact Nat.min_eq_left sZ
 generalize (k:Int)=kk at a g f |-;have M:=AutoListH.list_insert_list_int_val_1 l its.toArray n kk j u a b;refine DS F.slot_list_insert ⟨_,e,Z⟩ F.entry_list_insert (F.args_list_insert_3 _ _ _) M ⟨e,?_⟩;refine HP .non _ ⟨I.lset (its':=its.take k++u::its.drop k) d e ?_ ((r.take k).append<|.cons m<|r.drop k) ?_,Z,q⟩
 .simp only[HF g,f];simp;exact DN (by rw[Cg];lia)
 .rw[Ae,Bp,AA,Cg,Bv];lia
end Add
namespace Lam
open PySem PySem.Spec PyProof.Rows L2 Add PySem.W PySem.Calls
section
open PySem.SeqAt
open PySem.AutoSeq1 (wpAny_loadPart')
open PySem.MeetsSeq PySem.MeetsSeq2 PySem.MeetsSeq3
open HT
theorem qub (l b:HC)(n H:Nat)(F u:tQ)(I v:tD)(x y:Int×Str)(j c o f:Tok) :
  Meets (BJ.«tuple.__lt__» ⟨[.ref l,.ref b],[]⟩)
   (λ_ R s=>s.heap.get? l=HA {cls:=.type "tuple",dict:=F,data:=.seq #[.int x.1 j,.str x.2 c] n,slots:=I}/\s.heap.get? b=HA {cls:=.type "tuple",dict:=u,data:=.seq #[.int y.1 o,.str y.2 f] H,slots:=v} /\
    R (.ok<|.ret<|.bool<|ltK x y) s) :=
 .of_wp λprog w A R s h=>by
  obtain⟨m,g,d,tk,p⟩:=s;obtain⟨B,C,h⟩:=h;have f2:=AutoSeq1.sub_tuple_tuple
  wp_walk using wpAny_loadPart' B,wpAny_loadPart' C,wpAny_forIn_list _ (λJF b t=>b.1=HD/\t=⟨m,g,d,tk,p⟩/\(JF=[(Dg x.1 j,Dg y.1 o),(Dm x.2 c,Dm y.2 f)]\/(x.1=y.1/\JF=[(Dm x.2 c,Dm y.2 f)])\/(x.1=y.1/\x.2=y.2/\JF=[]))) _
  case turn =>
   rintro⟨_,_⟩ JF b t ⟨k,rfl,a|⟨q,a⟩|⟨_,_,a⟩⟩
   .injection a with a h2;injection a with h3 h4;subst h2 h3 h4;refine A2<|AY.int_int x.1 j y.1 o prog w _ _ ?_;cases e:x.1 == y.1 with
    |true =>
     wp_walk
     exact⟨Z,Z,.inr<|.inl ⟨HU.mp e,Z⟩⟩
    |false =>
     have G:x.1≠y.1:=λz=>by rw[z,beq_self_eq_true]at e;cases e
     have hz:ltK x y=decide (x.1<y.1):=by unfold ltK;rw[HM G];simp
     rw[hz]at h;have i:∀(E:tR)(Q:tR),Q (.bool<|decide (x.1<y.1)) ⟨m,g,d,tk,p⟩->wpAny (model prog w) A.in1 (richCompare .Lt (.int x.1 j)<|.int y.1 o) Q E ⟨m,g,d,tk,p⟩:=λE Q r=>(PyProof.Rows.lt_int r:wpAny (model prog w) A.in1 (compareOp .Lt (.int x.1 j)<|.int y.1 o) Q E _)
     wp_walk using i
     exact⟨_,Z,by simpa using h⟩
   .injection a with a h2;injection a with h3 h4;subst h2 h3 h4;refine A2<|AY.str_str x.2 c y.2 f prog w _ _ ?_;cases e:x.2 == y.2 with
    |true =>
     wp_walk
     exact⟨Z,Z,.inr<|.inr ⟨q,HU.mp e,Z⟩⟩
    |false =>
     have hz:ltK x y=decide (x.2.cps.toList<y.2.cps.toList):=by unfold ltK;rw[HM (show ¬x.1<y.1 by lia),HJ q];rfl
     rw[hz]at h;have i:∀(E:tR)(Q:tR),Q (.bool<|x.2.cps.toList<y.2.cps.toList) ⟨m,g,d,tk,p⟩->wpAny (model prog w) A.in1 (richCompare .Lt (.str x.2 c)<|.str y.2 f) Q E ⟨m,g,d,tk,p⟩:=λE Q r=>(lt_str r:wpAny (model prog w) A.in1 (compareOp .Lt (.str x.2 c)<|.str y.2 f) Q E _)
     wp_walk using i
     exact⟨_,Z,by simpa using h⟩
   .cases a
  case fin =>
   rintro⟨_,_⟩ t ⟨k,rfl,a|⟨q,a⟩|⟨q,D,_⟩⟩
   .cases a
   .cases a
   .simp only at k;subst k;have hz:ltK x y=HH:=(ltK_no x y).mpr (by
     rintro (z|⟨_,z⟩)
     .lia
     .rw[D]at z;exact List.lt_irrefl _ z)
    rw[hz]at h
    wp_walk
    exact⟨_,Z,by simpa [BJ.Tuple.tupleCompareSizes] using h⟩
  case h =>exact⟨Z,Z,.inl Z⟩
end
section
variable {X:Cx}
def jA (K:Ag):R2:=λx y H Q=>∃(a b:HC)(u v:Int×Str),x=.ref a/\y=.ref b/\H a=HA (.tup<|encK u)/\H b=HA (.tup<|encK v)/\Q (.bl<|ltK u v) H
def op_ltK (hu:X.A.units+64<cLine):JH X (compareOp .Lt) (jA X.K):=by
 intro g s σ H x y v u Q I o w h;obtain⟨a,b,p,f,rfl,rfl,z,C,q⟩:=h;cases o;cases w;obtain⟨_,L,N,_⟩:=I.tuple<|SqT.of z;obtain⟨_,_,rfl,⟨t,rfl⟩,⟨t',rfl⟩⟩:=Vals.two L;obtain⟨⟨_,G,_,B⟩,j,i,n,k⟩:=(show s.heap.IsTuple a _ from N);obtain⟨_,J,r,_⟩:=I.tuple<|SqT.of C;obtain⟨_,_,rfl,⟨D,rfl⟩,⟨E,rfl⟩⟩:=Vals.two J;obtain⟨⟨_,m,_,l⟩,e,c,M,d⟩:=(show s.heap.IsTuple b _ from r);simp only at i k c d;subst i k c d;exact richCompare_meets_room (op:=.Lt) ⟨_,j,Z⟩ ⟨_,e,Z⟩ PySem.F.slot_tuple_lt PySem.F.entry_tuple_lt (PySem.F.args_tuple_lt_2 _ _) (qub a b n M G m B l p f t t' D E)
  ⟨j,e,show DR (ltK p f)≠Value.notImplemented/\EP X g σ Q (.bool<|ltK p f) s from ⟨sh,.bl _,H,I,Z,q⟩⟩ sZ
end
end Lam
namespace Add
open PySem PySem.Spec PyProof.Rows L2
section
variable {X:Cx}
end
end Add
namespace Cal
noncomputable def lb (y:Int):Int:=(3*y+14) / 17
noncomputable def fw (y:Int):Int:=52*y+(3*y+14) / 17
noncomputable def yo (w:Int):Int:=(17*w+2) / 887
noncomputable def wk (y:Int):Int:=if 3*y % 17<3 then 53 else 52
def Tp (y:Int):fw (y+1)=fw y+wk y:=by unfold fw wk;rw[show 3*(y+1)+14=3*y+17 by lia,show 52*(y+1)=52*y+52 by lia];generalize 3*y=z;split <;>lia
def RZ (y:Int):52<=wk y/\wk y<=53:=by unfold wk;split <;>lia
def QJ (w:Int):fw (yo w)<=w/\w<fw (yo w+1):=by unfold fw yo;lia
def je {w y:Int}(h1:fw y<=w)(h2:w<fw (y+1)):yo w=y:=by unfold fw at *;unfold yo;lia
def YS {y:Int}(h:0<=y):0<=fw y:=by unfold fw;lia
def YC (n:Int):(3*(n+1)+14) / 17=(3*n+14) / 17+(wk n-52):=by have:=Tp n;unfold fw at this;lia
structure Ok (y w d:Int):Prop where
 y0:0<=y
 w1:1<=w
 w2:w<=wk y
 d1:1<=d
 d2:d<=7
def dn (y w d:Int):Int:=7*(fw y+w-1)+d-1
noncomputable def cell (ns:tL)(k:Int):Int:=ns.getD k.toNat 0
end Cal
namespace K58
open PySem L2 Add
section
variable {α β γ δ:Type}{K:Ag}{H:Hp}{p:HC}{xs:tW}{i j:Int}{v a b c d e:V}
theorem IB {t:β}{f:α->β}{P:α->Prop}{v:α}(e:t=f v)(h:P v):∃v,t=f v/\P v:=⟨v,e,h⟩
theorem iic {x:γ}{y:δ}{f:α->γ}{g:β->δ}{P:α->β->Prop}{i:α}{j:β}(e:x=f i)(a:y=g j)(h:P i j):∃i j,x=f i/\y=g j/\P i j:=HP i j ⟨e,a,h⟩
theorem lxc {P:V->Prop}(s:SqL K H p xs)(e:JN xs i=HA v)(h:P v):∃p' xs' i' v',V.ref p=.ref p'/\V.int i=.int i'/\SqL K H p' xs'/\JN xs' i'=HA v'/\P v':=Hv p xs i v ⟨Z,Z,s,e,h⟩
theorem txc {P:V->Prop}(s:SqT K H p xs)(e:JN xs i=HA v)(h:P v):∃p' xs' i' v',V.ref p=.ref p'/\V.int i=.int i'/\SqT K H p' xs'/\JN xs' i'=HA v'/\P v':=Hv p xs i v ⟨Z,Z,s,e,h⟩
theorem Ut {a C b:HC}{fs:tY}{A B:HC->Prop}{L:tY->V->Prop}{P:V->Prop}(h:H a=HA (.ins C b fs))(c:A C)(n:B C)(l:L fs v)(q:P v):∃a' C' dx' fs' v',V.ref a=.ref a'/\H a'=HA (.ins C' dx' fs')/\A C'/\B C'/\L fs' v'/\P v':=J0 a C b fs v ⟨Z,h,c,n,l,q⟩
theorem HY {P:V->V->Prop}(h:P b a):∃u0,HA (HA b)=HA (HA u0)/\∃u1,HA (HA a)=HA (HA u1)/\P u0 u1:=⟨b,Z,a,Z,h⟩
theorem Jw {P:V->V->V->Prop}(h:P b a c):∃u0,HA (HA b)=HA (HA u0)/\∃u1,HA (HA a)=HA (HA u1)/\∃u2,HA (HA c)=HA (HA u2)/\P u0 u1 u2:=⟨b,Z,a,Z,c,Z,h⟩
theorem UJ {P:V->V->V->V->Prop}(h:P c a d b):∃u0,HA (HA c)=HA (HA u0)/\∃u1,HA (HA a)=HA (HA u1)/\∃u2,HA (HA d)=HA (HA u2)/\∃u3,HA (HA b)=HA (HA u3)/\P u0 u1 u2 u3:=⟨c,Z,a,Z,d,Z,b,Z,h⟩
theorem Vv {P:V->V->V->V->V->Prop}(h:P c a d b e):∃u0,HA (HA c)=HA (HA u0)/\∃u1,HA (HA a)=HA (HA u1)/\∃u2,HA (HA d)=HA (HA u2)/\∃u3,HA (HA b)=HA (HA u3)/\∃u4,HA (HA e)=HA (HA u4)/\P u0 u1 u2 u3 u4:=⟨c,Z,a,Z,d,Z,b,Z,e,Z,h⟩
theorem rM {f:V}{P:V->V->V->V->V->V->Prop}(h:P c a d b e f):∃u0,HA (HA c)=HA (HA u0)/\∃u1,HA (HA a)=HA (HA u1)/\∃u2,HA (HA d)=HA (HA u2)/\∃u3,HA (HA b)=HA (HA u3)/\∃u4,HA (HA e)=HA (HA u4)/\∃u5,HA (HA f)=HA (HA u5)/\P u0 u1 u2 u3 u4 u5:=⟨c,Z,a,Z,d,Z,b,Z,e,Z,f,Z,h⟩
theorem HL {P:V->Prop}(h:P v):∃u,HA (HA v)=HA (HA u)/\P u:=⟨v,Z,h⟩
theorem Hx {k:Bool}{P:Bool->Prop}(h:P k):∃b,V.bl k=V.bl b/\P b:=⟨k,Z,h⟩
theorem HV {P:Int->Int->Prop}(h:P i j):∃a b,V.int i=.int a/\V.int j=.int b/\P a b:=HP i j ⟨Z,Z,h⟩
theorem IJ {C P:Int->Int->Prop}(c:C i j)(h:P i j):∃a b,V.int i=.int a/\V.int j=.int b/\C a b/\P a b:=HP i j ⟨Z,Z,c,h⟩
theorem flv {a C b:HC}{fs:tY}{f:Str}{P:V->Prop}(h:H a=HA (.ins C b fs))(c:Cls K C)(n:NoAttr K C f)(l:fs.lookup f=HA v)(q:P v):∃a' C' dx' fs' v',V.ref a=.ref a'/\H a'=HA (.ins C' dx' fs')/\Cls K C'/\NoAttr K C' f/\fs'.lookup f=HA v'/\P v':=J0 a C b fs v ⟨Z,h,c,n,l,q⟩
theorem Ib {P:V->Prop}(s:H p=HA (.lst xs))(e:JN xs i=HA v)(h:P v):∃p' xs' i' v',V.ref p=.ref p'/\V.int i=.int i'/\SqL K H p' xs'/\JN xs' i'=HA v'/\P v':=lxc (SqL.of s) e h
theorem IH {P:V->Prop}(s:H p=HA (.tup xs))(e:JN xs i=HA v)(h:P v):∃p' xs' i' v',V.ref p=.ref p'/\V.int i=.int i'/\SqT K H p' xs'/\JN xs' i'=HA v'/\P v':=txc (SqT.of s) e h
noncomputable def IF (i:Nat):HN:=PySem.Challenge.pw_termcourt_k58_whole_by_days.main.body.getD i<|.Pass ⟨0,0,0,0⟩
abbrev cP:HN:=JE (IF 3) 0
abbrev ZP:HN:=IF 6
abbrev Zs:HN:=IF 8
abbrev cV:HN:=IF 10
abbrev Yz:HN:=IF 11
abbrev ZO:HN:=IF 14
abbrev Z4:HN:=IF 13
abbrev Zr:HN:=IF 12
abbrev eF:HN:=JE (IF 3) 1
abbrev cO:HN:=JE (IF 4) 0
abbrev cY:HN:=JE (IF 3) 4
abbrev aX:HN:=IF 40
abbrev dF:HN:=JE (IF 52) 3
abbrev eE:HN:=JE (IF 52) 5
abbrev aD:HN:=IF 41
abbrev aW:HN:=JE (IF 52) 4
abbrev ZN:HN:=IF 42
abbrev Zp:HN:=IF 44
abbrev ZM:HN:=IF 43
abbrev aC:HN:=IF 53
abbrev cX:HN:=JE (IF 52) 2
abbrev aV:HN:=JE (IF 64) 1
abbrev cU:HN:=JE (IF 64) 3
abbrev Z3:HN:=JE (IF 64) 4
abbrev cZ:HN:=JE (IF 5) 2
abbrev c5:HN:=JE (IF 3) 3
abbrev eC:HN:=JE (IF 5) 1
abbrev Zo:HN:=IF 16
abbrev cy:HN:=JE (IF 64) 5
abbrev Z2:HN:=IF 18
abbrev Zn:HN:=IF 17
abbrev Po:HN:=IF 22
abbrev cT:HN:=JE (IF 38) 2
abbrev cG:HN:=JE (IF 38) 3
abbrev aB:HN:=JE (IF 20) 4
abbrev aU:HN:=IF 25
abbrev eD:HN:=JE (IF 36) 2
abbrev Xk:HN:=JE (IF 36) 1
abbrev cS:HN:=JE (IF 20) 8
abbrev Zl:HN:=JE (IF 20) 13
abbrev aS:HN:=JE (IF 20) 9
abbrev Pr:HN:=JE (IF 20) 3
abbrev Pq:HN:=JE (IF 20) 2
abbrev ck:HN:=JE (IF 20) 7
abbrev aR:HN:=JE (IF 20) 1
abbrev cN:HN:=JE (IF 20) 10
abbrev cR:HN:=JE (IF 20) 11
abbrev Zk:HN:=JE (IF 20) 12
abbrev Z1:HN:=JE (IF 20) 6
abbrev Zj:HN:=JE (IF 20) 5
abbrev Oa:HN:=JE (IF 20) 0
abbrev Yt:HN:=IF 24
abbrev cM:HN:=JE (IF 20) 15
abbrev cF:HN:=JE (IF 20) 14
abbrev Xg:HN:=IF 23
abbrev Zi:HN:=IF 34
abbrev cK:HN:=IF 33
abbrev Xu:HN:=IF 54
abbrev aP:HN:=IF 55
abbrev aM:HN:=IF 57
abbrev cE:HN:=IF 56
abbrev Z0:HN:=IF 59
variable {f C:HC}{x q:Str}{st:HN}{e:tD}{h i j:tQ}{d g b ct:HE}{p:tH->Prop}
abbrev cJ:HN:=IF 58
abbrev cQ:HN:=IF 65
abbrev Yy:HN:=IF 67
abbrev cD:HN:=IF 66
abbrev aK:HN:=IF 69
abbrev Zz:HN:=IF 70
abbrev Zy:HN:=IF 71
abbrev Oc:HN:=JE (IF 36) 0
abbrev Xf:HN:=IF 72
abbrev Zh:HN:=IF 73
abbrev Xe:HN:=IF 74
abbrev Xd:HN:=IF 75
abbrev cC:HN:=IF 76
abbrev aJ:HN:=IF 77
abbrev Ob:HN:=IF 78
abbrev cB:HN:=IF 79
abbrev Zg:HN:=IF 80
abbrev Zx:HN:=IF 81
abbrev aI:HN:=IF 82
abbrev OZ:HN:=IF 83
abbrev Zf:HN:=IF 84
abbrev aH:HN:=IF 85
abbrev ZL:HN:=IF 86
abbrev aZ:HN:=IF 87
abbrev Zw:HN:=JE (IF 38) 0
abbrev Vs:HN:=JE (IF 52) 0
abbrev Of:HN:=JE (IF 64) 0
abbrev RT:HN:=IF 88
structure DefAt (K:Ag)(mg:Str->tK)(x:Str)(st:HN)(ps:tG)(f:HC)(fd:BC):Prop where
 fn:Fun K x x st f fd
 mgx:mg x=HA (.ref f)
 bd:Binds K fd ps []
def ap (s:HN):tG:=(KO s).args.map (·.arg)
abbrev DA (K:Ag)(mg:Str->tK)(x:Str)(s:HN)(f:HC)(g:BC):Prop:=DefAt K mg x s (ap s) f g
abbrev MA (K:Ag)(x q:Str)(s:HN)(f:HC)(g:BC):Prop:=MethAt K x q s (ap s) f g
abbrev SC (N:tG)(s:HN):Prop:=FnScope N (ap s)<|Iy s
theorem rJ {X:Cx}{k:Nat}{fd:BC}{ps:tG}{sp:Sp}{e:HS}{es:tN}{t:TA}{p pos:Pos}(D:DefAt X.K X.mg x st ps f fd)(F:FnOk X.prog X.w X.K X.mg X.base Hw k f fd ps sp)(a:Room k X.A)(b:PA X (e::es) t)(c:autoParam (Gl X x) uG)(hdb:autoParam ((x == ("__debug__" : Str))=HH) uI)(he:autoParam (starEach (e::es) X.env=(HH,eval e X.env)::starEach es X.env) uG)(hpl:autoParam ((backTo pos<|starEach es X.env).any (·.1)=HH) uG):PE X (.Call (.Name x p) (e::es) [] pos) (MB sp [] E0 t):=zc F a c D.mgx D.fn.kp D.bd .nil IT b hdb he hpl
abbrev Pd (K:Ag)(x:Str)(st:HN)(f:HC):Prop:=∃(oc:HE)(od:tQ)(kV doc pm:HE)(an:tQ)(cdv ct:HE)(osl:tD),AM K A7 x=HA (HA<|.ref f)/\K.lookup f=HA ⟨oc,od,.func<|Bl x x (KO st) (Jv st) (Iy st) .none kV doc pm an cdv ct,osl⟩/\BG K cdv x=HG/\Bw K (.ref f)=HG
abbrev Pm (K:Ag)(C:HC)(x q:Str)(st:HN)(f:HC):Prop:=∃(oc:HE)(od:tQ)(kV doc pm:HE)(an:tQ)(cdv ct:HE)(osl:tD),Bf K (.ref C) x=HA (HA<|.ref f)/\CD K (.ref f)=HA (.type "function")/\K.lookup f=HA ⟨oc,od,.func<|Bl x q (KO st) (Jv st) (Iy st) .none kV doc pm an cdv ct,osl⟩/\BG K cdv q=HG/\Bw K (.ref f)=HG
theorem pd_of {h:HE}{kV:HE}(a:AM K A7 x=HA (HA<|.ref f))(l:K.lookup f=HA ⟨h,i,.func<|Bl x x (KO st) (Jv st) (Iy st) .none kV d g j b ct,e⟩)(c:BG K b x=HG)(k:Bw K (.ref f)=HG):Pd K x st f:=Ic h i kV d g j b ct ⟨e,a,l,c,k⟩
theorem pm_of {kV i:HE}(a:Bf K (.ref C) x=HA (HA<|.ref f))(t:CD K (.ref f)=HA (.type "function"))(l:K.lookup f=HA ⟨g,h,.func<|Bl x q (KO st) (Jv st) (Iy st) .none kV d i j b ct,e⟩)(c:BG K b q=HG)(k:Bw K (.ref f)=HG):Pm K C x q st f:=Ic g h kV d i j b ct ⟨e,a,t,l,c,k⟩
theorem OI (h:∀x0,p [x0]):∀us,us.length=1->p us:=λus a=>by obtain⟨x,rfl⟩:=List.length_eq_one_iff.mp a;exact h x
theorem RQ {n:Nat}(h:∀x t,t.length=n->p (x::t)):∀us,us.length=n+1->p us:=λus a=>by obtain⟨x,t,rfl⟩:=List.exists_cons_of_length_eq_add_one a;exact h x t<|Nat.succ.inj a
theorem VA (h:∀x0 x1,p [x0,x1]):∀us,us.length=2->p us:=RQ λx=>OI<|h x
theorem U9 (h:∀x0 x1 x2,p [x0,x1,x2]):∀us,us.length=3->p us:=RQ λx=>VA<|h x
theorem Q4 (h:∀x0 x1 x2 x3,p [x0,x1,x2,x3]):∀us,us.length=4->p us:=RQ λx=>U9<|h x
theorem U8 (h:∀x0 x1 x2 x3 x4,p [x0,x1,x2,x3,x4]):∀us,us.length=5->p us:=RQ λx=>Q4<|h x
theorem Q3 (h:∀x0 x1 x2 x3 x4 x5,p [x0,x1,x2,x3,x4,x5]):∀us,us.length=6->p us:=RQ λx=>U8<|h x
theorem ri (h:∀x0 x1 x2 x3 x4 x5 x6,p [x0,x1,x2,x3,x4,x5,x6]):∀us,us.length=7->p us:=RQ λx=>Q3<|h x
theorem rg (h:∀x0 x1 x2 x3 x4 x5 x6 x7,p [x0,x1,x2,x3,x4,x5,x6,x7]):∀us,us.length=8->p us:=RQ λx=>ri<|h x
theorem rZ (h:∀x0 x1 x2 x3 x4 x5 x6 x7 x8,p [x0,x1,x2,x3,x4,x5,x6,x7,x8]):∀us,us.length=9->p us:=RQ λx=>rg<|h x
theorem Il {h:HX}{mg:Str->tK}(X:K.In h)(G:h.Ns A7 mg)(p:Pd K x st f)(b:autoParam (∀(kV d g:HE) (i:tQ) (e ct:HE) (us:tH),us.length=(ap st).length->bindArgs (Bl x x (KO st) (Jv st) (Iy st) .none kV d g i e ct) ⟨us,[]⟩=pure ((ap st).zip us)) uQ._auto_1):∃fd,DA K mg x st f fd:=by obtain⟨_,_,kV,d,g,i,e,ct,_,a,l,c,k⟩:=p;have F:=Y1 (st:=st) l c k;exact⟨_,F,Be X G a,F.binds b⟩
theorem JK (p:Pm K C x q st f)(b:autoParam (∀(kV d g:HE) (h:tQ) (e ct:HE) (us:tH),us.length=(ap st).length->bindArgs (Bl x q (KO st) (Jv st) (Iy st) .none kV d g h e ct) ⟨us,[]⟩=pure ((ap st).zip us)) uQ._auto_1):∃fd,MA K x q st f fd:=by obtain⟨_,_,kV,d,g,h,e,ct,_,a,t,l,c,k⟩:=p;have F:=Y1 (st:=st) l c k;exact⟨_,F,F.binds b,t⟩
end
set_option genInjectivity false
set_option genSizeOf false
set_option genSizeOfSpec false
noncomputable abbrev K4:tG:=["free_days","open_days","open_before","pattern","rows","shifts","table","name","who","owes","opens","base","many","unit","still","ends","anew","longer","yields","rule","counting","over","day","units","pauses","grants","order","by_name"]
structure Adr where
 (U AL AM AN AO AP AQ AR P V Q AS d e AT f AU AV AW AX g h i j W R X AY k AZ Aa Ab l m n Ac o p q r s I J t u v w x y z AA Ad AB AC Ae Af Ag Ah Ai Aj Ak Al Am An Ao Ap Aq Ar At AD Au Av Aw Ax Ay Az L A0 A1 A2 A3 M A4 A5 A6 A7 AE AF AG A8 E F G D B A C H AH:HC)
 (A9 BA BB BD BE BF BG BH Z AI b BI BJ BK BL BM BN BO BP BQ BR BS BT BU AJ c AK BV BW BX BY Y BZ Ba Bb Bc Bd Be Bf Bg Bh S T Bi Bj Bk Bl Bm Bn Bo Bp Bq Br Bs Bt Bu Bv Bw Bx By Bz B0 B1 B2 B3 B4 B5 B6 B7 B8 B9 CA CB CC CD CE N CF CG CH CI O CJ CK CL CM CN CO CP CQ:BC)
structure Txt (K:Ag)(mg:Str->tK)(a:Adr):Prop where
 gH:MA K "__init__" "Counting.__init__" cP a.U a.A9
 fU:DA K mg "kind_of" ZP a.AL a.BA
 gE:DA K mg "is_whole" Zs a.AM a.BB
 bC:DA K mg "is_stretch_of" cV a.AN a.BD
 gQ:DA K mg "place" Yz a.AO a.BE
 m4:DA K mg "joined" ZO a.AP a.BF
 dI:DA K mg "laid_over" Z4 a.AQ a.BG
 lK:DA K mg "overlay" Zr a.AR a.BH
 gS:MA K "days_for" "Counting.days_for" eF a.P a.Z
 l9:MA K "days_for" "Weeks.days_for" cO a.V a.AI
 gX:MA K "reach" "Counting.reach" cY a.Q a.b
 bK:DA K mg "long_before" aX a.AS a.BI
 gA:MA K "before_year" "Pattern.before_year" dF a.d a.BJ
 lU:MA K "year_with" "Pattern.year_with" eE a.e a.BK
 bL:DA K mg "first_week" aD a.AT a.BL
 bM:MA K "nth" "Pattern.nth" aW a.f a.BM
 bH:DA K mg "year_of" ZN a.AU a.BN
 hX:DA K mg "weekday" Zp a.AV a.BO
 fF:DA K mg "date_of" ZM a.AW a.BP
 dN:DA K mg "day_of_year" aC a.AX a.BQ
 gJ:MA K "before" "Pattern.before" cX a.g a.BR
 bA:MA K "shift" "Table.shift" aV a.h a.BS
 kT:MA K "before" "Table.before" cU a.i a.BT
 bP:MA K "nth" "Table.nth" Z3 a.j a.BU
 fJ:MA K "reach" "CourtDays.reach" cZ a.W a.AJ
 gW:MA K "counted_in" "Counting.counted_in" c5 a.R a.c
 bY:MA K "counted_in" "CourtDays.counted_in" eC a.X a.AK
 lI:DA K mg "full_day" Zo a.AY a.BV
 gT:MA K "next_open" "Table.next_open" cy a.k a.BW
 fM:DA K mg "first_due" Z2 a.AZ a.BX
 lE:DA K mg "last_day" Zn a.Aa a.BY
 lP:DA K mg "in_order" Po a.Ab a.Y
 dO:MA K "hanging" "Book.hanging" cT a.l a.BZ
 fN:MA K "rule_of" "Book.rule_of" cG a.m a.Ba
 dE:MA K "is_over" "Run.is_over" aB a.n a.Bb
 fY:DA K mg "is_running" aU a.Ac a.Bc
 dU:MA K "role_in_still" "Rule.role_in_still" eD a.o a.Bd
 lB:MA K "role" "Rule.role" Xk a.p a.Be
 bG:MA K "is_halted" "Run.is_halted" cS a.q a.Bf
 bD:MA K "go_on" "Run.go_on" Zl a.r a.Bg
 lV:MA K "finish" "Run.finish" aS a.s a.Bh
 gK:MA K "lasts_to" "Run.lasts_to" Pr a.I a.S
 gC:MA K "starts_on" "Run.starts_on" Pq a.J a.T
 dZ:MA K "is_under_way" "Run.is_under_way" ck a.t a.Bi
 bQ:MA K "set_out" "Run.set_out" aR a.u a.Bj
 dX:MA K "begin_anew" "Run.begin_anew" cN a.v a.Bk
 fK:MA K "lengthen" "Run.lengthen" cR a.w a.Bl
 dW:MA K "halt" "Run.halt" Zk a.x a.Bm
 dQ:MA K "works" "Run.works" Z1 a.y a.Bn
 lZ:MA K "feel" "Run.feel" Zj a.z a.Bo
 dR:MethD K "__init__" "Run.__init__" Oa ["self","rule","table","name","day","base"] a.AA a.Bp
 fG:DA K mg "take" Yt a.Ad a.Bq
 bX:MA K "state_word" "Run.state_word" cM a.AB a.Br
 fC:MA K "account" "Run.account" cF a.AC a.Bs
 lL:DA K mg "history" Xg a.Ae a.Bt
 bZ:DA K mg "untaken" Zi a.Af a.Bu
 dY:DA K mg "hanging_order" cK a.Ag a.Bv
 lW:DA K mg "is_free_within" Xu a.Ah a.Bw
 l7:DA K mg "counted_up" aP a.Ai a.Bx
 fH:DA K mg "is_weekday" aM a.Aj a.By
 dH:DA K mg "refuse_week" cE a.Ak a.Bz
 fD:DA K mg "is_yearly" Z0 a.Al a.B0
 bV:DA K mg "refuse_yearly" cJ a.Am a.B1
 gG:DA K mg "list_or_empty" cQ a.An a.B2
 dL:DA K mg "is_row" Yy a.Ao a.B3
 lN:DA K mg "refuse_rows" cD a.Ap a.B4
 gF:DA K mg "_law_cell_at" aK a.Aq a.B5
 kJ:DA K mg "_law_mixed" Zz a.Ar a.B6
 bI:DA K mg "_law_words" Zy a.At a.B7
 l6:MethD K "__init__" "Rule.__init__" Oc ["self","name","who","owes","opens","base","many","unit","still"] a.AD a.B8
 lG:DA K mg "_law_rule" Xf a.Au a.B9
 dD:DA K mg "_law_book" Zh a.Av a.CA
 hV:DA K mg "_law_menu" Xe a.Aw a.CB
 fO:DA K mg "_law_acts" Xd a.Ax a.CC
 bE:DA K mg "_law_hanging" cC a.Ay a.CD
 lD:DA K mg "_law_sorted" aJ a.Az a.CE
 kQ:DA K mg "_law_alike" Ob a.L a.N
 bN:DA K mg "_law_year_day" cB a.A0 a.CF
 m3:DA K mg "_law_free" Zg a.A1 a.CG
 lR:DA K mg "_law_still" Zx a.A2 a.CH
 fA:DA K mg "_law_walked" aI a.A3 a.CI
 kM:DA K mg "_law_span" OZ a.M a.O
 bJ:DA K mg "_law_shut" Zf a.A4 a.CJ
 fS:DA K mg "_law_turned" aH a.A5 a.CK
 fE:DA K mg "_law_met" ZL a.A6 a.CL
 dP:DA K mg "_law_account" aZ a.A7 a.CM
 lH:MA K "__init__" "Book.__init__" Zw a.AE a.CN
 bU:MA K "__init__" "Pattern.__init__" Vs a.AF a.CO
 dS:MethD K "__init__" "Table.__init__" Of ["self","week","yearly","rows"] a.AG a.CP
 mE:DA K mg "law" RT a.A8 a.CQ
 mP:mg "Book"=HA (.ref a.E)
 kP:Cls K a.E
 mQ:Mk K a.E a.AE
 kW:Kp K a.E K4=HG
 nU:Meth K a.E "hanging" a.l
 n9:Meth K a.E "rule_of" a.m
 mT:mg "Counting"=HA (.ref a.F)
 gB:Cls K a.F
 mS:Mk K a.F a.U
 lC:Kp K a.F K4=HG
 mH:Meth K a.F "counted_in" a.R
 mR:Meth K a.F "days_for" a.P
 m5:Meth K a.F "reach" a.Q
 pY:VQ K a.F=HG
 rA:AK K (.ref a.F) (.ref a.F)=HA HG
 pH:AK K (.ref a.F) (.ref a.H)=HA HH
 pR:AK K (.ref a.F) (.ref a.G)=HA HH
 pQ:Meth K a.F "days_for" a.P
 pM:Meth K a.F "reach" a.Q
 pV:Meth K a.F "counted_in" a.R
 mB:mg "CourtDays"=HA (.ref a.G)
 kO:Cls K a.G
 mN:Mk K a.G a.U
 kY:Kp K a.G K4=HG
 nC:Meth K a.G "counted_in" a.X
 m8:Meth K a.G "days_for" a.P
 nN:Meth K a.G "reach" a.W
 pZ:VQ K a.G=HG
 pU:AK K (.ref a.G) (.ref a.F)=HA HG
 pJ:AK K (.ref a.G) (.ref a.H)=HA HH
 pK:AK K (.ref a.G) (.ref a.G)=HA HG
 pI:Meth K a.G "reach" a.W
 pP:Meth K a.G "counted_in" a.X
 nZ:mg "Pattern"=HA (.ref a.D)
 kH:Cls K a.D
 nX:Mk K a.D a.AF
 kN:Kp K a.D K4=HG
 gP:Meth K a.D "before_year" a.d
 mO:Meth K a.D "year_with" a.e
 fZ:Meth K a.D "nth" a.f
 gR:Meth K a.D "before" a.g
 nG:mg "Rule"=HA (.ref a.B)
 k7:Cls K a.B
 nJ:Mk K a.B a.AD
 k8:Kp K a.B K4=HG
 nT:Meth K a.B "role_in_still" a.o
 nH:Meth K a.B "role" a.p
 nQ:mg "Run"=HA (.ref a.A)
 kA:Cls K a.A
 mW:Mk K a.A a.AA
 kB:Kp K a.A K4=HG
 mJ:Meth K a.A "is_over" a.n
 dG:Meth K a.A "is_halted" a.q
 lJ:Meth K a.A "go_on" a.r
 m9:Meth K a.A "finish" a.s
 bO:Meth K a.A "lasts_to" a.I
 gZ:Meth K a.A "starts_on" a.J
 mC:Meth K a.A "is_under_way" a.t
 dC:Meth K a.A "set_out" a.u
 mK:Meth K a.A "begin_anew" a.v
 mY:Meth K a.A "lengthen" a.w
 mF:Meth K a.A "halt" a.x
 mG:Meth K a.A "works" a.y
 mV:Meth K a.A "feel" a.z
 mL:Meth K a.A "state_word" a.AB
 m6:Meth K a.A "account" a.AC
 mI:mg "Table"=HA (.ref a.C)
 kD:Cls K a.C
 nI:Mk K a.C a.AG
 kI:Kp K a.C K4=HG
 fX:Meth K a.C "shift" a.h
 kX:Meth K a.C "before" a.i
 fT:Meth K a.C "nth" a.j
 lQ:Meth K a.C "next_open" a.k
 mU:mg "Weeks"=HA (.ref a.H)
 gD:Cls K a.H
 pA:Mk K a.H a.U
 hM:Kp K a.H K4=HG
 nF:Meth K a.H "counted_in" a.R
 nV:Meth K a.H "days_for" a.V
 nO:Meth K a.H "reach" a.Q
 rB:VQ K a.H=HG
 r9:AK K (.ref a.H) (.ref a.F)=HA HG
 pW:AK K (.ref a.H) (.ref a.H)=HA HG
 pN:AK K (.ref a.H) (.ref a.G)=HA HH
 pO:Meth K a.H "days_for" a.V
 nM:mg "any"=HD
 bS:mg "bool"=HD
 gM:mg "enumerate"=HD
 gL:mg "int"=HD
 kE:mg "isinstance"=HD
 kG:mg "len"=HD
 kL:mg "list"=HD
 gY:mg "max"=HD
 fP:mg "min"=HD
 kK:mg "range"=HD
 pG:mg "reversed"=HD
 lA:mg "sorted"=HD
 kZ:mg "str"=HD
 kR:mg "tuple"=HD
 nK:∃t,mg "MOST_WEEKDAYS"=HA (.int 6 t)
 nY:∃t,mg "MOST_YEARLY"=HA (.int 4 t)
 mZ:∃t,mg "MOST_YEARLY_DAYS"=HA (.int 30 t)
 bT:∃t,mg "SHORT_YEAR"=HA (.int 364 t)
 gU:∃t,mg "LONG_YEAR"=HA (.int 371 t)
 nL:∃t,mg "MOST_ROWS"=HA (.int 12 t)
 nD:∃t,mg "MOST_ROW_DAYS"=HA (.int 40 t)
 hU:∃t,mg "TURN"=HA (.int 17 t)
 pE:∃t,mg "DAYS_OF_A_WEEK"=HA (.int 7 t)
 mD:mg "WORDS"=HA (.ref a.AH)
 mM:∀H,SqT K H a.AH [.str<|Aa "free",.str<|Aa "open"]
def OD:bootBuiltins "any"=HA (.builtin "any"):=Uk
def qB:bootBuiltins "bool"=HA (.type "bool"):=Uk
def Ze:bootBuiltins "int"=HA (.type "int"):=Uk
def KR:bootBuiltins "isinstance"=HA (.builtin "isinstance"):=Uk
def KY:bootBuiltins "len"=HA (.builtin "len"):=Uk
def Le:bootBuiltins "list"=HA (.type "list"):=Uk
def oN:bootBuiltins "max"=HA (.builtin "max"):=Uk
def qsd:bootBuiltins "min"=HA (.builtin "min"):=Uk
def boot_sorted:bootBuiltins "sorted"=HA (.builtin "sorted"):=Uk
def Xc:bootBuiltins "str"=HA (.type "str"):=Uk
def T3:bootBuiltins "tuple"=HA (.type "tuple"):=Uk
def sk {N P:tG}{h:IS}(a:autoParam (h.kind=.function) uG)(b:autoParam (h.isCoroutine=HH) uG)(c:autoParam (h.isGenerator=HH) uG)(d:autoParam (N.Nodup) uP._auto_1)(e:autoParam (N.take P.length=P) uG)(f:autoParam (∀x∈P,h.names.lookup x=HA .local\/h.names.lookup x=HA .cell) uP._auto_1)(g:autoParam (∀y∈h.names,y.2 ≠ .free) uP._auto_1):FnScope N P h:=⟨a,b,c,d,e,f,g⟩
def qns:SC ["self","table"] cP:=sk
def MY:SC ["unit","table"] ZP:=sk
def qxx:SC ["thing"] Zs:=sk
def qo1:SC ["first","last","most"] cV:=sk
def Vd:SC ["stretches","day","low","high","middle"] Yz:=sk
def Xb:SC ["laid","told","first","last","word"] ZO:=sk
def Xo:SC ["laid","first","last","word","begin","end","told"] Z4:=sk
def Vr:SC ["rows","laid","first","last","word"] Zr:=sk
def qki:SC ["self","units"] eF:=sk
def qnt:SC ["self","units"] cO:=sk
def qmj:SC ["self","first","many"] cY:=sk
def qqu:SC ["year"] aX:=sk
def qex:SC ["self","year","in_last_week"] dF:=sk
def rH:SC ["self","many","year"] eE:=sk
def qse:SC ["year"] aD:=sk
def qkj:SC ["self","many","year"] aW:=sk
def MX:SC ["week"] ZN:=sk
def qxy:SC ["day"] Zp:=sk
def Zd:SC ["day","day_in_week","week","year"] ZM:=sk
def ql8:SC ["day","date"] aC:=sk
def qhm:SC ["self","day","year"] cX:=sk
def qX:SC ["self","row","end","by_pattern","by_row"] aV:=sk
def cI:SC ["self","day","at","many"] cU:=sk
def aA:SC ["self","many","at","row","before_row"] Z3:=sk
def qlj:SC ["self","first","many"] cZ:=sk
def qi6:SC ["self","first","last"] c5:=sk
def qh8:SC ["self","first","last"] eC:=sk
def Rt:SC ["kind","start","units","pauses","left","begin","first","last","counted"] Zo:=sk
def qmk:SC ["self","day"] cy:=sk
def Xn:SC ["table","day","pauses","told","first","last"] Z2:=sk
def qpx:SC ["kind","start","units","pauses","full"] Zn:=sk
def qxz:SC ["acts"] Po:=sk
def qo2:SC ["self"] cT:=sk
def qqv:SC ["self","name"] cG:=sk
def qsf:SC ["self"] aB:=sk
def qsg:SC ["runs"] aU:=sk
def qkl:SC ["self","kind"] eD:=sk
def quc:SC ["self","kind"] Xk:=sk
def qo3:SC ["self"] cS:=sk
def qpy:SC ["self","day","first"] Zl:=sk
def qsh:SC ["self","day"] aS:=sk
def qkm:SC ["self","start"] Pr:=sk
def qjb:SC ["self"] Pq:=sk
def rF:SC ["self","day","start","last"] ck:=sk
def qsi:SC ["self","day","base"] aR:=sk
def qnu:SC ["self","day"] cN:=sk
def Xt:SC ["self","kind","done","other","units","times"] cR:=sk
def qx0:SC ["self","day"] Zk:=sk
def qud:SC ["self","word","day","kind"] Z1:=sk
def qpz:SC ["self","name","day","kind","word"] Zj:=sk
def qx1:SC ["self","rule","table","name","day","base"] Oa:=sk
def Ri:SC ["book","table","runs","act","name","kind","day","begun","term","rule"] Yt:=sk
def qnv:SC ["self","last"] cM:=sk
def qU:SC ["self","start","last"] cF:=sk
def Vq:SC ["book","table","acts","runs","term","act","told"] Xg:=sk
def Zv:SC ["name","bases","taken","path","above"] Zi:=sk
def Vu:SC ["rules","bases","rule","taken"] cK:=sk
def qnw:SC ["within","week","yearly"] Xu:=sk
def qP:SC ["free_days","counts","free"] aP:=sk
def qsj:SC ["thing"] aM:=sk
def qT:SC ["week","at","thing"] cE:=sk
def que:SC ["thing"] Z0:=sk
def rD:SC ["yearly","at","thing"] cJ:=sk
def qo4:SC ["things"] cQ:=sk
def PM:SC ["row"] Yy:=sk
def qS:SC ["rows","at","row"] cD:=sk
def qsk:SC ["_law_script","_law_k"] aK:=sk
def qnx:SC ["_law_script","_law_k","_law_cell"] Zz:=sk
def Lu:SC ["_law_cell","_law_many","_law_letters","_law_size","_law_at","_law_words_here","_law_k","_law_far","_law_word","_law_j","_law_on"] Zy:=sk
def quf:SC ["self","name","who","owes","opens","base","many","unit","still"] Oc:=sk
def Ky:SC ["_law_script","_law_at","_law_k","_law_names","_law_kinds","_law_one","_law_two","_law_mine","_law_base","_law_opens","_law_still_here","_law_unit","_law_many","_law_rule_here","_law_j"] Xf:=sk
def qA:SC ["_law_script","_law_names","_law_kinds","_law_rules","_law_k"] Zh:=sk
def px:SC ["_law_rules","_law_menu_here","_law_rule_here"] Xe:=sk
def Rr:SC ["_law_script","_law_rules","_law_names","_law_first","_law_many","_law_menu_here","_law_stride","_law_acts_here","_law_k","_law_cell","_law_kind"] Xd:=sk
def Ru:SC ["_law_rules","_law_bases","_law_rule_here","_law_order","_law_name","_law_above"] cC:=sk
def Xr:SC ["_law_acts_here","_law_found","_law_act","_law_at"] aJ:=sk
def Z9:SC ["_law_found","_law_due","_law_k"] Ob:=sk
def Xv:SC ["_law_day","_law_week","_law_year"] cB:=sk
def Lv:SC ["_law_days","_law_day","_law_week","_law_yearly","_law_rows","_law_free_here","_law_first","_law_last","_law_word"] Zg:=sk
def qJ:SC ["_law_pauses","_law_day","_law_first","_law_last"] Zx:=sk
def T4:SC ["_law_start","_law_rule_here","_law_units","_law_pauses","_law_days","_law_left","_law_day","_law_free_here"] aI:=sk
def Xj:SC ["_law_held","_law_name","_law_at","_law_rules","_law_days","_law_run","_law_start"] OZ:=sk
def qx2:SC ["_law_pauses","_law_day"] Zf:=sk
def LJ:SC ["_law_run","_law_rule_here","_law_act","_law_span_here","_law_begun","_law_tie","_law_start","_law_units","_law_used","_law_pauses","_law_over","_law_rows","_law_name","_law_kind","_law_day","_law_longer","_law_more","_law_times"] aH:=sk
def Vl:SC ["_law_held","_law_name","_law_rules","_law_days","_law_act","_law_rule_here","_law_mine","_law_tie","_law_theirs"] ZL:=sk
def qR:SC ["_law_run","_law_span_here","_law_word"] aZ:=sk
def qny:SC ["self","rules","rule"] Zw:=sk
def qo5:SC ["self","week","yearly"] Vs:=sk
def ql9:SC ["self","week","yearly","rows","row"] Of:=sk
def KH:SC ["_law_script","_law_names","_law_rules","_law_first","_law_week","_law_rows","_law_k","_law_cell","_law_acts_here","_law_yearly","_law_begin","_law_days","_law_by_name","_law_rule_here","_law_held","_law_name","_law_act","_law_kept","_law_told","_law_due"] RT:=sk
seal PySem.Sem.wp
open Add Lay Mrg Tab Cal
section
variable {p x C:HC}{R c A B:Prop}{S T W α:Type}{H H' d:Hp}{o:HO}{n i j:Nat}{xs us vs:tW}{rs:List Rw}{e a b:Int}{v:V}{f g:Str}
abbrev Rw:=IM Str
abbrev _root_.tZ:=List Rw
noncomputable def Jx (r:Rw):tW:=[.int r.1,.int r.2.1,.str r.2.2]
theorem use {p G:Prop}(m:(p->G)->R)(l:p->G):R:=m l
theorem eU {p G:Hp->Prop}(m:(∀x,p x->G x)->R)(l:∀x,p x->G x):R:=m l
theorem eX {p G:S->T->Prop}(m:(∀x y,p x y->G x y)->R)(l:∀x y,p x y->G x y):R:=m l
theorem Je [Decidable c](a:c)(h:A):if decide c=HG then A else B:=by rwa[HI<|HJ a]
theorem JU [Decidable c](a:¬c)(h:B):if decide c=HG then A else B:=by rwa[HM a]
theorem LS [Decidable c](a:c)(h:B):if (!decide c)=HG then A else B:=by rwa[HJ a]
theorem qx (a:H p=HD):Same H (upd H p o):=λb u e=>by rwa[qr<|Iz e a]
theorem IY (a:H p=HD):Same H (upd H p o)/\upd H p o p=HA o:=⟨qx a,qk⟩
theorem JJ (h:n<=100000):n<=A4:=by rw[Bv];lia
theorem KI (h:xs.length<=90000):xs.length<A4:=by rw[Bv];lia
theorem JZ:([]:tW).length<=A4:=JJ Ud
theorem Ke (x y:V):[x,y].length<=A4:=JJ (show 2<=100000 by decide)
theorem Kk (x y z:V):[x,y,z].length<=A4:=JJ (show 3<=100000 by decide)
def O6:Sp:=λvs H Q _=>∃(p:HC)(us:tW)(ts:List tW)(es:tL)(d:Int),vs=[.ref p,.int d]/\H p=HA (.lst us)/\Tups H us ts/\(∀(i:Nat)(e:Int),es[i]?=HA e->∃t:tW,ts[i]?=HA t/\JN t 1=HA (V.int e))/\ts.length=es.length/\es.Pairwise (· < ·)/\Q (.int (IR es d:Nat)) H
theorem oM (h:(ends rs)[i]?=HA e):∃t,(rs.map Jx)[i]?=HA t/\JN t 1=HA (.int e):=by
 rw[Ai]at h |-;cases q:rs[i]? with|none=>rw[q]at h;cases h|some r=>rw[q]at h;cases h;exact⟨_,Z,Z⟩
def At (H:Hp)(p:HC)(rs:tZ):Prop:=∃us,H p=HA (.lst us)/\Tups H us (rs.map Jx)
theorem At.same (h:At H p rs)(s:Same H H'):At H' p rs:=by obtain⟨us,b,a⟩:=h;exact⟨us,s _ _ b,a.same s⟩
def Su:Sp:=λvs H Q _=>∃(p:HC)(rs:tZ)(f l:Int)(w:Str),vs=[.ref p,.int f,.int l,.str w]/\At H p rs/\Dis rs/\f<=l/\rs.length<=1000/\∀q H',H q=HD->Same H H'->At H' q (over rs f l w)->Q (.ref q) H'
theorem US (a:us.length=rs.length)(h:n<rs.length):(n:Int)<(us.length:Int):=DO.mpr<|a ▸ h
theorem sn1 (h:us.length<=1000):(us++[v]).length<=1200:=by rw[Ae];exact Az (CQ h 1) Ud
theorem iX (h:us.length<=1200):(us++[v]).length<=1500:=by rw[Ae];exact Az (CQ h 1) Ud
theorem sn2 (h:us.length<=1500):(us++[v]).length<=2000:=by rw[Ae];exact Az (CQ h 1) Ud
theorem V7 (h:a<b)(h0:0<b):a.toNat<b.toNat:=sZ
theorem mid {lo:Int}(h0:0<=lo)(h:lo<a):∃j:Nat,(lo+a) / 2=(j:Int)/\lo<=(j:Int)/\(j:Int)<a:=⟨((lo+a) / 2).toNat,sZ⟩
noncomputable def PY (e:W->V)(r:IM W):tW:=[.int r.1,.int r.2.1,e r.2.2]
def AtG (e:W->V)(H:Hp)(p:HC)(rs:List (IM W)):Prop:=∃us,H p=HA (.lst us)/\Tups H us (rs.map<|PY e)
theorem AtG.len {e:W->V}{rs:List (IM W)}(t:Tups H us (rs.map<|PY e)):us.length=rs.length:=by rw[t.length,Ab]
theorem AtG.row {e:W->V}{rs:List (IM W)}(t:Tups H us (rs.map<|PY e)){r:IM W}(h:rs[i]?=HA r):∃a,us[i]?=HA (.ref a)/\H a=HA (.tup<|PY e r):=t.get (by rw[Ai,h];rfl)
theorem NC {e:W->V}{rs:List (IM W)}{t:tW}(h:(rs.map<|PY e)[i]?=HA t):∃r,rs[i]?=HA r/\t=PY e r:=by
 rw[Ai]at h;cases q:rs[i]? with|none=>rw[q]at h;cases h|some r=>rw[q]at h;cases h;exact⟨r,Z,Z⟩
def Sy:Sp:=λvs H Q _=>∃(W:Type)(dq:DecidableEq W)(e:W->V)(p:HC)(rs:List (IM W)),vs=[.ref p]/\(∀x y,e x=e y->x=y)/\(∀x y,Wl (e x) (e y)=HG)/\AtG e H p rs/\rs.length<=1000/\∀q H',H q=HD->Same H H'->AtG e H' q (jn rs)->Q (.ref q) H'
def iK:Sp:=λvs H Q _=>∃(p:HC)(rs:tZ),vs=[.ref p]/\At H p rs/\(∀r∈rs,r.1<=r.2.1)/\rs.length<=100/\∀q H',H q=HD->Same H H'->At H' q (ov rs)->Q (.ref q) H'
theorem W3 {k:Int}(h:vs[j]?=HA v)(e:k=(j:Int)):JN vs k=HA v:=by rw[e];exact Jz h
theorem qsl (vs:tW)(b:Nat)(h:b<=vs.length):LC vs HD (HA (b:Int))=vs.take b:=by
 unfold LC;have c:HT.sIx vs.length 0 HD=0:=rfl;have a:HT.sIx vs.length vs.length (HA (b:Int))=b:=by simp only[HT.sIx];split <;>lia
 rw[c,a];simp
theorem N5 (vs:tW)(b:Nat)(h:b<=vs.length):LC vs (HA (b:Int)) HD=vs.drop b:=by
 unfold LC;have c:HT.sIx vs.length vs.length HD=vs.length:=rfl;have a:HT.sIx vs.length 0 (HA (b:Int))=b:=by simp only[HT.sIx];split <;>lia
 rw[c,a];rw[DN (by rw[Cg];lia)]
theorem N9 {es:tL}(h:a<=b):IR es a<=IR es b:=by
 induction es with
 |nil=>exact Al _
 |cons e es ih=>rw[Tz,Tz];split <;>split <;>lia
theorem Ms {f l:Int}(w:Str)(h:Dis rs)(b:f<=l):(over rs f l w).length<=rs.length+3:=by
 have h1:(left rs f).length<=IR (ends rs) f+1:=by
  rw[qE f h,Ae,Bp];cases rs[IR (ends rs) f]? with
  |none=>exact BV (Ef _ _)
  |some r =>
   show min _ _+(if r.1<f then [(r.1,f-1,r.2.2)] else ([]:List (IM Str))).length<=_;split
   .exact CB<|Ef _ _
   .exact BV<|Ef _ _
 have h2:(Iu rs l).length<=rs.length-IR (ends rs) (l+1)+1:=by
  rw[qL l h];cases rs[IR (ends rs)<|l+1]? with
  |none=>exact AR _
  |some r =>
   show (if r.1<=l then ((l+1,r.2.1,r.2.2):Rw)::rs.drop (IR (ends rs) (l+1)+1) else rs.drop (IR (ends rs)<|l+1)).length<=_;split
   .rw[AA,Cg];exact CB<|Nat.sub_le_sub_left (CA _) _
   .rw[Cg];exact CA _
 have h3:=N9 (es:=ends rs)<|Eo b;have a:=Y0 (ends rs)<|l+1;rw[Ab]at a;unfold over;rw[Ae,AA];lia
theorem jZ (h:∀r∈rs,r.1<=r.2.1):(NP rs).length<=3*rs.length:=by
 have step:∀(a laid:tZ),(∀r∈a,r.1<=r.2.1)->Dis laid->(a.foldl (λlaid r=>over laid r.1 r.2.1 r.2.2) laid).length<=laid.length+3*a.length:=by
  intro a
  induction a with
  |nil=>intro laid _ _;exact Al _
  |cons r a ih =>intro laid d c;have b:=d r Am;have:=ih (over laid r.1 r.2.1 r.2.2) (λs e=>d s<|A1 _ e)<|qr0 _ c b;have:=Ms r.2.2 c b;rw[List.foldl_cons,AA];lia
 have:=step rs [] h ⟨λ_ h=>absurd h A9,Ew⟩;simpa [NP] using this
theorem QQ [DecidableEq W](a:List (IM W))(r:IM W):(Kc a r).length<=a.length+1:=by
 rcases Bm a with rfl|⟨rs,t,rfl⟩
 .exact Al _
 .rw[Bo,Tw];split <;>simp
theorem NW [DecidableEq W](rs:List (IM W)):(jn rs).length<=rs.length:=by
 have step:∀(b a:List (IM W)),(b.foldl Kc a).length<=a.length+b.length:=by
  intro b
  induction b with
  |nil=>intro a;exact Al _
  |cons r b ih =>intro a;have:=ih<|Kc a r;have:=QQ a r;rw[List.foldl_cons,AA];lia
 have:=step rs [];simpa [jn] using this
theorem QP [DecidableEq W](rs:List (IM W))(r:IM W):jn (rs++[r])=Kc (jn rs) r:=by unfold jn;rw[CP];rfl
theorem Mi {xs:List α}{x:α}(h:xs[i]?=HA x):xs.take (i+1)=xs.take i++[x]:=by rw[B1,h];rfl
theorem XH {t:tW}(h:(rs.map Jx)[i]?=HA t):∃r,rs[i]?=HA r/\t=Jx r:=by
 rw[Ai]at h;cases q:rs[i]? with|none=>rw[q]at h;cases h|some r=>rw[q]at h;cases h;exact⟨r,Z,Z⟩
theorem At.len (t:Tups H us (rs.map Jx)):us.length=rs.length:=by rw[t.length,Ab]
theorem At.row (t:Tups H us (rs.map Jx)){r:Rw}(h:rs[i]?=HA r):∃a,us[i]?=HA (.ref a)/\H a=HA (.tup<|Jx r):=t.get (by rw[Ai,h];rfl)
theorem NM (h:∀r∈rs,r.1<=r.2.1)(i:Nat):∀r∈rs.take i,r.1<=r.2.1:=λr a=>h r<|List.mem_of_mem_take a
theorem MU (us:tW)(x v:V):(us++[x]).set us.length v=us++[v]:=by simp
theorem jY (us:tW)(x:V):NX (us++[x]).length (-1)=HA us.length:=by
 unfold NX;rw[Ae,AG,HF Ud,HI<|sZ]
 congr 1
 lia
def Yn (g:Int->V):Sp:=λvs H Q _=>∃y:Int,vs=[.int y]/\Q (g y) H
def qx3:Sp:=λvs H Q _=>∃n:Int,vs=[.int n]/\0<=n/\Q (.int<|n % 7+1) H
def MQ:Sp:=λvs H Q _=>∃n:Int,vs=[.int n]/\0<=n/\∀p,H p=HD->Q (.ref p) (upd H p<|.tup [.int<|yo<|n / 7,.int<|n / 7-fw (yo<|n / 7)+1,.int<|n % 7+1])
def IV (n:Int):Int:=n-7*fw (yo<|n / 7)
theorem Nz {n:Int}(h:0<=n):0<=IV n/\IV n<371:=by have h1:=QJ<|n / 7;have h2:=Tp<|yo<|n / 7;have h3:=RZ<|yo<|n / 7;unfold IV;lia
theorem qvs (n:Int):IV n % 7=n % 7:=by unfold IV;lia
def WX:Sp:=λvs H Q _=>∃n:Int,vs=[.int n]/\0<=n/\∀H',Same H H'->Q (.int<|IV n) H'
def iG:Sp:=λvs H Q _=>∃n:Int,vs=[.int n]/\1<=n/\n<=7/\Q (.bl HG) H
def WR:Sp:=λvs H Q _=>∃f l m:Int,vs=[.int f,.int l,.int m]/\0<=f/\f<=l/\l<f+m/\Q (.bl HG) H
def AtP (H:Hp)(p:HC)(rs:uB):Prop:=∃us,H p=HA (.lst us)/\Tups H us (rs.map Qn)
theorem AtP.same {rs:uB}(h:AtP H p rs)(s:Same H H'):AtP H' p rs:=by obtain⟨us,b,a⟩:=h;exact⟨us,s _ _ b,a.same s⟩
def So:Sp:=λvs H Q _=>∃(p:HC)(wk:tL),vs=[.ref p]/\H p=HA (.lst<|wk.map V.int)/\OkW wk/\∀H',Same H H'->Q .non H'
def iE:Sp:=λvs H Q _=>∃(a:HC)(r:S2),vs=[.ref a]/\H a=HA (.tup<|Qn r)/\0<=r.1/\r.1<=r.2/\r.2<r.1+30/\r.2<364/\Q (.bl HG) H
def Sn:Sp:=λvs H Q _=>∃(p:HC)(yr:uB),vs=[.ref p]/\AtP H p yr/\OkY yr/\∀H',Same H H'->Q .non H'
def LV (r:Rw):Prop:=0<=r.1/\r.1<=r.2.1/\r.2.1<r.1+40/\(r.2.2=Aa "free" \/ r.2.2=Aa "open")
def iJ:Sp:=λvs H Q _=>∃(a:HC)(r:Rw),vs=[.ref a]/\H a=HA (.tup<|Jx r)/\LV r/\Q (.bl HG) H
def Sq:Sp:=λvs H Q _=>∃(p:HC)(rs:tZ),vs=[.ref p]/\At H p rs/\rs.length<=12/\(∀r∈rs,LV r)/\∀H',Same H H'->Q .non H'
def WW:Sp:=λvs H Q _=>∃(i:Int)(pw py:HC)(wk:tL)(yr:uB),vs=[.int i,.ref pw,.ref py]/\H pw=HA (.lst<|wk.map V.int)/\AtP H py yr/\yr.length<=100/\∀H',Same H H'->Q (.bl<|fy wk yr i) H'
def iU:Sp:=λvs H Q _=>∃(p:HC)(bs:tE),vs=[.ref p]/\H p=HA (.lst<|bs.map V.bl)/\bs.length<=1000/\∀q H',H q=HD->Same H H'->H' q=HA (.lst<|(Oh bs).map V.int)->Q (.ref q) H'
theorem dup {wk:tL}{x:Int}(nd:wk.Nodup)(h:wk[i]?=HA x):(wk.take i).contains x=HH:=by rw[Bool.eq_false_iff];intro z;rw[B2]at z;obtain⟨j,a,e⟩:=C4 z;rw[Bp]at a;rw[Ez]at e;obtain⟨c,b⟩:=Ac.mp h;exact Ba.mp nd j i (Ay a<|Nat.min_le_right _ _) c (Ay a<|Ef _ _) (by rw[e,b])
theorem oa {rs:uB}{t:tW}(h:(rs.map Qn)[i]?=HA t):∃r,rs[i]?=HA r/\t=Qn r:=by
 rw[Ai]at h;cases q:rs[i]? with|none=>rw[q]at h;cases h|some r=>rw[q]at h;cases h;exact⟨r,Z,Z⟩
noncomputable abbrev Xx (a1 a2 a3:HC):tY:=[(Aa "free_days",.ref a1),(Aa "open_days",.ref a2),(Aa "open_before",.ref a3)]
theorem T7 (f:Str)(u:V):Ij f u []=[(f,u)]:=rfl
theorem T6 (u v:V)(h:f≠g):Ij g v [(f,u)]=[(f,u),(g,v)]:=by unfold Ij;rw[HF h];rfl
theorem Xw {e:Str}(u v x:V)(h:f≠e)(a:g≠e):Ij e x [(f,u),(g,v)]=[(f,u),(g,v),(e,x)]:=by show (if f=e then _ else (f,u)::(if g=e then _ else (g,v)::Ij e x []))=_;rw[HF h,HF a];rfl
def PatAt (C:HC)(H:Hp)(p:HC)(bs:tE):Prop:=∃(dx a1 a2 a3:HC),H p=HA (.ins C dx<|Xx a1 a2 a3)/\H a1=HA (.lst<|bs.map V.bl)/\H a2=HA (.lst<|(Lw bs).map V.int)/\H a3=HA (.lst<|(Oh bs).map V.int)/\bs.length=371
theorem PatAt.same {bs:tE}(h:PatAt C H p bs)(s:Same H H'):PatAt C H' p bs:=by obtain⟨e,a,c,g,i,b,d,j,f⟩:=h;exact Hv e a c g ⟨s _ _ i,s _ _ b,s _ _ d,s _ _ j,f⟩
theorem PatAt.upd {d a b c z:HC}{bs:tE}{o:HO}(l:H p=HA (.ins C d<|Xx a b c))(f:H a=HA (.lst<|bs.map V.bl))(j:H b=HA (.lst<|(Lw bs).map V.int))(e:H c=HA (.lst<|(Oh bs).map V.int))(i:p≠z)(g:a≠z)(k:b≠z)(h:c≠z) :
  L2.upd H z o p=HA (.ins C d<|Xx a b c)/\L2.upd H z o a=HA (.lst<|bs.map V.bl)/\L2.upd H z o b=HA (.lst<|(Lw bs).map V.int)/\L2.upd H z o c=HA (.lst<|(Oh bs).map V.int) :=
 ⟨(qr i).trans l,(qr g).trans f,(qr k).trans j,(qr h).trans e⟩
def SameBut (x:HC)(H H':Hp):Prop:=∀b o,b≠x->H b=HA o->H' b=HA o
theorem SameBut.of (s:Same H H'):SameBut x H H':=λb o _ e=>s b o e
theorem SameBut.trans {f:Hp}(a:SameBut x H d)(b:SameBut x d f):SameBut x H f:=λc o n e=>b c o n<|a c o n e
variable {d q e b:HC}{a:tL}{ts:List tW}{f n y:Int}{yr:uB}{Q:VK}{r:Rw}
theorem SameBut.set (a:SameBut x H H'):SameBut x H (upd H' x o):=λb u n e=>by rw[qr n];exact a b u n e
theorem SameBut.made {u:HO}(a:SameBut x (upd (upd H d u) x o) H')(c:H x=HD)(f:H d=HD):Same H H':=λb v e =>
 a b v (Iz e c) (by rwa[qr<|Iz e c,qr<|Iz e f])
theorem SameBut.free (b:SameBut x H H')(n:q≠x)(h:H' q=HD):H q=HD:=by
 cases e:H q with|none=>rfl|some o=>rw[b q o n e]at h;cases h
def RE (x:HC)(H H' H2:Hp):Prop:=∀b o,(H b=HD\/b=x \/ ∃t,o=.tup t)->H' b=HA o->H2 b=HA o
theorem qx4 {a:Hp}(r:RE x H H' a)(t:Tups H' us ts):Tups a us ts:=by
 induction t with
 |nil=>exact .nil
 |cons h _ ih=>exact .cons (r _ _ (.inr<|.inr ⟨_,Z⟩) h) ih
def O7 (a:Adr):Sp:=λvs H Q _=>∃(x dx pw py:HC)(wk:tL)(yr:uB),vs=[.ref x,.ref pw,.ref py]/\H x=HA (.ins a.D dx [])/\H pw=HA (.lst<|wk.map V.int)/\AtP H py yr/\OkW wk/\OkY yr /\
 ∀H',SameBut x H H'->(∀H2,RE x H H' H2->PatAt a.D H2 x (II wk yr))->Q .non H'
def JS (bs:tE)(y:Int):Int:=y*IU bs 364+lb y*(IU bs 371-IU bs 364)
def Jh (bs:tE)(n:Int):Int:=JS bs (yo<|n / 7)+IU bs (IV n).toNat
def WT (a:Adr):Sp:=λvs H Q _=>∃(x:HC)(bs:tE)(y:Int),vs=[.ref x,.int y]/\PatAt a.D H x bs/\Q (.int<|JS bs y) H
def Ss (a:Adr):Sp:=λvs H Q _=>∃(x:HC)(bs:tE)(n:Int),vs=[.ref x,.int n]/\PatAt a.D H x bs/\0<=n/\∀H',Same H H'->Q (.int<|Jh bs n) H'
inductive SpOr (vs:tW) (H:Hp) (Q:VK):Prop where
 |non (e:vs=[.non]) (k:∀q,H q=HD->Q (.ref q) (upd H q<|.lst []))
 |ref (p:HC) (e:vs=[.ref p]) (k:Q (.ref p) H)
def iL:Sp:=λvs H Q _=>SpOr vs H Q
def Iq (bs:tE)(r:Rw)(e:Int):Int:=(if r.2.2=Aa "open" then e-r.1 else 0)-(Jh bs e-Jh bs r.1)
def WY (bs:tE)(rs:tZ):tL:=(An<|rs.length+1).map λk=>((rs.take k).map λr=>Iq bs r<|r.2.1+1).sum
theorem MT (bs:tE)(rs:tZ){k:Nat}(h:k<=rs.length):(WY bs rs)[k]?=HA ((rs.take k).map λr=>Iq bs r<|r.2.1+1).sum:=by unfold WY;rw[Ai,AS<|sZ];rfl
noncomputable abbrev L6 (p q z:HC):tY:=[(Aa "pattern",.ref p),(Aa "rows",.ref q),(Aa "shifts",.ref z)]
def TabAt (Cp C:HC)(H:Hp)(t:HC)(bs:tE)(rs:tZ):Prop:=∃(dx p q z:HC),H t=HA (.ins C dx<|L6 p q z)/\PatAt Cp H p bs/\At H q rs/\H z=HA (.lst<|(WY bs rs).map V.int)
theorem TabAt.same {a:HC}{t:HC}{bs:tE}(h:TabAt a C H t bs rs)(s:Same H H'):TabAt a C H' t bs rs:=by obtain⟨d,p,q,z,e,b,c,f⟩:=h;exact Hv d p q z ⟨s _ _ e,b.same s,c.same s,s _ _ f⟩
theorem P6 {l:Int}{w:Str}(h:∀r∈rs,0<=r.1)(c:0<=f):∀r∈over rs f l w,0<=r.1:=λr a=>by
 rcases As.mp a with a|a
 .obtain⟨s,b,e⟩:=Ce.mp a;have:=h s b;split at e
  .injection e with e;subst e;exact this
  .cases e
 .rcases Ax.mp a with rfl|a
  .exact c
  .obtain⟨s,b,e⟩:=Ce.mp a;have:=h s b;split at e
   .injection e with e;subst e;show 0<=max s.1 (l+1);lia
   .cases e
theorem UU (h:∀r∈rs,0<=r.1):∀r∈NP rs,0<=r.1:=by
 have step:∀(a laid:tZ),(∀r∈a,0<=r.1)->(∀r∈laid,0<=r.1)->∀r∈a.foldl (λlaid r=>over laid r.1 r.2.1 r.2.2) laid,0<=r.1:=by
  intro a
  induction a with
  |nil=>intro laid _ b;exact b
  |cons r a ih=>intro laid c b;exact ih _ (λs d=>c s<|A1 _ d)<|P6 b<|c r Am
 exact step rs [] h λ_ h=>absurd h A9
theorem YI (h:∀r∈rs,0<=r.1):∀r∈jn rs,0<=r.1:=by
 have one:∀(a:tZ)(r:Rw),(∀t∈a,0<=t.1)->0<=r.1->∀t∈Kc a r,0<=t.1:=λa r b d=>by
  rcases Bm a with rfl|⟨rs,t,rfl⟩
  .intro z hz;have:z=r:=by simpa [Kc] using hz
   rwa[this]
  .rw[Bo]at b |-;rw[Tw];intro z hz;split at hz
   .rcases As.mp hz with hz|hz
    .exact b z<|BA _ hz
    .rw[Aj.mp hz];exact b t (by simp)
   .rcases As.mp hz with hz|hz
    .exact b z hz
    .rwa[Aj.mp hz]
 have step:∀(c a:tZ),(∀r∈c,0<=r.1)->(∀r∈a,0<=r.1)->∀r∈c.foldl Kc a,0<=r.1:=by
  intro c
  induction c with
  |nil=>intro a _ b;exact b
  |cons r c ih=>intro a e b;exact ih _ (λs f=>e s<|A1 _ f)<|one _ _ b<|e r Am
 exact step rs [] h λ_ h=>absurd h A9
theorem Rx (h:∀r∈rs,0<=r.1):∀r∈ov rs,0<=r.1:=YI<|UU h
theorem Zc {c:HC}{fs:tY}(b:SameBut x H H')(a:H x=HA (.ins C c fs))(t:Tups H us ts):Tups H' us ts:=by
 induction t with
 |nil=>exact .nil
 |cons h _ ih=>exact .cons (b _ _ (λz=>by rw[z,a]at h;cases h) h) ih
def O5 (a:Adr):Sp:=λvs H Q _=>∃(x p q z y dx:HC)(bs:tE)(r:Rw)(e:Int),vs=[.ref x,.ref y,.int e]/\H x=HA (.ins a.C dx<|L6 p q z)/\PatAt a.D H p bs/\H y=HA (.tup<|Jx r)/\0<=r.1/\0<=e /\
 ∀H',Same H H'->Q (.int<|Iq bs r e) H'
def OrP (H:Hp)(v:V)(yr:uB):Prop:=(v=.non/\yr=[]) \/ ∃p,v=.ref p/\AtP H p yr
def OrR (H:Hp)(v:V)(rs:tZ):Prop:=(v=.non/\rs=[]) \/ ∃p,v=.ref p/\At H p rs
theorem orP (h:OrP H v yr)(k:∀p H1,Same H H1->AtP H1 p yr->Q (.ref p) H1):SpOr [v] H Q:=by
 rcases h with ⟨rfl,rfl⟩|⟨p,rfl,t⟩
 .exact .non rfl λq a=>k q _ (qx a) ⟨[],qk,.nil⟩
 .exact .ref p rfl (k p H (Same.refl H) t)
theorem orR (h:OrR H v rs)(k:∀p H1,Same H H1->At H1 p rs->Q (.ref p) H1):SpOr [v] H Q:=by
 rcases h with ⟨rfl,rfl⟩|⟨p,rfl,t⟩
 .exact .non rfl λq a=>k q _ (qx a) ⟨[],qk,.nil⟩
 .exact .ref p rfl (k p H (Same.refl H) t)
theorem OrR.but {fs:tY}(h:OrR H v rs)(c:H x=HA (.ins C e fs))(b:SameBut x H H'):OrR H' v rs:=by
 rcases h with h|⟨p,rfl,us,a,d⟩
 .exact .inl h
 .exact .inr ⟨p,Z,us,b _ _ (λz=>by rw[z,c]at a;cases a) a,Zc b c d⟩
theorem OrR.same (h:OrR H v rs)(s:Same H H'):OrR H' v rs:=by
 rcases h with h|⟨p,rfl,us,b,a⟩
 .exact .inl h
 .exact .inr ⟨p,Z,us,s _ _ b,a.same s⟩
def O4 (a:Adr):Sp:=λvs H Q _=>∃(x dx pw:HC)(vy vr:V)(wk:tL)(yr:uB)(rs:tZ),vs=[.ref x,.ref pw,vy,vr]/\H x=HA (.ins a.C dx [])/\H pw=HA (.lst<|wk.map V.int)/\OrP H vy yr/\OrR H vr rs/\OkW wk/\OkY yr/\rs.length<=12/\(∀r∈rs,LV r) /\
 ∀H',SameBut x H H'->(∀H2,RE x H H' H2->TabAt a.D a.C H2 x (II wk yr) (ov rs))->Q .non H'
def Jd (bs:tE)(rs:tZ)(n:Int):Bool:=match rs[IR (ends rs) n]? with
 |some r=>if r.1<=n then decide (r.2.2=Aa "free") else bs.getD (IV n).toNat HG
 |none=>bs.getD (IV n).toNat HG
theorem opB {bs:tE}(hl:bs.length=371) : -(2 ^ 64)<IU bs 364/\IU bs 364<2 ^ 64:=by have:=VZ bs 364;lia
theorem opD {bs:tE}(hl:bs.length=371) : -(2 ^ 64)<IU bs 371-IU bs 364/\IU bs 371-IU bs 364<2 ^ 64:=by have:=VZ bs 364;have:=VZ bs 371;lia
noncomputable def cell (ns:tL)(k:Int):Int:=ns.getD k.toNat 0
theorem OH {k:Int}(c:0<=k)(h:k<((a.map V.int).length:Int)):JN (a.map V.int) k=HA (V.int<|cell a k):=by rw[Ab]at h;have b:k.toNat<a.length:=(Int.toNat_lt c).mpr h;refine W3 (j:=k.toNat) ?_ (C5 c).symm;rw[Ai,Ad b];unfold cell;rw[Ak,Ad b];rfl
theorem OC {k:Int}(h:¬k<((a.map V.int).length:Int)):cell a k=0:=by rw[Ab]at h;unfold cell;rw[Ak,AH<|Dq.mp<|Bh (B6.mp h)<|Int.self_le_toNat k];rfl
def S4 (K:Ag):Sp:=λvs H Q _=>∃(a:HC)(ns:tL)(k:Int),vs=[.ref a,.int k]/\SqL K H a (ns.map V.int)/\0<=k/\Q (.int<|cell ns k) H
theorem jO (h0:0<=n-7*fw y)(h1:n-7*fw y<7*wk y):IV n=n-7*fw y:=by have e:yo (n / 7)=y:=je sZ (by rw[Tp];lia);unfold IV;rw[e]
def YB (wk:tL)(yr:uB)(rs:tZ)(n:Int):Bool:=if Ir (Aa "") rs n=Aa "" then fy wk yr (IV n) else decide (Ir (Aa "") rs n=Aa "free")
theorem qx5 (a:W)(rs:List (IM W))(r:IM W)(d:Int):Ir a (rs++[r]) d=if r.1<=d/\d<=r.2.1 then r.2.2 else Ir a rs d:=by unfold Ir;rw[CP];rfl
theorem Wo [Decidable c](a:¬c)(h:A):if (!decide c)=HG then A else B:=by rwa[HM a]
theorem qvt (yr:uB)(n:Int):R6 yr n=yr.any λr=>decide (r.1<=n) && decide (n<=r.2):=by unfold R6;rfl
theorem Qk {wk:tL}(b:0<=n):(II wk yr).getD (IV n).toNat HG=fy wk yr (IV n):=by obtain⟨a,_⟩:=Nz b;unfold II;rw[Ak,Ai,AS<|sZ];show fy wk yr ((IV n).toNat:Int)=_;rw[C5 a]
theorem qvu {wk:tL}(f:∀r∈rs,LV r)(l:0<=n):Jd (II wk yr) (ov rs) n=YB wk yr rs n:=by
 obtain⟨ap,i⟩:=Mt λr h=>(f r h).2.1;have g:=λa=>(i a n).symm.trans<|qpt a n<|Ti ap;have j:=qvk (λw=>w≠Aa "") n rs (Aa "free") Uk λs k=>by rcases (f s k).2.2.2 with z|z <;>rw[z] <;>decide +kernel
 unfold Jd YB;rw[Qk l];have b:=g<|Aa "";have d:=g<|Aa "free";cases e:(ov rs)[IR (ends<|ov rs) n]? with
 |none =>rw[e]at b;rw[HI b]
 |some r =>
  rw[e]at b d;dsimp only at b d |-;by_cases c:r.1<=n
  .rw[HI c]at b d;rw[HI c,HF (by rwa[b,<- d]),b]
  .rw[HF c]at b;rw[HF c,HI b]
theorem rb {n:Nat}(h:n<=1000) : -2 ^ 62<=(n:Int)/\(n:Int)<2 ^ 62:=sZ
theorem eV {p G:Int->Prop}(m:(∀F,p F->G F)->R)(l:∀F,p F->G F):R:=m l
theorem TabAt.ins {t:HC}{bs:tE}(h:TabAt b C H t bs rs):∃a p q z,H t=HA (.ins C a<|L6 p q z):=by obtain⟨a,p,q,z,c,_⟩:=h;exact Hv a p q z c
theorem ph {a:HC}(nx:H x=HD)(nd:H a=HD):Same H (upd (upd H a<|.own x) x<|.ins C a []):=λb u e=>by rwa[qr<|Iz e nx,qr<|Iz e nd]
theorem rK:OkY []:=⟨AR _,λ_ h=>absurd h A9⟩
theorem X0 (a:∀r∈rs,LV r):Ap (ov rs):=(Mt λr b=>(a r b).2.1).1
theorem qsn (bs:tE)(y:Int):JS bs (y+1)=JS bs y+IU bs 364+(wk y-52)*(IU bs 371-IU bs 364):=by
 have e:lb (y+1)=lb y+(wk y-52):=YC y;unfold JS
 rw[e,Int.add_mul,Int.add_mul,Int.one_mul];lia
theorem XG (bs:tE)(b:0<=n-7*fw y)(a:n-7*fw y<7*wk y):Jh bs n=JS bs y+IU bs (n-7*fw y).toNat:=by have e:yo (n / 7)=y:=je sZ (by rw[Tp];lia);unfold Jh;rw[jO b a,e]
theorem XU {bs:tE}(hl:bs.length=371){k:Nat}(h:k<371):IU bs (k+1)=IU bs k+(if bs.getD k HG=HG then 0 else 1):=by
 have a:k<bs.length:=by lia
 rw[oQ<|Ad a,Ak,Ad a];show (if bs[k]=HG then _ else _)=IU bs k+(if bs[k]=HG then 0 else 1);split <;>lia
theorem pf {bs:tE}(f:bs.length=371)(h:0<=n):Jh bs (n+1)=Jh bs n+(if bs.getD (IV n).toNat HG=HG then 0 else 1):=by
 have l1:=QJ<|n / 7;have fn:=Tp<|yo<|n / 7;have w3:=RZ<|yo<|n / 7;have b:0<=n-7*fw (yo<|n / 7):=by lia
 have a:n-7*fw (yo<|n / 7)<7*wk (yo<|n / 7):=by lia
 have e:=jO b a;rw[XG bs b a,e];generalize yo (n / 7)=y at *;have st:=XU f (k:=(n-7*fw y).toNat) sZ;by_cases c:n+1-7*fw y<7*wk y
 .rw[XG bs (n:=n+1) (y:=y) sZ c,show (n+1-7*fw y).toNat=(n-7*fw y).toNat+1 by lia,st];lia
 .have d:n+1-7*fw (y+1)=0:=by lia
  have wy:=RZ<|y+1;rw[XG bs (n:=n+1) (y:=y+1) sZ<|sZ,d,qsn];have z:IU bs (0:Int).toNat=0:=by unfold IU;rfl
  rw[z];rcases (by lia:wk y=52\/wk y=53) with w|w
  .rw[show (n-7*fw y).toNat=363 by lia]at st |-;have st:IU bs 364=_:=st;rw[w,show (52:Int)-52=0 from Z,Int.zero_mul];lia
  .rw[show (n-7*fw y).toNat=370 by lia]at st |-;have st:IU bs 371=_:=st;rw[w,show (53:Int)-52=1 from Z,Int.one_mul];lia
theorem qp0 (bs:tE):Jh bs 0=0:=by
 rw[XG bs (n:=0) (y:=0) Ud Ud];rw[show ((0:Int)-7*fw 0).toNat=0 by decide];have z:IU bs 0=0:=by unfold IU;rfl
 unfold JS
 rw[z,show lb 0=0 by decide,Int.zero_mul,Int.zero_mul];rfl
def LW (bs:tE):tZ->Int->Int
 | [],_=>0
 |r::rs,n=>if r.2.1<n then Iq bs r (r.2.1+1)+LW bs rs n else if r.1<n then Iq bs r n else 0
def Ie (bs:tE)(rs:tZ)(n:Int):Int:=Jh bs n+LW bs rs n
theorem qvv (h:Dis (r::rs))(c:¬r.2.1<n):IR (ends rs) n=0:=Zu λe a=>by obtain⟨s,b,rfl⟩:=AQ.mp a;have:=h.later b;show ¬s.2.1<n;lia
theorem Zb (bs:tE)(n:Int):∀{rs:tZ},Dis rs->((rs.take<|IR (ends rs) n).map λr=>Iq bs r<|r.2.1+1).sum+(match rs[IR (ends rs) n]? with|some r=>if r.1<n then Iq bs r n else 0|none=>0)=LW bs rs n
 | [],_=>rfl
 |r::rs,h=>by
  have a:=Zb bs n h.tail;show ((List.take (IR (r.2.1::ends rs) n)<|r::rs).map λr=>Iq bs r<|r.2.1+1).sum+(match (r::rs)[IR (r.2.1::ends rs) n]? with|some r=>if r.1<n then Iq bs r n else 0|none=>0)=if r.2.1<n then Iq bs r (r.2.1+1)+LW bs rs n else if r.1<n then Iq bs r n else 0;rw[Tz];by_cases c:r.2.1<n
  .rw[HI c,HI c,<- a,List.take_succ_cons,AW,List.sum_cons,Int.add_assoc];rfl
  .rw[HF c,HF c,qvv h c];exact BD _
theorem jX {bs:tE}:∀{rs:tZ},(∀r∈rs,n<=r.1)->(∀r∈rs,r.1<=r.2.1)->LW bs rs n=0
 | [],_,_=>rfl
 |r::rs,h,h2=>by have a:=h r Am;have b:=h2 r Am;unfold LW;rw[HF<|sZ,HF<|sZ]
theorem Za {bs:tE}(h:Dis (r::rs)):Jd bs (r::rs) n=if r.2.1<n then Jd bs rs n else if r.1<=n then decide (r.2.2=Aa "free") else bs.getD (IV n).toNat HG:=by
 unfold Jd;show (match (r::rs)[IR (r.2.1::ends rs) n]? with|some r=>_|none=>_)=_;rw[Tz];by_cases c:r.2.1<n
 .rw[HI c,HI c];rfl
 .rw[HF c,HF c,qvv h c];rfl
theorem qx6 {w:Str}(h:w=Aa "free" \/ w=Aa "open"):(if w=Aa "open" then (1:Int) else 0)=if decide (w=Aa "free")=HG then 0 else 1:=by
 rcases h with e|e <;>rw[e]
 .rw[HF Uk,HI Uk]
 .rw[HI Z,HF Uk]
theorem MS {bs:tE}(h:r.2.2=Aa "free" \/ r.2.2=Aa "open")(n:Int):Jh bs (n+1)+Iq bs r (n+1)=Jh bs n+Iq bs r n+(if decide (r.2.2=Aa "free")=HG then 0 else 1):=by rw[<- qx6 h];unfold Iq;split <;>lia
theorem qp1 (bs:tE)(r:Rw):Iq bs r r.1=0:=by unfold Iq;split <;>lia
theorem qvw {bs:tE}(b:bs.length=371){n:Int}(f:0<=n):∀{rs:tZ},Dis rs->(∀r∈rs,r.2.2=Aa "free" \/ r.2.2=Aa "open")->Ie bs rs (n+1)=Ie bs rs n+(if Jd bs rs n=HG then 0 else 1)
 | [],_,_=>by have:=pf b f;show Jh bs (n+1)+0=Jh bs n+0+(if bs.getD (IV n).toNat HG=HG then 0 else 1);lia
 |r::rs,h,hw=>by
  have l:=qvw b f h.tail λs d=>hw s<|A1 _ d;have ok:=h.ok r Am;have g:=hw r Am;have pst:=pf b f;rw[Za h];unfold Ie at l |-;show Jh bs (n+1)+(if r.2.1<n+1 then Iq bs r (r.2.1+1)+LW bs rs (n+1) else if r.1<n+1 then Iq bs r (n+1) else 0)=Jh bs n+(if r.2.1<n then Iq bs r (r.2.1+1)+LW bs rs n else if r.1<n then Iq bs r n else 0)+_;by_cases c:r.2.1<n
  .rw[HI c,HI c,HI<|sZ];lia
  .rw[HF c,HF c];have st:=MS (bs:=bs) g n;have e:(if r.1<n then Iq bs r n else 0)=if r.1<=n then Iq bs r n else 0:=by
    by_cases z:r.1<n
    .rw[HI z,HI<|sZ]
    .rw[HF z];by_cases i:r.1<=n
     .rw[HI i,show n=r.1 by lia,qp1]
     .rw[HF i]
   rw[e];by_cases j:r.2.1<n+1
   .have k:r.2.1=n:=by lia
    rw[HI j,jX (λs d=>by have:=(h.later d).1;lia) h.tail.ok,HI (show r.1<=n by lia),HI (show r.1<=n by lia),k];lia
   .rw[HF j];by_cases a:r.1<=n
    .rw[HI (show r.1<n+1 by lia),HI a,HI a];lia
    .rw[HF (show ¬r.1<n+1 by lia),HF a,HF a];lia
theorem oG {bs:tE}(h:∀r∈rs,0<=r.1)(a:∀r∈rs,r.1<=r.2.1):Ie bs rs 0=0:=by unfold Ie;rw[qp0,jX h a];rfl
theorem P4 {P:Str->Prop}{l:Int}{w:Str}(h:∀r∈rs,P r.2.2)(c:P w):∀r∈over rs f l w,P r.2.2:=λr a=>by
 rcases As.mp a with a|a
 .obtain⟨s,b,e⟩:=Ce.mp a;have:=h s b;split at e
  .injection e with e;subst e;exact this
  .cases e
 .rcases Ax.mp a with rfl|a
  .exact c
  .obtain⟨s,b,e⟩:=Ce.mp a;have:=h s b;split at e
   .injection e with e;subst e;exact this
   .cases e
theorem UT {P:Str->Prop}(h:∀r∈rs,P r.2.2):∀r∈NP rs,P r.2.2:=by
 have step:∀(a laid:tZ),(∀r∈a,P r.2.2)->(∀r∈laid,P r.2.2)->∀r∈a.foldl (λlaid r=>over laid r.1 r.2.1 r.2.2) laid,P r.2.2:=by
  intro a
  induction a with
  |nil=>intro laid _ b;exact b
  |cons r a ih=>intro laid c b;exact ih _ (λs d=>c s<|A1 _ d)<|P4 b<|c r Am
 exact step rs [] h λ_ h=>absurd h A9
theorem YG {P:Str->Prop}(h:∀r∈rs,P r.2.2):∀r∈jn rs,P r.2.2:=by
 have one:∀(a:tZ)(r:Rw),(∀t∈a,P t.2.2)->P r.2.2->∀t∈Kc a r,P t.2.2:=λa r b d=>by
  rcases Bm a with rfl|⟨rs,t,rfl⟩
  .intro z hz;have:z=r:=by simpa [Kc] using hz
   rwa[this]
  .rw[Bo]at b |-;rw[Tw];intro z hz;split at hz
   .rcases As.mp hz with hz|hz
    .exact b z<|BA _ hz
    .rwa[Aj.mp hz]
   .rcases As.mp hz with hz|hz
    .exact b z hz
    .rwa[Aj.mp hz]
 have step:∀(c a:tZ),(∀r∈c,P r.2.2)->(∀r∈a,P r.2.2)->∀r∈c.foldl Kc a,P r.2.2:=by
  intro c
  induction c with
  |nil=>intro a _ b;exact b
  |cons r c ih=>intro a e b;exact ih _ (λs f=>e s<|A1 _ f)<|one _ _ b<|e r Am
 exact step rs [] h λ_ h=>absurd h A9
theorem Xz {P:Str->Prop}(h:∀r∈rs,P r.2.2):∀r∈ov rs,P r.2.2:=YG<|UT h
theorem Ot {bs:tE}(h:Dis rs)(e:rs[IR (ends rs) n]?=HA r)(c:r.1<n):Jh bs n+((rs.take<|IR (ends rs) n).map λr=>Iq bs r<|r.2.1+1).sum+Iq bs r n=Ie bs rs n:=by have z:=Zb bs n h;rw[e]at z;dsimp only at z;rw[HI c]at z;unfold Ie;rw[<- z,Int.add_assoc]
theorem Ov {bs:tE}(h:Dis rs)(e:rs[IR (ends rs) n]?=HA r)(c:¬r.1<n):Jh bs n+((rs.take<|IR (ends rs) n).map λr=>Iq bs r<|r.2.1+1).sum=Ie bs rs n:=by have z:=Zb bs n h;rw[e]at z;dsimp only at z;rw[HF c,Cw]at z;unfold Ie;rw[<- z]
theorem Ou {bs:tE}(h:Dis rs)(e:rs[IR (ends rs) n]?=HD):Jh bs n+((rs.take<|IR (ends rs) n).map λr=>Iq bs r<|r.2.1+1).sum=Ie bs rs n:=by have z:=Zb bs n h;rw[e]at z;dsimp only at z;rw[Cw]at z;unfold Ie;rw[<- z]
def Sg (a:Adr):Sp:=λvs H Q _=>∃(x:HC)(bs:tE)(rs:tZ)(n:Int),vs=[.ref x,.int n]/\TabAt a.D a.C H x bs rs/\Ap rs/\(∀r∈rs,0<=r.1)/\0<=n/\∀H',Same H H'->Q (.int<|Ie bs rs n) H'
def way (ns:tL):Int:=cell ns 8 / 13 % 6
theorem SI {p G:Hp->Prop}(m:(∀F,p F->G F)->R)(l:∀F,p F->G F):R:=m l
theorem Z7 {bs:tE}(a:bs.length=371):∀{n k:Nat},k<=n->n<=371->IU bs k<=IU bs n
 |0,k,h,_=>by rw[Nat.le_zero.mp h];exact AZ _
 |n+1,k,h,h2=>by
  by_cases e:k=n+1
  .rw[e];exact AZ _
  .have:=Z7 a (n:=n) (k:=k) sZ sZ;have st:=XU a (k:=n) sZ;split at st <;>lia
theorem qso (bs:tE):IU bs 0=0:=by unfold IU;rfl
theorem qvx {bs:tE}(a:bs.length=371){i:Int}(d:0<=i):∀{n:Nat},n<=371->i<IU bs n->∃w<n,IU bs w=i/\bs.getD w HG=HH
 |0,_,h=>by rw[qso]at h;lia
 |n+1,hn,h=>by
  by_cases c:i<IU bs n
  .obtain⟨w,w1,b⟩:=qvx a d (n:=n) sZ c;exact⟨w,sZ,b⟩
  .have st:=XU a (k:=n) sZ;cases e:bs.getD n HG with|true=>rw[e,HI Z]at st;lia|false=>rw[e,HF Ud]at st;exact⟨n,sZ,sZ,e⟩
theorem M4 {bs:tE}(a:bs.length=371):∀{n:Nat},n<=371->((((An n).filter λi=>!(bs.getD i HG)).length:Nat):Int)=IU bs n
 |0,_=>by rw[qso];rfl
 |n+1,h=>by
  have ih:=M4 a (n:=n) sZ;have st:=XU a (k:=n) sZ;rw[Bs,Cs,Ae];cases e:bs.getD n HG with|true =>rw[e,HI Z]at st;have:([n].filter λi=>!(bs.getD i HG))=[]:=CZ (by rw[e];decide);rw[this];simp only[Ee];lia|false =>rw[e,HF Ud]at st;have:([n].filter λi=>!(bs.getD i HG))=[n]:=Cz (by rw[e];rfl);rw[this];simp only[AG];lia
variable {m d e c0:Int}{f:Int->Int}{g:tU}{suf pre:tZ}
theorem Rz {bs:tE}(c:bs.length=371){w:Nat}(a:bs.getD w HG=HH):∀{n:Nat},n<=371->w<n->((An n).filter λi=>!(bs.getD i HG))[(IU bs w).toNat]?=HA w
 |0,_,h=>absurd h (Bj _)
 |n+1,hn,h=>by
  rw[Bs,Cs];by_cases e:w=n
  .subst e;have ll:=M4 c (n:=w) sZ;have:([w].filter λi=>!(bs.getD i HG))=[w]:=Cz (by rw[a];rfl);rw[this,AV<|sZ,show (IU bs w).toNat-((An w).filter λi=>!(bs.getD i HG)).length=0 by lia];rfl
  .have b:=Rz c a (n:=n) sZ sZ;rwa[AB (Ac.mp b).1]
theorem UI {bs:tE}(a:bs.length=371){w:Nat}(h:w<371)(b:bs.getD w HG=HH):(Lw bs)[(IU bs w).toNat]?=HA (w:Int):=by unfold Lw;rw[a,Ai,Rz a b (Al _) h];rfl
theorem Mq {bs:tE}(hl:bs.length=371)(y:Int):JS bs (y+1)=JS bs y+IU bs (7*wk y).toNat:=by
 rw[qsn];rcases (by have:=RZ y;lia:wk y=52\/wk y=53) with w|w
 .rw[w,show (52:Int)-52=0 from Z,Int.zero_mul,show ((7:Int)*52).toNat=364 from Z,Cw]
 .rw[w,show (53:Int)-52=1 from Z,Int.one_mul,show ((7:Int)*53).toNat=371 from Z];lia
theorem UB {bs:tE}(b:bs.length=371)(ho:0<IU bs 364)(y:Int):JS bs y<JS bs (y+1):=by have a:=RZ y;have m:=Z7 b (k:=364) (n:=(7*wk y).toNat) sZ sZ;rw[Mq b];lia
theorem UC (bs:tE)(k:Int):JS bs (17*k)=k*JS bs 17:=by
 have e:lb (17*k)=3*k:=by unfold lb;lia
 have a:lb 17=3:=by decide
 unfold JS
 rw[e,a,Int.mul_add,<- Int.mul_assoc,<- Int.mul_assoc,Int.mul_comm k 17,Int.mul_comm k 3]
theorem P3 {bs:tE}(d:bs.length=371)(ho:0<IU bs 364):0<JS bs 17/\JS bs 17<1073741824:=by
 have c:lb 17=3:=by decide
 have a:=VZ bs 364;have b:=VZ bs 371;have m:=Z7 d (k:=364) (n:=371) sZ sZ;unfold JS
 rw[c];lia
theorem T8 {bs:tE}(b:bs.length=371)(h:0<=y)(h1:JS bs y<=m)(g:m<JS bs (y+1)):∃w:Nat,(Lw bs)[(m-JS bs y).toNat]?=HA (w:Int)/\0<=7*fw y+(w:Int)/\bs.getD (IV<|7*fw y+(w:Int)).toNat HG=HH/\Jh bs (7*fw y+(w:Int))=m:=by
 rw[Mq b]at g;have a:=RZ y;have f0:=YS h;obtain⟨w,_,d,e⟩:=qvx b (i:=m-JS bs y) sZ (n:=(7*wk y).toNat) sZ sZ;have f:0<=7*fw y+(w:Int)-7*fw y:=by lia
 have c:7*fw y+(w:Int)-7*fw y<7*wk y:=by lia
 refine⟨w,?_,sZ,?_,?_⟩
 .rw[<- d];exact UI b sZ e
 .rwa[jO f c,show (7*fw y+(w:Int)-7*fw y).toNat=w by lia]
 .rw[XG bs f c,show (7*fw y+(w:Int)-7*fw y).toNat=w by lia,d];lia
structure Cnt (f:Int->Int)(g:tU):Prop where
 st:∀n,0<=n->f (n+1)=f n+(if g n=HG then 0 else 1)
theorem Cnt.mono (c:Cnt f g)(a:0<=n):∀k:Nat,f n<=f (n+k)
 |0=>by rw[DV,Cw];exact AZ _
 |k+1=>by have ih:=c.mono a k;have s:=c.st (n+k) sZ;rw[show n+((k+1:Nat):Int)=n+k+1 by lia,s];split <;>lia
theorem Cnt.le (c:Cnt f g)(a:0<=n)(h:n<=m):f n<=f m:=by
 have:=c.mono a (m-n).toNat
 rwa [show n+((m-n).toNat:Int)=m by lia]at this
theorem Cnt.lt (c:Cnt f g)(a:0<=m)(h:f n<f m):n<m:=by
 by_cases z:n<m
 .exact z
 .have:=c.le a<|B6.mp z;lia
theorem Cnt.ge (c:Cnt f g)(a:0<=d)(o:g d=HH)(h:f n<=f d):n<=d:=by
 by_cases z:n<=d
 .exact z
 .have s:=c.st d a;rw[o,HF Ud]at s;have:=c.le (n:=d+1) (m:=n) sZ sZ;lia
theorem Cnt.free (c:Cnt f g)(j:0<=n)(h:f d=f n)(i:n<=e)(h2:e<d):g e=HG:=by
 cases o:g e with|true=>rfl|false =>have s:=c.st e sZ;rw[o,HF Ud]at s;have a:=c.le j i;have b:=c.le (n:=e+1) (m:=d) sZ sZ;lia
theorem Xy {bs:tE}(a:bs.length=371):Cnt (Jh bs) (λn=>bs.getD (IV n).toNat HG):=⟨λ_ h=>pf a h⟩
theorem L7 {bs:tE}(b:bs.length=371)(ap:Ap rs)(a:∀r∈rs,r.2.2=Aa "free" \/ r.2.2=Aa "open"):Cnt (Ie bs rs) (Jd bs rs):=⟨λ_ h=>qvw b h (Ti ap) a⟩
theorem Wz {bs:tE}{n:Int}{suf:tZ}:∀{pre:tZ},(∀r∈pre,r.2.1<n)->LW bs (pre++suf) n=(pre.map λr=>Iq bs r<|r.2.1+1).sum+LW bs suf n
 | [],_=>(BD _).symm
 |r::pre,h=>by have b:=Wz (bs:=bs) (suf:=suf) (pre:=pre) λs a=>h s<|A1 _ a;show (if r.2.1<n then Iq bs r (r.2.1+1)+LW bs (pre++suf) n else _)=_;rw[HI<|h r Am,b,AW,List.sum_cons,Int.add_assoc]
theorem jN {bs:tE}{n:Int}{suf:tZ}:∀{pre:tZ},Dis (pre++suf)->(∀r∈pre,r.2.1<n)->Jd bs (pre++suf) n=Jd bs suf n
 | [],_,_=>rfl
 |r::pre,d,h=>by have b:=jN (bs:=bs) (suf:=suf) (pre:=pre) d.tail λs a=>h s<|A1 _ a;show Jd bs (r::(pre++suf)) n=_;have d':Dis (r::(pre++suf)):=d;rw[Za d',HI<|h r Am,b]
theorem ZH {bs:tE}(h:∀r∈suf,n<=r.1)(ok:∀r∈suf,r.1<=r.2.1):LW bs suf n=0:=jX h ok
theorem SO {bs:tE}(d:Dis suf)(h:∀r∈suf,n<r.1):Jd bs suf n=bs.getD (IV n).toNat HG:=by
 cases suf with|nil=>rfl|cons r suf =>have a:=h r Am;have b:=d.ok r Am;rw[Za d,HF<|sZ,HF<|sZ]
theorem Qe {bs:tE}{d lo:Int}(u:bs.length=371)(D:Dis (pre++suf))(h0:0<=lo)(j:∀r∈pre,r.2.1<lo)(k:∀r∈suf,lo<=r.1)(p:Ie bs (pre++suf) lo<=m)(h:∀r∈suf,m<Ie bs (pre++suf) r.1)
  (w:0<=d)(i:bs.getD (IV d).toNat HG=HH)(l:Jh bs d=m-(pre.map λr=>Iq bs r<|r.2.1+1).sum):Jd bs (pre++suf) d=HH/\Ie bs (pre++suf) d=m:=by
 have b:Dis suf:=⟨λr a=>D.ok r<|A3 _ a,(Bg.mp D.pw).2.1⟩;have P:=Xy u;have c:∀n,lo<=n->(∀r∈suf,n<=r.1)->Ie bs (pre++suf) n=Jh bs n+(pre.map λr=>Iq bs r<|r.2.1+1).sum:=λn t o=>by unfold Ie;rw[Wz<|λr a=>Bd (j r a) t,ZH o b.ok,Cw]
 rw[c lo (AZ _) k]at p;have e:lo<=d:=P.ge w i sZ;have f:∀r∈suf,d<r.1:=λr a=>by
  have z:=h r a;cases suf with
  |nil=>cases a
  |cons s suf =>
   have v:=h s Am;have x:=k s Am;rw[c s.1 x (λq g=>by
    rcases Ax.mp g with rfl|g
    .exact AZ _
    .have:=(b.later g).1;have:=b.ok s Am;lia)]at v
   have ds:d<s.1:=P.lt sZ sZ;rcases Ax.mp a with rfl|a
   .exact ds
   .have:=(b.later a).1;have:=b.ok s Am;lia
 refine⟨?_,?_⟩
 .rwa[jN D<|λr a=>Bd (j r a) e,SO b f]
 .rw[c d e<|λr a=>Do<|f r a,l];lia
theorem PQ {bs:tE}(D:Dis (pre++r::suf))(p:r.2.2=Aa "free" \/ r.2.2=Aa "open")(b0:Ie bs (pre++r::suf) r.1<=m)(b1:m<Ie bs (pre++r::suf) (r.2.1+1)) :
  r.1<=r.1+m-Ie bs (pre++r::suf) r.1/\Jd bs (pre++r::suf) (r.1+m-Ie bs (pre++r::suf) r.1)=HH/\Ie bs (pre++r::suf) (r.1+m-Ie bs (pre++r::suf) r.1)=m:=by
 have b:Dis (r::suf):=⟨λq a=>D.ok q<|A3 _ a,(Bg.mp D.pw).2.1⟩;have ok:=b.ok r Am;have i:∀n,r.1<=n->∀q∈pre,q.2.1<n:=λn z q a=>Bd ((Bg.mp D.pw).2.2 q a r Am) z;have at0:Ie bs (pre++r::suf) r.1=Jh bs r.1+(pre.map λr=>Iq bs r<|r.2.1+1).sum:=by
  unfold Ie;rw[Wz<|i _<|AZ _,ZH (λq a=>by
   rcases Ax.mp a with rfl|a
   .exact AZ _
   .have:=(b.later a).1;lia) b.ok,Cw]
 have e:∀n,r.1<=n->n<=r.2.1+1->Ie bs (pre++r::suf) n=Jh bs n+((pre.map λr=>Iq bs r<|r.2.1+1).sum+Iq bs r n):=λn l _=>by
  unfold Ie;rw[Wz<|i n l];show _+(_+(if r.2.1<n then Iq bs r (r.2.1+1)+LW bs suf n else if r.1<n then Iq bs r n else 0))=_;by_cases c:r.2.1<n
  .rw[HI c,ZH (λq a=>by have:=(b.later a).1;lia) b.tail.ok,show r.2.1+1=n by lia,Cw]
  .rw[HF c];by_cases j:r.1<n
   .rw[HI j]
   .rw[HF j,show n=r.1 by lia,qp1]
 have g:∀n,Jh bs n+Iq bs r n=Jh bs r.1+(if r.2.2=Aa "open" then n-r.1 else 0):=λn=>by unfold Iq;lia
 have d:r.2.2=Aa "open" := by
  rcases p with z|z
  .have o:=e (r.2.1+1) sZ<|AZ _;have h:=g<|r.2.1+1;rw[HF (by rw[z];decide +kernel)]at h;lia
  .exact z
 have o:=e (r.2.1+1) sZ<|AZ _;have h:=g<|r.2.1+1;rw[HI d]at h;have f:r.1<=r.1+m-Ie bs (pre++r::suf) r.1:=by lia
 have n1:r.1+m-Ie bs (pre++r::suf) r.1<=r.2.1:=by lia
 refine⟨f,?_,?_⟩
 .rw[jN D<|i _ f,Za b,HF<|sZ,HI f,d];exact HM Uk
 .have k:=g<|r.1+m-Ie bs (pre++r::suf) r.1;rw[HI d]at k;rw[e _ f<|sZ];lia
theorem qvy {js:tP}(nd:js.Nodup):∀{is:List (Int×Int)},(∀i∈is,i.2<i.1+42)->is.length<js.length->∃j∈js,∀i∈is,¬(i.1<=c0+42*(j:Int)/\c0+42*(j:Int)<=i.2):=by
 intro is
 induction is generalizing js with
 |nil =>intro _ h;obtain⟨j,c⟩:=List.exists_mem_of_length_pos<|CF (AR _) h;exact⟨j,c,λi m=>absurd m A9⟩
 |cons i is ih =>
  intro h r;have m:=h i Am;let p:Nat->Bool:=λj=>!(decide (i.1<=c0+42*(j:Int)) && decide (c0+42*(j:Int)<=i.2));have n:∀{j:Nat},p j=HH->i.1<=c0+42*(j:Int)/\c0+42*(j:Int)<=i.2:=λ{j} z=>by have z:(!(decide (i.1<=c0+42*(j:Int)) && decide (c0+42*(j:Int)<=i.2)))=HH:=z;rwa[Bool.not_eq_false',B7,decide_eq_true_iff,decide_eq_true_iff]at z
  have g:∀{ks:tP},ks.Nodup->ks.length<=(ks.filter p).length+1:=λ{ks} f=>by
   induction ks with
   |nil=>exact AR _
   |cons k ks ik =>
    rw[C2]at f;cases e:p k with
    |true =>rw[Cz e,AA,AA];have:=ik f.2;lia
    |false =>
     rw[CZ (by rw[e];decide),AA];have all:ks.filter p=ks:=List.filter_eq_self.mpr λj c=>by
      cases s:p j with
      |true=>rfl
      |false =>
       have a:=n e;have b:=n s;have:j=k:=by lia
       rw[this]at c;exact absurd c f.1
     rw[all];exact Al _
  have:=g nd;rw[AA]at r;obtain⟨j,c,t⟩:=ih (js:=js.filter p) (nd.filter p) (λq d=>h q<|A1 _ d) sZ;obtain⟨o,l⟩:=Cb.mp c;refine⟨j,o,λq d=>?_⟩;rcases Ax.mp d with rfl|d
  .intro z;have:p j=HH:=by show (!(decide (q.1<=c0+42*(j:Int)) && decide (c0+42*(j:Int)<=q.2)))=HH;rw[HJ z.1,HJ z.2];rfl
   rw[this]at l;cases l
  .exact t q d
theorem qvz:∀{xs ys:tL},xs.Nodup->(∀x∈xs,x∈ys)->xs.length<=ys.length
 | [],_,_,_=>AR _
 |x::xs,ys,nd,h=>by rw[C2]at nd;have a:=h x Am;have:=qvz (xs:=xs) (ys:=ys.erase x) nd.2 λy b=>(List.mem_erase_of_ne (λz:y=x=>nd.1 (by rwa[<- z]))).mpr<|h y<|A1 _ b;rw[List.length_erase_of_mem a]at this;have p:0<ys.length:=List.length_pos_of_mem a;rw[AA];lia
theorem qv0 {wk:tL}(ok:OkW wk):∃w:Int,0<=w/\w<7/\wk.contains (w+1)=HH:=by
 by_cases h:∃w:Int,0<=w/\w<7/\wk.contains (w+1)=HH
 .exact h
 .exfalso;have all:∀x∈[(1:Int),2,3,4,5,6,7],x∈wk:=λx a=>by
   have b:1<=x/\x<=7:=by simp only[Ax,A9,or_false]at a;lia
   cases e:wk.contains x with|true=>exact B2.mp e|false=>exact absurd ⟨x-1,sZ,sZ,by rwa[show x-1+1=x by lia]⟩ h
  have:=qvz Ud all;have:=ok.len;simp only[AA,Ee]at *;lia
theorem qv1 {wk:tL}{i w:Int}(b:wk.contains (w+1)=HH)(e:i % 7=w)(h:∀r∈yr,¬(r.1<=i/\i<=r.2)):fy wk yr i=HH:=by unfold fy;rw[e,b,Dx,qvt,List.any_eq_false];intro r a;rw[B7,decide_eq_true_iff,decide_eq_true_iff];exact h r a
theorem Mu {wk:tL}(f:OkW wk)(c:OkY yr):0<IU (II wk yr) 364:=by
 obtain⟨w,_,_,o⟩:=qv0 f;obtain⟨j,d,m⟩:=qvy (js:=An 5) (c0:=w) Dr (is:=yr) (λr h=>by have:=c.rng r h;lia) (by have:=c.len;rw[Ar];lia);have d:=AE.mp d;have e:=Tq wk yr;have l:=qv1 (yr:=yr) (i:=w+42*(j:Int)) o sZ m;have hk:(w+42*(j:Int)).toNat<364:=by lia
 have g:(II wk yr).getD (w+42*(j:Int)).toNat HG=HH:=by unfold II;rw[Ak,Ai,AS<|sZ];show fy wk yr ((w+42*(j:Int)).toNat:Int)=HH;rw[C5<|sZ];exact l
 have st:=XU e (k:=(w+42*(j:Int)).toNat) sZ;rw[g,HF Ud]at st;have a:=Z7 e (k:=(w+42*(j:Int)).toNat+1) (n:=364) sZ sZ;have b:=VZ (II wk yr) (w+42*(j:Int)).toNat;lia
theorem qx7 (h:∀r∈rs,¬(r.1<=n/\n<=r.2.1)):Ir (Aa "") rs n=Aa "" := by
 unfold Ir;have:∀(b:tZ)(a:Str),(∀r∈b,¬(r.1<=n/\n<=r.2.1))->b.foldl (λa r=>if r.1<=n/\n<=r.2.1 then r.2.2 else a) a=a:=by
  intro b
  induction b with
  |nil=>intro a _;rfl
  |cons r b ih=>intro a z;rw[List.foldl_cons,HF<|z r Am];exact ih a λq c=>z q<|A1 _ c
 exact this rs _ h
theorem qx8 {wk:tL}(m:OkW wk)(f:OkY yr)(hl:rs.length<=12)(l:∀r∈rs,LV r)(h0:0<=n):∃e,n<=e/\e<=n+2000/\YB wk yr rs e=HH:=by
 obtain⟨w,_,_,u⟩:=qv0 m;obtain⟨c0,c1,c2,c3⟩:∃c0:Int,n<=c0/\c0<=n+6/\c0 % 7=w:=⟨n+(w-n % 7) % 7,sZ,sZ,sZ⟩;let Y:=yo<|c0 / 7;let is:List (Int×Int):=(rs.map λr=>(r.1,r.2.1))++(An 7).flatMap λ(k:Nat)=>yr.map λr=>(7*fw (Y+(k:Int))+r.1,7*fw (Y+(k:Int))+r.2);have t:is.length<48:=by
  have a:((An 7).flatMap λ(k:Nat)=>yr.map λr=>(7*fw (Y+(k:Int))+r.1,7*fw (Y+(k:Int))+r.2)).length=7*yr.length:=by rw[List.length_flatMap];simp only[Ab,List.map_const',Ar,List.sum_replicate_nat]
  have b:=f.len;show ((rs.map λr=>(r.1,r.2.1))++_).length<48;rw[Ae,Ab,a];lia
 obtain⟨j,h,g⟩:=qvy (js:=An 48) (c0:=c0) Dr (is:=is) (λi x=>by
  rcases As.mp x with z|z
  .obtain⟨r,d,rfl⟩:=AQ.mp z;have:=(l r d).2.2.1;show r.2.1<r.1+42;lia
  .obtain⟨k,_,z⟩:=List.mem_flatMap.mp z;obtain⟨r,d,rfl⟩:=AQ.mp z;have:=f.rng r d;show 7*fw (Y+(k:Int))+r.2<7*fw (Y+(k:Int))+r.1+42;lia) (by rw[Ar];exact t)
 have h:=AE.mp h;refine⟨c0+42*(j:Int),sZ,sZ,?_⟩;generalize ec:c0+42*(j:Int)=c at g;have v:∃k:Nat,k<7/\yo (c / 7)=Y+(k:Int):=by
  have s:=QJ<|c0 / 7;have o:=QJ<|c / 7;have:yo (c0 / 7)<=yo (c / 7)/\yo (c / 7)<yo (c0 / 7)+7:=by unfold fw at s o;lia
  exact⟨(yo (c / 7)-yo (c0 / 7)).toNat,sZ,by show yo (c / 7)=yo (c0 / 7)+_;lia⟩
 obtain⟨k,p,q⟩:=v;unfold YB;rw[qx7<|λr d z=>g (r.1,r.2.1) (BA _<|AQ.mpr ⟨r,d,Z⟩) z,HI Z];refine qv1 u (by rw[qvs];lia) λr d z=>?_;have y:IV c=c-7*fw (Y+(k:Int)):=by unfold IV;rw[q]
 rw[y]at z;exact g (7*fw (Y+(k:Int))+r.1,7*fw (Y+(k:Int))+r.2) (A3 _<|List.mem_flatMap.mpr ⟨k,AE.mpr p,AQ.mpr ⟨r,d,Z⟩⟩) ⟨by show _<=c;lia,by show c<=_;lia⟩
def lo (rs:tZ):Nat->Int
 |0=>0
 |i+1=>match rs[i]? with|some r=>r.2.1+1|none=>0
theorem qv2 (h:rs[i]?=HA r):lo rs (i+1)=r.2.1+1:=by show (match rs[i]? with|some r=>r.2.1+1|none=>0)=_;rw[h]
theorem X9 (D:Dis rs)(h:∀r∈rs,0<=r.1)(k:i<=rs.length):0<=lo rs i/\(∀r∈rs.take i,r.2.1<lo rs i)/\∀r∈rs.drop i,lo rs i<=r.1:=by
 cases i with
 |zero=>exact⟨AZ _,λr c=>absurd c (by rw[Dl];exact A9),λr c=>h r (by rwa [List.drop_zero]at c)⟩
 |succ i =>
  have d:i<rs.length:=k;have e:=Ad d;rw[qv2 e];have m:=B9 d;have a:=h _ m;have b:=D.ok _ m;have pw:=Ba.mp D.pw;refine⟨sZ,λr c=>?_,λr c=>?_⟩
  .obtain⟨j,g,f⟩:=C4 c;rw[Bp]at g;rw[Ez]at f;by_cases z:j=i
   .subst z;rw[<- f];lia
   .have:=pw j i sZ d sZ;rw[f]at this;lia
  .obtain⟨j,g,f⟩:=C4 c;rw[Cg]at g;rw[List.getElem_drop]at f;have:=pw i (i+1+j) d sZ sZ;rw[f]at this;lia
theorem qv3 {bs:tE}(a:bs.length=371)(ap:Ap rs)(o:∀r∈rs,0<=r.1)(s:i<=rs.length)(l:Ie bs rs (lo rs i)<=m)(h:∀r∈rs.drop i,m<Ie bs rs r.1) :
  0<=m-((rs.take i).map λr=>Iq bs r<|r.2.1+1).sum/\∀d,0<=d->bs.getD (IV d).toNat HG=HH->Jh bs d=m-((rs.take i).map λr=>Iq bs r<|r.2.1+1).sum->Jd bs rs d=HH/\Ie bs rs d=m:=by
 obtain⟨f,b,c⟩:=X9 (Ti ap) o s;have D:=Ti ap;have e:=BM i rs;refine⟨?_,λd q j g=>?_⟩
 .have z:Ie bs (rs.take i++rs.drop i) (lo rs i)=Jh bs (lo rs i)+((rs.take i).map λr=>Iq bs r<|r.2.1+1).sum:=by
   unfold Ie
   rw[Wz b,ZH c<|λr k=>D.ok r<|List.mem_of_mem_drop k,Cw]
  rw[e]at z
  have p:=(Xy a).le (n:=0) (m:=lo rs i) (AZ _) f
  rw[qp0]at p
  lia
 .have:=Qe (pre:=rs.take i) (suf:=rs.drop i) (m:=m) (d:=d) (lo:=lo rs i) a (by rwa[e]) f b c (by rw[e];exact l) (by rwa[e]) q j g;rwa[e]at this
theorem qx9 (D:Dis rs)(h:rs[i]?=HA r):∀q∈rs.drop i,r.1<=q.1:=λq b=>by
 obtain⟨d,e⟩:=Ac.mp h;obtain⟨j,c,a⟩:=C4 b;rw[Cg]at c;rw[List.getElem_drop]at a;by_cases z:j=0
 .subst z;rw[<- a,<- e];exact AZ _
 .have p:=Ba.mp D.pw i (i+j) d sZ sZ;rw[a,e]at p;have:=D.ok r<|Au h;lia
theorem PP {bs:tE}(ap:Ap rs)(h:rs[i]?=HA r)(c:r.2.2=Aa "free" \/ r.2.2=Aa "open")(a:Ie bs rs r.1<=m)(b:m<Ie bs rs (r.2.1+1)) :
  r.1<=r.1+m-Ie bs rs r.1/\Jd bs rs (r.1+m-Ie bs rs r.1)=HH/\Ie bs rs (r.1+m-Ie bs rs r.1)=m:=by
 obtain⟨f,e⟩:=Ac.mp h;have d:rs=rs.take i++r::rs.drop (i+1):=by rw[<- e,<- BS f,BM]
 have D:=Ti ap;rw[d]at D a b |-;exact PQ D c a b
theorem Qw (c:Cnt f g)(l:0<=d)(i:0<=e)(k:g d=HH)(j:g e=HH)(h:f d=f e):d=e:=by have a:=c.ge l k (n:=e) sZ;have b:=c.ge i j (n:=d) sZ;lia
def eN (rs:tZ):Prop:=∀r∈rs,r.2.2=Aa "free" \/ r.2.2=Aa "open"
def iD (a:Adr):Sp:=λvs H Q _=>∃(x:HC)(bs:tE)(m:Int),vs=[.ref x,.int m]/\PatAt a.D H x bs/\0<=m/\0<IU bs 364/\∀y:Int,0<=y->JS bs y<=m->m<JS bs (y+1)->Q (.int y) H
def Sr (a:Adr):Sp:=λvs H Q _=>∃(x:HC)(bs:tE)(m:Int),vs=[.ref x,.int m]/\PatAt a.D H x bs/\0<=m/\0<IU bs 364/\∀d:Int,0<=d->bs.getD (IV d).toNat HG=HH->Jh bs d=m->Q (.int d) H
def Sf (a:Adr):Sp:=λvs H Q _=>∃(x:HC)(bs:tE)(rs:tZ)(m:Int),vs=[.ref x,.int m]/\TabAt a.D a.C H x bs rs/\Ap rs/\(∀r∈rs,0<=r.1)/\eN rs/\0<IU bs 364/\0<=m/\∀(d:Int)(H':Hp),Same H H'->0<=d->Jd bs rs d=HH->Ie bs rs d=m->Q (.int d) H'
def O3 (a:Adr):Sp:=λvs H Q _=>∃(x:HC)(bs:tE)(rs:tZ)(n:Int),vs=[.ref x,.int n]/\TabAt a.D a.C H x bs rs/\Ap rs/\(∀r∈rs,0<=r.1)/\eN rs/\0<IU bs 364/\0<=n/\∀(d:Int)(H':Hp),Same H H'->0<=d->Jd bs rs d=HH->Ie bs rs d=Ie bs rs n->Q (.int d) H'
theorem V2 (a:∀r∈rs,LV r):eN (ov rs):=Xz (P:=λw=>w=Aa "free" \/ w=Aa "open") λr b=>(a r b).2.2.2
abbrev kC (a:Adr):Three->HC:=JX a.F a.H a.G
noncomputable abbrev R5 (tb:HC):tY:=[(Aa "table",.ref tb)]
def O9 (a:Adr):Sp:=λvs H Q _=>∃(i:Three)(x dx tb:HC),vs=[.ref x,.ref tb]/\H x=HA (.ins (kC a i) dx [])/\Q .non (upd H x<|.ins (kC a i) dx<|R5 tb)
def Rf (g:Int->V):Sp:=λvs H Q _=>∃(x:HC)(u:Int),vs=[.ref x,.int u]/\Q (g u) H
def OX (g:Int->Int->V):Sp:=λvs H Q _=>∃(x:HC)(u v:Int),vs=[.ref x,.int u,.int v]/\Q (g u v) H
def qv4 (a:Adr)(H:Hp)(x:HC)(bs:tE)(rs:tZ):Prop:=∃(dx tb:HC),H x=HA (.ins a.G dx<|R5 tb)/\TabAt a.D a.C H tb bs rs
structure TabOk (bs:tE)(rs:tZ):Prop where
 hl:bs.length=371
 ap:Ap rs
 nn:∀r∈rs,0<=r.1
 wd:eN rs
 op:0<IU bs 364
def MR (a:Adr):Sp:=λvs H Q _=>∃(x:HC)(bs:tE)(rs:tZ)(f l:Int),vs=[.ref x,.int f,.int l]/\qv4 a H x bs rs/\TabOk bs rs/\0<=f/\∀H',Same H H'->Q (.int (if l<f then 0 else Ie bs rs (l+1)-Ie bs rs f)) H'
def oZ (a:Adr):Sp:=λvs H Q _=>∃(x:HC)(bs:tE)(rs:tZ)(f m:Int),vs=[.ref x,.int f,.int m]/\qv4 a H x bs rs/\TabOk bs rs/\0<=f/\1<=m/\∀(d:Int)(H':Hp),Same H H'->0<=d->Jd bs rs d=HH->Ie bs rs d=Ie bs rs f+m-1->Q (.int d) H'
def KM:Three->Str:=JX (Aa "days") (Aa "weeks")<|Aa "court"
def Sx (a:Adr):Sp:=λvs H Q _=>∃(i:Three)(tb:HC),vs=[.str<|KM i,.ref tb]/\∀(x dx:HC)(H':Hp),Same H H'->H x=HD->H' x=HA (.ins (kC a i) dx<|R5 tb)->Q (.ref x) H'
theorem oY {a tb:HC}(nx:H x=HD)(nd:H a=HD):Same H (upd (upd (upd H a<|.own x) x<|.ins C a []) x<|.ins C a<|R5 tb):=λb u e=>by rw[qr<|Iz e nx];exact ph nx nd b u e
theorem UG (h:LV r):r.2.2≠Aa "" := by rcases h.2.2.2 with e|e <;>rw[e] <;>decide +kernel
theorem N3 (w:Str):decide (V.str w=V.str (Aa "free"))=decide (w=Aa "free"):=decide_eq_decide.mpr ⟨λz=>V.str.inj z,λz=>HR V.str z⟩
structure PartsOk (wk:tL)(yr:uB)(rs:tZ):Prop where
 w:OkW wk
 y:OkY yr
 l:rs.length<=12
 r:∀r∈rs,LV r
theorem PartsOk.tab {wk:tL}(h:PartsOk wk yr rs):TabOk (II wk yr) (ov rs):=⟨Tq wk yr,X0 h.r,Rx λr a=>(h.r r a).1,V2 h.r,Mu h.w h.y⟩
def kf (bs:tE)(rs:tZ):Three->Int->Bool:=JX (λ_=>HH) (λ_=>HH)<|Jd bs rs
def kb (bs:tE)(rs:tZ):Three->Int->Int:=JX (λd=>d) (λd=>d)<|Ie bs rs
theorem rS {bs:tE}(ok:TabOk bs rs):∀i,Cnt (kb bs rs i) (kf bs rs i):=Kr ⟨λ_ _=>rfl⟩ ⟨λ_ _=>rfl⟩<|L7 ok.hl ok.ap ok.wd
def KindAt (a:Adr)(H:Hp)(x:HC)(i:Three)(bs:tE)(rs:tZ):Prop:=∃(dx tb:HC),H x=HA (.ins (kC a i) dx<|R5 tb)/\TabAt a.D a.C H tb bs rs
theorem KindAt.same {a:Adr}{i:Three}{bs:tE}(h:KindAt a H x i bs rs)(s:Same H H'):KindAt a H' x i bs rs:=by obtain⟨c,tb,d,b⟩:=h;exact HP c tb ⟨s _ _ d,b.same s⟩
end
section
variable {a:Adr}{i:Three}{H:Hp}{x:HC}{bs:tE}{rs:tZ}{Q:VK}{E:XK}
def NV (f l:Int):(if l-f+1 > 0 then l-f+1 else 0)=if l<f then 0 else l+1-f:=by split <;>split <;>lia
theorem kin {f l:Int}(h:KindAt a H x i bs rs)(ok:TabOk bs rs)(d:0<=f)(k:∀H',Same H H'->Q (.int (if l<f then 0 else kb bs rs i (l+1)-kb bs rs i f)) H') :
  JX (OX λf l=>.int (if l-f+1 > 0 then l-f+1 else 0)) (OX λf l=>.int (if l-f+1 > 0 then l-f+1 else 0)) (MR a) i [.ref x,.int f,.int l] H Q E:=by
 cases i with|a=>exact(HW x f l ⟨Z,by show Q (.int (if l-f+1 > 0 then l-f+1 else 0)) H;rw[NV];exact k H<|Same.refl H⟩)|b=>exact(HW x f l ⟨Z,by show Q (.int (if l-f+1 > 0 then l-f+1 else 0)) H;rw[NV];exact k H<|Same.refl H⟩)|c=>exact J0 x bs rs f l ⟨Z,h,ok,d,k⟩
theorem NS {f m:Int}(h:KindAt a H x i bs rs)(ok:TabOk bs rs)(e:0<=f)(g:1<=m)(k:∀(d:Int) (H':Hp),Same H H'->0<=d->kf bs rs i d=HH->kb bs rs i d=kb bs rs i f+m-1->Q (.int d) H') :
  JX (OX λf m=>.int<|f+m-1) (OX λf m=>.int<|f+m-1) (oZ a) i [.ref x,.int f,.int m] H Q E:=by
 cases i with|a=>exact(HW x f m ⟨Z,k _ H (Same.refl H) sZ Z Z⟩)|b=>exact(HW x f m ⟨Z,k _ H (Same.refl H) sZ Z Z⟩)|c=>exact J0 x bs rs f m ⟨Z,h,ok,e,g,k⟩
def rQ {u:Int}(k:Q (.int<|JX u (7*u) u i) H):JX (Rf λu=>.int u) (Rf λu=>.int<|7*u) (Rf λu=>.int u) i [.ref x,.int u] H Q E:=by
 cases i with|a=>exact(HP x u ⟨Z,k⟩)|b=>exact(HP x u ⟨Z,k⟩)|c=>exact HP x u ⟨Z,k⟩
end
section
variable {F d e a b s m L x u:Int}{ps:List Pz}{p q:Pz}{f f':Int->Int}{g g':tU}{r:tJ}{i j:Nat}{H H':Hp}
noncomputable abbrev Pz:=Int×tJ
abbrev _root_.tu:=List Pz
noncomputable def LM (p:Pz)(d:Int):Bool:=decide (p.1<=d) && (match p.2 with|none=>HG|some e=>decide (d<=e))
def Jg (ps:tu)(d:Int):Bool:=ps.any λp=>LM p d
def sS (p q:Pz):Prop:=∃e,p.2=HA e/\e<q.1
structure PsOk (ps:tu):Prop where
 srt:ps.Pairwise sS
 ok:∀p∈ps,0<=p.1/\∀e,p.2=HA e->p.1<=e
theorem XT:LM (F,HD) d=decide (F<=d):=by unfold LM;exact Bool.and_true _
theorem Pn:LM (F,HA e) d=(decide (F<=d) && decide (d<=e)):=rfl
theorem Wy (a:p∈ps)(h:LM p d=HG):Jg ps d=HG:=CW.mpr ⟨p,a,h⟩
theorem Wx (h:∀p∈ps,LM p d=HH):Jg ps d=HH:=by
 cases e:Jg ps d with
 |false=>rfl
 |true =>obtain⟨p,b,a⟩:=CW.mp e;rw[h p b]at a;cases a
noncomputable def cn (g:tU)(n:Int):Int:=((((An n.toNat).filter λ(t:Nat)=>!g (t:Int)).length:Nat):Int)
theorem LU (g:tU):Cnt (cn g) g:=⟨λn h=>by
 unfold cn;rw[show (n+1).toNat=n.toNat+1 by lia,Bs,Cs,Ae];have e:((n.toNat:Nat):Int)=n:=by lia
 cases z:g n with
 |true =>rw[HI Z,CZ (by rw[e,z];decide)];simp
 |false =>rw[HF Ud,Cz (by rw[e,z];rfl)];simp⟩
theorem qsp {f f':Int->Int}{g g':tU}(c:Cnt f g)(b:Cnt f' g'){a:Int}(i:0<=a):∀k:Nat,(∀d,a<=d->d<a+(k:Int)->g d=g' d)->f (a+(k:Int))-f a=f' (a+(k:Int))-f' a
 |0,_=>by rw[DV,Cw];lia
 |k+1,h=>by have ih:=qsp c b i k λd e _=>h d e sZ;have s:=c.st (a+(k:Int)) sZ;have s':=b.st (a+(k:Int)) sZ;rw[h _ sZ<|sZ]at s;rw[show a+((k+1:Nat):Int)=a+(k:Int)+1 by lia];lia
theorem oF (c:Cnt f g)(e:Cnt f' g')(j:0<=a)(ab:a<=b)(h:∀d,a<=d->d<b->g d=g' d):f b-f a=f' b-f' a:=by
 have z:=qsp c e j (b-a).toNat λd i _=>h d i sZ
 rwa [show a+((b-a).toNat:Int)=b by lia]at z
theorem N8 (c:Cnt f g)(i:0<=a)(e:a<=b)(h:∀d,a<=d->d<b->g d=HG):f b=f a:=by have z:=oF c (g':=λ_=>HG) (f':=λ_=>0) ⟨λ_ _=>by rw[HI Z];rfl⟩ i e h;lia
def IQ (g:tU)(ps:tu):Int->Bool:=λd=>g d || Jg ps d
def Mg (g:tU)(ps:tu)(s m:Int):tJ->Prop
 |some d=>s<d/\IQ g ps d=HH/\cn (IQ g ps) d=cn (IQ g ps) (s+1)+m-1
 |none=>(∃F,(F,HD)∈ps)/\∀d,s<d->cn (IQ g ps) d<cn (IQ g ps) (s+1)+m
theorem pL (s0:0<=s){a:tJ}(h:Mg g ps s m r)(h':Mg g ps s m a):r=a:=by
 have C:=LU<|IQ g ps;have b:∀{d},Mg g ps s m (HA d)->Mg g ps s m HD->False:=by rintro d ⟨_,c,_⟩ ⟨_,f⟩;have z:=f (d+1) sZ;have st:=C.st d sZ;rw[c,HF Ud]at st;lia
 cases r with
 |none =>
  cases a with|none=>rfl|some d=>exact(b h' h).elim
 |some d =>
  cases a with|none=>exact(b h h').elim|some e=>exact HR HA (Qw C (by have:=h.1;lia) (by have:=h'.1;lia) h.2.1 h'.2.1<|by rw[h.2.2,h'.2.2])
structure Go (g:tU)(ps:tu)(s m:Int)(i:Nat)(b L:Int):Prop where
 hb:s+1<=b
 hL:1<=L
 he:cn (IQ g ps) b=cn (IQ g ps) (s+1)+m-L
 hp:∀p∈ps.take i,∃e,p.2=HA e/\e<b
structure Fin (f:Int->Int)(g:tU)(ps:tu)(s m b L:Int):Prop where
 hb:s+1<=b
 hL:1<=L
 he:cn (IQ g ps) b=cn (IQ g ps) (s+1)+m-L
 hn:∀d,b<=d->f d<=f b+L-1->Jg ps d=HH
theorem qsq (C:Cnt f g)(s0:0<=s)(h:Fin f g ps s m b L)(j:0<=d)(i:g d=HH)(dM:f d=f b+L-1):Mg g ps s m (HA d):=by
 have hb:=h.hb;have hL:=h.hL;have c:b<=d:=C.ge j i sZ;have z:=oF (LU<|IQ g ps) C (a:=b) (b:=d) sZ c λe k _=>by have:=C.le (n:=e) (m:=d) sZ sZ;unfold IQ;rw[h.hn e k<|sZ,Ca]
 refine⟨sZ,?_,by rw[h.he]at z;lia⟩;unfold IQ;rw[i,h.hn d c<|sZ];rfl
theorem qv5 {α:Type}{l:List α}{x y:α}(h:y∈l)(a:l[i]?=HA x):y∈l.take i\/y=x\/y∈l.drop (i+1):=by
 obtain⟨b,rfl⟩:=Ac.mp a;rw[<- BM i l,BS b]at h;rcases As.mp h with z|z
 .exact .inl z
 .rcases Ax.mp z with z|z
  .exact .inr<|.inl z
  .exact .inr<|.inr z
theorem qsr (h:ps.Pairwise sS)(c:ps[i]?=HA p)(a:q∈ps.drop (i+1)):sS p q:=by obtain⟨b,rfl⟩:=Ac.mp c;have z:=h.sublist<|List.drop_sublist i ps;rw[BS b]at z;exact(BF.mp z).1 q a
theorem Ni (ok:PsOk ps)(h:Go g ps s m i b L)(hp:ps[i]?=HA p)(h1:b<=d)(h2:d<p.1):Jg ps d=HH:=by
 refine Wx λq f=>?_;rcases qv5 f hp with z|z|z
 .obtain⟨e,a,c⟩:=h.hp q z;obtain⟨F,o⟩:=q;simp only at a;subst a;rw[Pn,HM (show ¬d<=e by lia),BI]
 .subst z;unfold LM;rw[HM (show ¬q.1<=d by lia),Cy]
 .obtain⟨e,a,c⟩:=qsr ok.srt hp z;have:=(ok.ok p<|Au hp).2 e a;unfold LM;rw[HM (show ¬q.1<=d by lia),Cy]
noncomputable def Qx (f:Int->Int)(b l:Int):Int:=if l<b then 0 else f (l+1)-f b
theorem Nk (C:Cnt f g)(s0:0<=s)(ok:PsOk ps)(h:Go g ps s m i b L)(j:ps[i]?=HA p) :
  0<=Qx f b (p.1-1)/\∃B,b<=B/\p.1<=B/\(B=b\/B=p.1)/\cn (IQ g ps) B=cn (IQ g ps) b+Qx f b (p.1-1):=by
 have hb:=h.hb;unfold Qx;rw[show p.1-1+1=p.1 by lia];by_cases c:p.1-1<b
 .rw[HI c];exact⟨AZ _,b,AZ _,sZ,.inl Z,sZ⟩
 .rw[HF c];have z:=oF (LU<|IQ g ps) C (a:=b) (b:=p.1) sZ sZ λe k d=>by unfold IQ;rw[Ni ok h j k d,Ca]
  have:=C.le (n:=b) (m:=p.1) sZ sZ;exact⟨sZ,p.1,sZ,AZ _,.inr Z,sZ⟩
theorem Um (C:Cnt f g)(s0:0<=s)(ok:PsOk ps)(h:Go g ps s m i b L)(a:ps[i]?=HA p)(c:L<=Qx f b (p.1-1)):Fin f g ps s m b L:=by
 have hb:=h.hb;have hL:=h.hL;refine⟨hb,hL,h.he,λd e _=>Ni ok h a e ?_⟩;unfold Qx at c;rw[show p.1-1+1=p.1 by lia]at c;by_cases z:p.1-1<b
 .rw[HI z]at c;lia
 .rw[HF z]at c;exact C.lt sZ sZ
theorem QX (C:Cnt f g)(p:0<=s)(ok:PsOk ps)(h:Go g ps s m i b L)(l:ps[i]?=HA (F,HD))(c:Qx f b (F-1)<L):Mg g ps s m HD:=by
 have hb:=h.hb;have he:=h.he;have j:=Au l;refine⟨⟨F,j⟩,λd _=>?_⟩;obtain⟨_,B,_,o,_,e⟩:=Nk C p ok h l;simp only at o e;have k:=LU<|IQ g ps;by_cases z:d<=B
 .have:=k.le (n:=d) (m:=B) sZ z;lia
 .have:=N8 k (a:=B) (b:=d) sZ sZ λx _ _=>by
   unfold IQ
   rw[Wy j (by rw[XT];exact HJ<|sZ),Dt]
  lia
theorem QY (C:Cnt f g)(r:0<=s)(ok:PsOk ps)(h:Go g ps s m i b L)(hp:ps[i]?=HA (F,HA e))(c:Qx f b (F-1)<L):Go g ps s m (i+1) (if e+1 > b then e+1 else b) (L-Qx f b (F-1)):=by
 have hb:=h.hb;have he:=h.he;have k:=Au hp;have q:=(ok.ok _ k).2 e rfl;simp only at q;obtain⟨_,B,_,l,u,o⟩:=Nk C r ok h hp;simp only at l o u;have n:=LU<|IQ g ps;have j:b<=(if e+1 > b then e+1 else b)/\e<(if e+1 > b then e+1 else b)/\B<=(if e+1 > b then e+1 else b)/\((if e+1 > b then e+1 else b)=e+1\/(if e+1 > b then e+1 else b)=B):=by split <;>lia
 generalize (if e+1 > b then e+1 else b)=b' at j |-;have:=N8 n (a:=B) (b:=b') sZ j.2.2.1 λx _ _=>by unfold IQ;rw[Wy k (by rw[Pn,HJ (show F<=x by lia),HJ (show x<=e by lia)];rfl),Dt]
 refine⟨sZ,sZ,sZ,λp d=>?_⟩;rw[Mi hp]at d;rcases As.mp d with z|z
 .obtain⟨x,t,x2⟩:=h.hp p z;exact⟨x,t,sZ⟩
 .rw[Aj.mp z];exact⟨e,Z,j.2.1⟩
theorem Uo (h:Go g ps s m ps.length b L):Fin f g ps s m b L :=
 ⟨h.hb,h.hL,h.he,λd _ _=>Wx λq c=>by obtain⟨e,a,_⟩:=h.hp q (by rwa[Bc]);obtain⟨F,o⟩:=q;simp only at a;subst a;rw[Pn,HM (show ¬d<=e by lia),BI]⟩
theorem QW (b:1<=m):Go g ps s m 0 (s+1) m:=⟨AZ _,b,sZ,λp a=>by rw[Dl]at a;cases a⟩
theorem qn8 (a:(F,HD)∈ps)(h:F<=x):IQ g ps x=HG:=by unfold IQ;rw[Wy a (by rw[XT];exact HJ h),Dt]
theorem MI (a:(F,HA e)∈ps)(h:F<=x)(h':x<=e):IQ g ps x=HG:=by unfold IQ;rw[Wy a (by rw[Pn,HJ h,HJ h'];rfl),Dt]
noncomputable def oV:tJ->V
 |some i=>.int i
 |none=>.non
def K5 (p:Pz):tW:=[.int p.1,oV p.2]
def AtQ (H:Hp)(p:HC)(ps:tu):Prop:=∃us,H p=HA (.lst us)/\Tups H us (ps.map K5)
theorem AtQ.same {p:HC}(h:AtQ H p ps)(s:Same H H'):AtQ H' p ps:=by obtain⟨us,b,a⟩:=h;exact⟨us,s _ _ b,a.same s⟩
theorem oX {t:tW}(h:(ps.map K5)[i]?=HA t):∃p,ps[i]?=HA p/\t=K5 p:=by
 rw[Ai]at h;cases e:ps[i]? with|none=>rw[e]at h;cases h|some p=>rw[e]at h;exact⟨p,Z,(A8 h).symm⟩
def PB (a:Adr):Sp:=λvs H Q _=>∃(x pq:HC)(i:Three)(s u:Int)(bs:tE)(rs:tZ)(ps:tu),vs=[.ref x,.int s,.int u,.ref pq]/\KindAt a H x i bs rs/\TabOk bs rs/\AtQ H pq ps/\PsOk ps/\0<=s/\1<=u /\
 ∀(H':Hp)(r:tJ),Same H H'->Mg (kf bs rs i) ps s (JX u (7*u) u i) r->Q (oV r) H'
theorem qss (h:1<=u):∀i:Three,1<=JX u (7*u) u i
 |.a=>h
 |.b=>by show 1<=7*u;lia
 |.c=>h
def Fnt (ps:tu):Prop:=∀p∈ps,∃e,p.2=HA e
theorem qya (ps:tu):(ps.map K5).all (·.all Jj)=HG:=by rw[B8];intro x a;obtain⟨⟨F,o⟩,_,rfl⟩:=AQ.mp a;cases o <;>rfl
theorem Mf (x:V):[x].length<=A4:=JJ (show 1<=100000 by decide)
theorem qv6 {α:Type}:∀(l:List α),l≠[]->∃a p,l=a++[p]
 | [],h=>absurd rfl h
 | [p],_=>(HP [] p Z)
 |p::q::l,_=>by obtain⟨a,z,e⟩:=qv6 (q::l)<|List.cons_ne_nil _ _;exact(HP (p::a) z (by rw[e];rfl))
theorem qyb (h:(!OP (ps.map K5) [])=HG):∃qs p,ps=qs++[p]:=by refine qv6 ps λz=>?_;rw[z]at h;exact absurd h Ud
theorem L5:∀{us:tW}{d:List tW}{b:tW},Tups H us (d++[b])->∃vs c,us=vs++[.ref c]/\H c=HA (.tup b)/\Tups H vs d:=by
 intro us d
 induction d generalizing us with
 |nil =>
  intro b h;cases h with|cons h t=>cases t;exact⟨[],_,Z,h,.nil⟩
 |cons a d ih =>
  intro b h;cases h with
  |cons h t =>obtain⟨vs,c,e,g,f⟩:=ih t;exact⟨_::vs,c,by rw[e];rfl,g,.cons h f⟩
theorem Xi {us:tW}{a:tu}(t:Tups H us ((a++[p]).map K5)):∃vs c,us=vs++[.ref c]/\H c=HA (.tup<|K5 p)/\Tups H vs (a.map K5):=by rw[Aq]at t;exact L5 t
theorem Pj (us:tW)(x:V):JN (us++[x]) (-1)=HA x:=by unfold JN;rw[jY,Option.bind_some,Ci]
theorem N4 (vs:tW)(x:V):LC (vs++[x]) HD (HA (-1))=vs:=by
 unfold LC;rw[HT.sIx_none];have:HT.sIx (vs++[x]).length (vs++[x]).length (HA (-1))=vs.length:=by show (if (-1:Int)<0 then (-1+((vs++[x]).length:Int)).toNat else min (-1:Int).toNat (vs++[x]).length)=_;rw[HI Ud,Ae,AG];lia
 rw[this,List.drop_zero,Nat.sub_zero,List.take_left'];rfl
def SE (g:tU)(ps:tu)(full:Int):tJ->Prop
 |some d=>full<=d/\IQ g ps d=HH/\∀e,full<=e->e<d->IQ g ps e=HG
 |none=>(∃F,(F,HD)∈ps)/\∀e,full<=e->IQ g ps e=HG
theorem Ny {b:tJ}(h:SE g ps a r)(h':SE g ps a b):r=b:=by
 cases r with
 |none =>
  cases b with|none=>rfl|some d=>have:=h.2 d h'.1;rw[h'.2.1]at this;cases this
 |some d =>
  cases b with
  |none=>have:=h'.2 d h.1;rw[h.2.1]at this;cases this
  |some e =>
   rcases (by lia:d<e\/d=e\/e<d) with z|z|z
   .have:=h'.2.2 d h.1 z;rw[h.2.1]at this;cases this
   .rw[z]
   .have:=h.2.2 e h'.1 z;rw[h'.2.1]at this;cases this
structure Gd (g:tU)(ps:tu)(full:Int)(j:Nat)(t:Int):Prop where
 hf:full<=t
 hg:g t=HH
 hh:∀e,full<=e->e<t->IQ g ps e=HG
 hp:∀p∈ps.take j,∃e,p.2=HA e/\e<t
theorem Nh (h:g e=HG):IQ g ps e=HG:=by unfold IQ;rw[h,Bool.true_or]
theorem Qa {t:Int}(C:Cnt f g)(d:0<=a)(i:0<=t)(c:g t=HH)(k:f t=f a):Gd g ps a 0 t :=
 ⟨C.ge i c<|sZ,c,λe j h=>Nh<|C.free d k j h,λp b=>by rw[Dl]at b;cases b⟩
theorem Ur {t:Int}(ok:PsOk ps)(h:Gd g ps a j t)(hp:ps[j]?=HA p)(c:t<p.1):SE g ps a (HA t):=by
 refine⟨h.hf,?_,h.hh⟩;unfold IQ;rw[h.hg,Dx];refine Wx λq f=>?_;rcases qv5 f hp with z|z|z
 .obtain⟨e,b,d⟩:=h.hp q z;obtain⟨F,o⟩:=q;simp only at b;subst b;rw[Pn,HM (show ¬t<=e by lia),BI]
 .subst z;unfold LM;rw[HM<|sZ,Cy]
 .obtain⟨e,b,d⟩:=qsr ok.srt hp z;have:=(ok.ok p<|Au hp).2 e b;unfold LM;rw[HM<|sZ,Cy]
theorem Qc {t:Int}(h:Gd g ps a j t)(f:ps[j]?=HA (F,HD))(c:F<=t):SE g ps a HD:=by
 have b:=Au f;refine⟨⟨F,b⟩,λe d=>?_⟩;by_cases z:e<t
 .exact h.hh e d z
 .exact qn8 b sZ
theorem Qb {t:Int}(h:Gd g ps a j t)(hp:ps[j]?=HA (F,HA e))(c:e<t):Gd g ps a (j+1) t :=
 ⟨h.hf,h.hg,h.hh,λp b=>by
  rw[Mi hp]at b;rcases As.mp b with z|z
  .exact h.hp p z
  .rw[Aj.mp z];exact⟨e,Z,c⟩⟩
theorem Qd {t t':Int}(C:Cnt f g)(f0:0<=a)(h:Gd g ps a j t)(hp:ps[j]?=HA (F,HA e))(c1:F<=t)(c2:t<=e)(l:0<=t')(c:g t'=HH)(q:f t'=f (e+1)):Gd g ps a (j+1) t':=by
 have k:=Au hp;have hf:=h.hf;have ge:e+1<=t':=C.ge l c sZ;refine⟨sZ,c,λx o i=>?_,λp b=>?_⟩
 .by_cases z:x<t
  .exact h.hh x o z
  .by_cases d:x<=e
   .exact MI k sZ d
   .exact Nh (C.free (n:=e+1) sZ q sZ i)
 .rw[Mi hp]at b;rcases As.mp b with z|z
  .obtain⟨x,m,x2⟩:=h.hp p z;exact⟨x,m,sZ⟩
  .rw[Aj.mp z];exact⟨e,Z,sZ⟩
theorem Us {t:Int}(h:Gd g ps a ps.length t):SE g ps a (HA t):=by refine⟨h.hf,?_,h.hh⟩;unfold IQ;rw[h.hg,Dx];refine Wx λq c=>?_;obtain⟨e,b,_⟩:=h.hp q (by rwa[Bc]);obtain⟨F,o⟩:=q;simp only at b;subst b;rw[Pn,HM (show ¬t<=e by lia),BI]
def LP (g tf:tU)(ps:tu)(s m:Int)(r:tJ):Prop:=(Mg g ps s m HD/\r=HD) \/ ∃f,Mg g ps s m (HA f)/\SE tf ps f r
def S3 (a:Adr):Sp:=λvs H Q _=>∃(tb pq:HC)(d:Int)(bs:tE)(rs:tZ)(ps:tu),vs=[.ref tb,.int d,.ref pq]/\TabAt a.D a.C H tb bs rs/\TabOk bs rs/\AtQ H pq ps/\PsOk ps/\0<=d/\∀(H':Hp)(r:tJ),Same H H'->SE (Jd bs rs) ps d r->Q (oV r) H'
def O8 (a:Adr):Sp:=λvs H Q _=>∃(x pq:HC)(i:Three)(s u:Int)(bs:tE)(rs:tZ)(ps:tu),vs=[.ref x,.int s,.int u,.ref pq]/\KindAt a H x i bs rs/\TabOk bs rs/\AtQ H pq ps/\PsOk ps/\0<=s/\1<=u /\
 ∀(H':Hp)(r:tJ),Same H H'->LP (kf bs rs i) (Jd bs rs) ps s (JX u (7*u) u i) r->Q (oV r) H'
theorem NG {i:tU}{e:tJ}(c:0<=s)(h:LP g i ps s m r)(h':LP g i ps s m e):r=e:=by
 rcases h with ⟨b,rfl⟩|⟨f,b,j⟩
 .rcases h' with ⟨_,rfl⟩|⟨f',a,_⟩
  .rfl
  .cases pL c b a
 .rcases h' with ⟨a,rfl⟩|⟨f',a,d⟩
  .cases pL c b a
  .cases pL c b a;exact Ny j d
theorem rX (x y z w:V):[x,y,z,w].length<=A4:=JJ (show 4<=100000 by decide)
theorem Rn (x:Str)(xs:tG):Ko (.str x) (xs.map V.str)=xs.contains x:=by
 unfold Ko;rw[List.any_map,List.contains_eq_any_beq]
 congr 1
 funext y;show (y == x)=(x == y);rw[CK,HU,HU];exact eq_comm
theorem Rq (xs:tG):(xs.map V.str).all Jj=HG:=by rw[List.all_map];exact B8.mpr λ_ _=>rfl
noncomputable abbrev Yo (nm w o op b m u s pe pa pl py:V):tY:=[(Aa "name",nm),(Aa "who",w),(Aa "owes",o),(Aa "opens",op),(Aa "base",b),(Aa "many",m),(Aa "unit",u),(Aa "still",s),(Aa "ends",pe),(Aa "anew",pa),(Aa "longer",pl),(Aa "yields",py)]
abbrev RL (rl cn pr ov dy b un pp pg:V):tY:=[(Aa "rule",rl),(Aa "counting",cn),(Aa "rows",pr),(Aa "over",ov),(Aa "day",dy),(Aa "base",b),(Aa "units",un),(Aa "pauses",pp),(Aa "grants",pg)]
noncomputable abbrev TF (a1:V):tY:=[(Aa "rule",a1)]
abbrev TC (a1 a2:V):tY:=TF a1++[(Aa "counting",a2)]
abbrev PR (a1 a2 a3:V):tY:=TC a1 a2++[(Aa "rows",a3)]
abbrev ON (a1 a2 a3 a4:V):tY:=PR a1 a2 a3++[(Aa "over",a4)]
abbrev VL (a1 a2 a3 a4 a5:V):tY:=ON a1 a2 a3 a4++[(Aa "day",a5)]
abbrev VJ (a1 a2 a3 a4 a5 a6:V):tY:=VL a1 a2 a3 a4 a5++[(Aa "base",a6)]
abbrev VI (a1 a2 a3 a4 a5 a6 a7:V):tY:=VJ a1 a2 a3 a4 a5 a6++[(Aa "units",a7)]
abbrev VH (a1 a2 a3 a4 a5 a6 a7 a8:V):tY:=VI a1 a2 a3 a4 a5 a6 a7++[(Aa "pauses",a8)]
abbrev JW (a1 a2 a3 a4 a5 a6 a7 a8 a9:V):tY:=VH a1 a2 a3 a4 a5 a6 a7 a8++[(Aa "grants",a9)]
noncomputable abbrev Wh (a1:V):tY:=[(Aa "name",a1)]
abbrev Wg (a1 a2:V):tY:=Wh a1++[(Aa "who",a2)]
abbrev Wf (a1 a2 a3:V):tY:=Wg a1 a2++[(Aa "owes",a3)]
abbrev We (a1 a2 a3 a4:V):tY:=Wf a1 a2 a3++[(Aa "opens",a4)]
abbrev Wd (a1 a2 a3 a4 a5:V):tY:=We a1 a2 a3 a4++[(Aa "base",a5)]
abbrev Wc (a1 a2 a3 a4 a5 a6:V):tY:=Wd a1 a2 a3 a4 a5++[(Aa "many",a6)]
abbrev Wb (a1 a2 a3 a4 a5 a6 a7:V):tY:=Wc a1 a2 a3 a4 a5 a6++[(Aa "unit",a7)]
abbrev Wa (a1 a2 a3 a4 a5 a6 a7 a8:V):tY:=Wb a1 a2 a3 a4 a5 a6 a7++[(Aa "still",a8)]
variable {a c x p C:HC}{us:tW}{ts:List tW}
abbrev VG (a1 a2 a3 a4 a5 a6 a7 a8 a9:V):tY:=Wa a1 a2 a3 a4 a5 a6 a7 a8++[(Aa "ends",a9)]
abbrev TY (a1 a2 a3 a4 a5 a6 a7 a8 a9 a10:V):tY:=VG a1 a2 a3 a4 a5 a6 a7 a8 a9++[(Aa "anew",a10)]
abbrev RP (a1 a2 a3 a4 a5 a6 a7 a8 a9 a10 a11:V):tY:=TY a1 a2 a3 a4 a5 a6 a7 a8 a9 a10++[(Aa "longer",a11)]
abbrev TX (a1 a2 a3 a4 a5 a6 a7 a8 a9 a10 a11 a12:V):tY:=RP a1 a2 a3 a4 a5 a6 a7 a8 a9 a10 a11++[(Aa "yields",a12)]
noncomputable abbrev R3:=Str×Int×Str
noncomputable def TV (r:R3):tW:=[.str r.1,.int r.2.1,.str r.2.2]
noncomputable def RO (r:Str×Int×Int):tW:=[.str r.1,.int r.2.1,.int r.2.2]
structure RD where
 owes:Str
 ends:tG
 anew:tG
 longer:List (Str×Int×Int)
 still:Option (Str×Str)
 many:Int
 unit:Three
structure RdOk (rd:RD):Prop where
 m1:1<=rd.many
 l:rd.longer.length<=100
 e:rd.ends.length<=100
 a:rd.anew.length<=100
 u:∀t∈rd.longer,0<=t.2.1
def StAt (H:Hp)(v:V):Option (Str×Str)->Prop
 |none=>v=.non
 |some s=>∃p,v=.ref p/\H p=HA (.tup [.str s.1,.str s.2])
theorem StAt.same {v:V}{o:Option (Str×Str)}(h:StAt H v o)(z:Same H H'):StAt H' v o:=by
 cases o with
 |none=>exact h
 |some s=>obtain⟨p,b,a⟩:=h;exact⟨p,b,z _ _ a⟩
def RuleAt (a:Adr)(H:Hp)(rl:HC)(rd:RD):Prop:=∃(dx pe pa pl:HC)(nm w op b s py:V)(us:tW),H rl=HA (.ins a.B dx<|Yo nm w (.str rd.owes) op b (.int rd.many) (.str<|KM rd.unit) s (.ref pe) (.ref pa) (.ref pl) py)/\StAt H s rd.still/\H pe=HA (.lst<|rd.ends.map V.str)/\H pa=HA (.lst<|rd.anew.map V.str)/\H pl=HA (.lst us)/\Tups H us (rd.longer.map RO)
theorem RuleAt.same {a:Adr}{rd:RD}(h:RuleAt a H c rd)(z:Same H H'):RuleAt a H' c rd:=by obtain⟨l,g,e,pl,nm,w,op,b,s,m,us,n,f,j,i,k,d⟩:=h;exact Ic l g e pl nm w op b<|HW s m us ⟨z _ _ n,f.same z,z _ _ j,z _ _ i,z _ _ k,d.same z⟩
noncomputable def LZ (o:Option (Str×Str))(k:Str):Str:=match o with
 |none=>Aa ""
 |some s=>if k=s.1 then Aa "still" else if k=s.2 then Aa "goes on" else Aa ""
def Ik (rd:RD)(k:Str):Str:=if k=rd.owes\/rd.ends.contains k=HG then Aa "ends" else if rd.anew.contains k=HG then Aa "anew" else if (rd.longer.map (·.1)).contains k=HG then Aa "longer" else LZ rd.still k
structure RS where
 rows:List R3
 over:Bool
 day:Int
 units:Int
 ps:tu
 gr:List (IC×V)
 bv:V
def gv (gr:List (IC×V))(k:Str):Int:=match Ih gr (.inr k) with
 |some (.int n)=>n
 |_=>0
structure StOk (st:RS)(c:Int):Prop where
 ps:PsOk st.ps
 d0:0<=st.day
 u1:1<=st.units
 pl:st.ps.length<=st.rows.length
 rl:st.rows.length<=400
 gl:st.gr.length<=st.rows.length
 gi:∀k v,Ih st.gr k=HA v->∃n:Int,v=.int n
 cu:∀p∈st.ps,∀e,p.2=HA e->e<c
 r0:st.rows≠[]
def Li (i:Three)(u:Int):Int:=JX u (7*u) u i
structure RunX (a:Adr)(B H:Hp)(x dx rl cn pr pp pg:HC)(ur up:tW)(rd:RD)(st:RS)(bs:tE)(rs:tZ):Prop where
 ne:pr≠pp
 hx:H x=HA (.ins a.A dx<|RL (.ref rl) (.ref cn) (.ref pr) (.bl st.over) (.int st.day) st.bv (.int st.units) (.ref pp)<|.ref pg)
 hr:H pr=HA (.lst ur)
 tr:Tups H ur (st.rows.map TV)
 hp:H pp=HA (.lst up)
 tp:Tups H up (st.ps.map K5)
 hg:H pg=HA (.dK st.gr)
 rl:RuleAt a B rl rd
 kd:KindAt a B cn rd.unit bs rs
 sm:Same B H
 bx:B x=HD
 br:B pr=HD
 bp:B pp=HD
 bg:B pg=HD
def RunAt (a:Adr)(B H:Hp)(x:HC)(S:tI)(rd:RD)(st:RS)(bs:tE)(rs:tZ):Prop:=∃(dx rl cn pr pp pg:HC)(ur up:tW),S=[x,pr,pp,pg]/\RunX a B H x dx rl cn pr pp pg ur up rd st bs rs
theorem Pg {fs:tY}{l:tW}(h:H x=HA (.ins C a fs))(h':H p=HA (.lst l)):x≠p:=λz=>by rw[z,h']at h;cases h
theorem R1 {fs:tY}{l:List (IC×V)}(h:H x=HA (.ins C a fs))(h':H p=HA (.dK l)):x≠p:=λz=>by rw[z,h']at h;cases h
theorem Yw {fs:tW}{l:List (IC×V)}(h:H x=HA (.lst fs))(h':H p=HA (.dK l)):x≠p:=λz=>by rw[z,h']at h;cases h
theorem qsv {fs:tY}{o:HO}(t:Tups H us ts)(h:H x=HA (.ins C a fs)):Tups (upd H x o) us ts:=by
 induction t with
 |nil=>exact .nil
 |cons e _ ih=>exact .cons ((qr λz=>by rw[z,h]at e;cases e).trans e) ih
theorem qsw {l:List (IC×V)}{o:HO}(t:Tups H us ts)(h:H x=HA (.dK l)):Tups (upd H x o) us ts:=by
 induction t with
 |nil=>exact .nil
 |cons e _ ih=>exact .cons ((qr λz=>by rw[z,h]at e;cases e).trans e) ih
end
section
variable {a:Adr}{B H H':Hp}{x dx rl cn pr pp pg:HC}{ur up:tW}{rd:RD}{st:RS}{bs:tE}{rs:tZ}
def RunX.same (h:RunX a B H x dx rl cn pr pp pg ur up rd st bs rs)(z:Same H H'):RunX a B H' x dx rl cn pr pp pg ur up rd st bs rs :=
 ⟨h.ne,z _ _ h.hx,z _ _ h.hr,h.tr.same z,z _ _ h.hp,h.tp.same z,z _ _ h.hg,h.rl,h.kd,h.sm.trans z,h.bx,h.br,h.bp,h.bg⟩
def RunX.setP (h:RunX a B H x dx rl cn pr pp pg ur up rd st bs rs){up':tW}{ps':tu}(t:Tups H up' (ps'.map K5)):RunX a B (upd H pp<|.lst up') x dx rl cn pr pp pg ur up' rd {st with ps:=ps'} bs rs :=
 ⟨h.ne,(qr<|Pg h.hx h.hp).trans h.hx,(qr h.ne).trans h.hr,h.tr.upd h.hp,qk,t.upd h.hp,(qr<|By<|Yw h.hp h.hg).trans h.hg,h.rl,h.kd,JP h.sm h.bp,h.bx,h.br,h.bp,h.bg⟩
def RunX.setR (h:RunX a B H x dx rl cn pr pp pg ur up rd st bs rs){ur':tW}{rows':List R3}(t:Tups H ur' (rows'.map TV)):RunX a B (upd H pr<|.lst ur') x dx rl cn pr pp pg ur' up rd {st with rows:=rows'} bs rs :=
 ⟨h.ne,(qr<|Pg h.hx h.hr).trans h.hx,qk,t.upd h.hr,(qr<|By h.ne).trans h.hp,h.tp.upd h.hr,(qr<|By<|Yw h.hr h.hg).trans h.hg,h.rl,h.kd,JP h.sm h.br,h.bx,h.br,h.bp,h.bg⟩
def RunX.setG (h:RunX a B H x dx rl cn pr pp pg ur up rd st bs rs){gr':List (IC×V)}:RunX a B (upd H pg<|.dK gr') x dx rl cn pr pp pg ur up rd {st with gr:=gr'} bs rs :=
 ⟨h.ne,(qr<|R1 h.hx h.hg).trans h.hx,(qr<|Yw h.hr h.hg).trans h.hr,qsw h.tr h.hg,(qr<|Yw h.hp h.hg).trans h.hp,qsw h.tp h.hg,qk,h.rl,h.kd,JP h.sm h.bg,h.bx,h.br,h.bp,h.bg⟩
def RunX.setF (h:RunX a B H x dx rl cn pr pp pg ur up rd st bs rs){o':Bool}{u':Int}:RunX a B (upd H x<|.ins a.A dx<|RL (.ref rl) (.ref cn) (.ref pr) (.bl o') (.int st.day) st.bv (.int u') (.ref pp)<|.ref pg) x dx rl cn pr pp pg ur up rd {st with over:=o',units:=u'} bs rs :=
 ⟨h.ne,qk,(qr<|By<|Pg h.hx h.hr).trans h.hr,qsv h.tr h.hx,(qr<|By<|Pg h.hx h.hp).trans h.hp,qsv h.tp h.hx,(qr<|By<|R1 h.hx h.hg).trans h.hg,h.rl,h.kd,JP h.sm h.bx,h.bx,h.br,h.bp,h.bg⟩
end
section
variable {S:tI}{H H' B:Hp}{a ps:tu}{c d m F:Int}{x p e:HC}{rd:RD}{st:RS}{rs:tZ}{o r:tJ}{α:Type}{i:Nat}
def KeepS (S:tI)(H H':Hp):Prop:=∀b o,b∉S->H b=HA o->H' b=HA o
theorem KeepS.of (s:Same H H'):KeepS S H H':=λb o _ e=>s b o e
def Fresh (H:Hp)(S S':tI):Prop:=∀b∈S',b∈S\/H b=HD
theorem Fresh.refl:Fresh H S S:=λ_ h=>.inl h
theorem KeepS.trans {a:tI}{c d:Hp}(h:KeepS S H c)(f:Fresh H S a)(g:KeepS a c d):KeepS S H d:=λb o n e=>g b o (λm=>by
 rcases f b m with z|z
 .exact n z
 .rw[z]at e;cases e)<|h b o n e
theorem RunAt.same {a:Adr}{bs:tE}(h:RunAt a B H x S rd st bs rs)(z:Same H H'):RunAt a B H' x S rd st bs rs:=by obtain⟨j,f,cn,e,c,g,d,b,i,h⟩:=h;exact Ic j f cn e c g d b ⟨i,h.same z⟩
theorem Tv {o:HO}(h:p∈S):KeepS S H (upd H p o):=λb u n e=>by rw[qr (λz:b=p=>n (by rwa[z]))];exact e
noncomputable def IW (ps:tu):Bool:=match ps.getLast? with
 |some (_,HD)=>HG
 |_=>HH
noncomputable def KL (ps:tu)(d:Int):tu:=match ps.getLast? with
 |some (F,HD)=>ps.dropLast++(if F<d then [(F,HA<|d-1)] else [])
 |_=>ps
noncomputable def under (s r:tJ)(d:Int):Bool:=match s with|none=>HH|some s=>decide (s<d) && (match r with|none=>HG|some l=>decide (d<=l))
def LY (rd:RD)(gr:List (IC×V))(k:Str):Option (Str×Int×Int):=rd.longer.find? λt=>decide (t.1=k) && decide (gv gr k<t.2.2)
def JQ (rd:RD)(st:RS)(s r:tJ)(w:Str)(d:Int)(k:Str):Option RS :=
 if w=Aa "ends" then HA {st with ps:=KL st.ps d,over:=HG}
 else if under s r d=HH then HD
 else if w=Aa "anew" then HA {st with day:=d,units:=rd.many,ps:=[],gr:=[],bv:=.non}
 else if w=Aa "longer" then (match LY rd st.gr k with|none=>HD|some t=>HA {st with units:=st.units+t.2.1,gr:=JT st.gr (.inr k)<|.int<|gv st.gr k+1})
 else if w=Aa "still" then (if IW st.ps=HG then HD else HA {st with ps:=st.ps++[(d,HD)]})
 else (if IW st.ps=HG then HA {st with ps:=KL st.ps d} else HD)
def IZ (rd:RD)(st:RS)(s r:tJ)(n:Str)(d:Int)(k:Str):RS×Bool :=
 if Ik rd k=Aa "" \/ st.over=HG then (st,HH)
 else match JQ rd st s r (Ik rd k) d k with
  |none=>(st,HH)
  |some s=>({s with rows:=s.rows++[(n,d,Ik rd k)]},HG)
def MO (a:Adr):Sp:=λvs H Q _=>∃(x dx:HC)(nm w o op b m u s:V),vs=[.ref x,nm,w,o,op,b,m,u,s]/\H x=HA (.ins a.B dx []) /\
 ∀(H':Hp)(pe pa pl py:HC),SameBut x H H'->H pe=HD->H pa=HD->H pl=HD->H' x=HA (.ins a.B dx<|Yo nm w o op b m u s (.ref pe) (.ref pa) (.ref pl)<|.ref py)->H' pe=HA (.lst [])->H' pa=HA (.lst [])->H' pl=HA (.lst [])->pe≠pl->pa≠pl->pe≠pa->Q .non H'
def WS (a:Adr):Sp:=λvs H Q _=>∃(rl:HC)(k:Str)(rd:RD),vs=[.ref rl,.str k]/\RuleAt a H rl rd/\Q (.str<|LZ rd.still k) H
def Sl (a:Adr):Sp:=λvs H Q _=>∃(rl:HC)(k:Str)(rd:RD),vs=[.ref rl,.str k]/\RuleAt a H rl rd/\RdOk rd/\∀H',Same H H'->Q (.str<|Ik rd k) H'
theorem Mr {d c:HC}(h:H x=HD)(g:H d=HD)(i:H e=HD)(f:H c=HD):∀b∈[x,d,e,c],H b=HD:=λb a=>by
 rcases Ax.mp a with z|a
 .rwa[z]
 .rcases Ax.mp a with z|a
  .rwa[z]
  .rcases Ax.mp a with z|a
   .rwa[z]
   .rwa[Aj.mp a]
def Sk (a:Adr):Sp:=λvs H Q _=>∃(x dx rl:HC)(cn pr ov bb:V)(fs:tY)(d:Int)(rd:RD),vs=[.ref x,.int d,bb]/\H x=HA (.ins a.A dx fs)/\(fs=[(Aa "rule",.ref rl),(Aa "counting",cn),(Aa "rows",pr),(Aa "over",ov)] \/ ∃dy b un pp pg,fs=RL (.ref rl) cn pr ov dy b un pp pg)/\RuleAt a H rl rd/\rl≠x /\
 ∀(H':Hp)(pp pg:HC),SameBut x H H'->H pp=HD->H pg=HD->H' x=HA (.ins a.A dx<|RL (.ref rl) cn pr ov (.int d) bb (.int rd.many) (.ref pp)<|.ref pg)->H' pp=HA (.lst [])->H' pg=HA (.dK [])->Q .non H'
def MN (a:Adr):Sp:=λvs H Q _=>∃(x dx rl tb:HC)(n:Str)(d:Int)(rd:RD)(bs:tE)(rs:tZ)(Hb:Hp)(bb:V),vs=[.ref x,.ref rl,.ref tb,.str n,.int d,bb]/\H x=HA (.ins a.A dx [])/\Same Hb H/\Hb x=HD/\RuleAt a Hb rl rd/\TabAt a.D a.C Hb tb bs rs /\
 ∀(H':Hp)(S:tI)(cn:HC)(o:HO),SameBut x H H'->(∀b∈S,b=x\/H b=HD)->x∈S->H cn=HD->cn∉S->RunAt a (upd Hb cn o) H' x S rd ⟨[(n,d,Aa "begins")],HH,d,rd.many,[],[],bb⟩ bs rs->Q .non H'
def LsS (bs:tE)(rs:tZ)(rd:RD)(st:RS):tJ->tJ->Prop
 |none,r=>r=HD
 |some d,r=>LP (kf bs rs rd.unit) (Jd bs rs) st.ps d (Li rd.unit st.units) r
def BaseAt (a:Adr):Nat->Hp->V->Int->tJ->Prop
 |0,_,v,d,s=>v=.non/\s=HA d
 |n+1,H,v,d,s=>(v=.non/\s=HA d) \/ ∃(x:HC)(B:Hp)(S:tI)(rd:RD)(st:RS)(bs:tE)(rs:tZ)(c:Int)(s':tJ),v=.ref x/\RunAt a B H x S rd st bs rs/\TabOk bs rs/\StOk st c/\BaseAt a n H st.bv st.day s'/\LsS bs rs rd st s' s
noncomputable abbrev nB:Nat:=3
theorem BaseAt.same {a:Adr}(z:Same H H'):∀{n:Nat}{v:V}{d:Int}{s:tJ},BaseAt a n H v d s->BaseAt a n H' v d s
 |0,_,_,_,h=>h
 |n+1,_,_,_,h=>by
  rcases h with h|⟨x,B,S,rd,st,bs,rs,c,i,k,e,g,f,j,b⟩
  .exact .inl h
  .exact .inr<|Ic x B S rd st bs rs c ⟨i,k,e.same z,g,f,j.same z,b⟩
theorem jM {g b:tU}{s l:Int}(h:LP g b ps s m (HA l)):s<l:=by
 rcases h with ⟨_,h⟩|⟨f,c,a⟩
 .cases h
 .have:=c.1;have:=a.1;lia
theorem XF {a:Adr}{H:Hp}:∀{n:Nat}{v:V}{d x:Int},BaseAt a n H v d (HA x)->0<=d->0<=x
 |0,_,_,_,h,hd=>by cases h.2;exact hd
 |n+1,_,_,_,h,hd=>by
  rcases h with h|⟨y,B,S,rd,st,bs,rs,c,f,h1,h2,h3,e,g,b⟩
  .cases h.2;exact hd
  .cases f with
   |none=>cases b
   |some z =>have:=XF g e.d0;have:=jM b;lia
theorem XS {bs:tE}{s a:tJ}(b:∀x,s=HA x->0<=x)(h:LsS bs rs rd st s r)(h':LsS bs rs rd st s a):r=a:=by
 cases s with|none=>rw[h,h']|some d=>exact NG (b d Z) h h'
def VP (a:Adr)(n:Nat):Sp:=λvs H Q _=>∃(x:HC)(B:Hp)(S:tI)(rd:RD)(st:RS)(bs:tE)(rs:tZ)(s:tJ),vs=[.ref x]/\RunAt a B H x S rd st bs rs/\BaseAt a n H st.bv st.day s/\∀H',Same H H'->Q (oV s) H'
def WU (a:Adr):Sp:=λvs H Q _=>∃(x:HC)(B:Hp)(S:tI)(rd:RD)(st:RS)(bs:tE)(rs:tZ),vs=[.ref x]/\RunAt a B H x S rd st bs rs/\Q (.bl st.over) H
def iP (a:Adr):Sp:=λvs H Q _=>∃(x:HC)(B:Hp)(S:tI)(rd:RD)(st:RS)(bs:tE)(rs:tZ),vs=[.ref x]/\RunAt a B H x S rd st bs rs/\Q (.bl<|IW st.ps) H
def VO (a:Adr)(n:Nat):Sp:=λvs H Q _=>∃(x:HC)(B:Hp)(S:tI)(rd:RD)(st:RS)(bs:tE)(rs:tZ)(c:Int)(s:tJ),vs=[.ref x]/\RunAt a B H x S rd st bs rs/\TabOk bs rs/\StOk st c/\BaseAt a n H st.bv st.day s/\∀(H':Hp)(r:tJ),Same H H'->LsS bs rs rd st s r->Q (oV r) H'
def iH (a:Adr):Sp:=λvs H Q _=>∃(x:HC)(B:Hp)(S:tI)(rd:RD)(st:RS)(bs:tE)(rs:tZ)(c d:Int)(s r:tJ),vs=[.ref x,.int d]/\RunAt a B H x S rd st bs rs/\TabOk bs rs/\StOk st c/\BaseAt a nB H st.bv st.day s/\LsS bs rs rd st s r/\∀H',Same H H'->Q (.bl<|under s r d) H'
def iR (a:Adr):Sp:=λvs H Q _=>∃(x:HC)(B:Hp)(S:tI)(rd:RD)(st:RS)(bs:tE)(rs:tZ)(c d:Int),vs=[.ref x,.int d]/\RunAt a B H x S rd st bs rs/\StOk st c/\∀H',KeepS S H H'->RunAt a B H' x S rd {st with ps:=KL st.ps d} bs rs->Q (.bl<|IW st.ps) H'
def iS (a:Adr):Sp:=λvs H Q _=>∃(x:HC)(B:Hp)(S:tI)(rd:RD)(st:RS)(bs:tE)(rs:tZ)(c d:Int),vs=[.ref x,.int d]/\RunAt a B H x S rd st bs rs/\StOk st c/\∀H',KeepS S H H'->RunAt a B H' x S rd {st with ps:=KL st.ps d,over:=HG} bs rs->Q (.bl HG) H'
def iV (a:Adr):Sp:=λvs H Q _=>∃(x:HC)(B:Hp)(S:tI)(rd:RD)(st:RS)(bs:tE)(rs:tZ)(d:Int),vs=[.ref x,.int d]/\RunAt a B H x S rd st bs rs/\∀H' S',KeepS S H H'->Fresh H S S'->RunAt a B H' x S' rd {st with day:=d,units:=rd.many,ps:=[],gr:=[],bv:=.non} bs rs->Q (.bl HG) H'
def iM (a:Adr):Sp:=λvs H Q _=>∃(x:HC)(B:Hp)(S:tI)(rd:RD)(st:RS)(bs:tE)(rs:tZ)(c:Int)(k:Str),vs=[.ref x,.str k]/\RunAt a B H x S rd st bs rs/\StOk st c/\(LY rd st.gr k=HD->Q (.bl HH) H) /\
 ∀H' t,KeepS S H H'->LY rd st.gr k=HA t->RunAt a B H' x S rd {st with units:=st.units+t.2.1,gr:=JT st.gr (.inr k)<|.int<|gv st.gr k+1} bs rs->Q (.bl HG) H'
def iQ (a:Adr):Sp:=λvs H Q _=>∃(x:HC)(B:Hp)(S:tI)(rd:RD)(st:RS)(bs:tE)(rs:tZ)(c d:Int),vs=[.ref x,.int d]/\RunAt a B H x S rd st bs rs/\StOk st c/\(IW st.ps=HG->Q (.bl HH) H)/\∀H',KeepS S H H'->IW st.ps=HH->RunAt a B H' x S rd {st with ps:=st.ps++[(d,HD)]} bs rs->Q (.bl HG) H'
def iF (a:Adr):Sp:=λvs H Q _=>∃(x:HC)(B:Hp)(S:tI)(rd:RD)(st:RS)(bs:tE)(rs:tZ)(c d:Int)(w k:Str)(s r:tJ),vs=[.ref x,.str w,.int d,.str k]/\RunAt a B H x S rd st bs rs/\TabOk bs rs/\StOk st c/\BaseAt a nB H st.bv st.day s/\LsS bs rs rd st s r /\
 ∀H' S',KeepS S H H'->Fresh H S S'->(JQ rd st s r w d k=HD->RunAt a B H' x S' rd st bs rs->Q (.bl HH) H')/\∀s2,JQ rd st s r w d k=HA s2->RunAt a B H' x S' rd s2 bs rs->Q (.bl HG) H'
def iT (a:Adr):Sp:=λvs H Q _=>∃(x:HC)(B:Hp)(S:tI)(rd:RD)(st:RS)(bs:tE)(rs:tZ)(c d:Int)(n k:Str)(s r:tJ),vs=[.ref x,.str n,.int d,.str k]/\RunAt a B H x S rd st bs rs/\TabOk bs rs/\RdOk rd/\StOk st c/\BaseAt a nB H st.bv st.day s/\LsS bs rs rd st s r /\
 ∀H' S',KeepS S H H'->Fresh H S S'->RunAt a B H' x S' rd (IZ rd st s r n d k).1 bs rs->Q (.bl (IZ rd st s r n d k).2) H'
noncomputable def MD (o:Bool)(r:tJ):Str:=if o=HG then Aa "over" else if r=HD then Aa "stands" else Aa "runs"
def iI (a:Adr):Sp:=λvs H Q _=>∃(x:HC)(B:Hp)(S:tI)(rd:RD)(st:RS)(bs:tE)(rs:tZ)(r:tJ),vs=[.ref x,oV r]/\RunAt a B H x S rd st bs rs/\Q (.str<|MD st.over r) H
def AtR (H:Hp)(p:HC)(rows:List R3):Prop:=∃us,H p=HA (.lst us)/\Tups H us (rows.map TV)
theorem AtR.same {rows:List R3}(h:AtR H p rows)(z:Same H H'):AtR H' p rows:=by obtain⟨us,b,a⟩:=h;exact⟨us,z _ _ b,a.same z⟩
def AccAt (H:Hp)(q p4 p6:HC)(n:Str)(st:RS)(s r:tJ):Prop:=H q=HA (.tup [.str n,.str<|MD st.over r,oV s,.int st.units,.ref p4,oV r,.ref p6])/\AtQ H p4 st.ps/\AtR H p6 st.rows
def iW (a:Adr):Sp:=λvs H Q _=>∃(x:HC)(B:Hp)(S:tI)(rd:RD)(st:RS)(bs:tE)(rs:tZ)(c:Int)(s r:tJ)(n w0:Str)(d0:Int)(rw:List R3),vs=[.ref x]/\RunAt a B H x S rd st bs rs/\TabOk bs rs/\StOk st c/\BaseAt a nB H st.bv st.day s/\LsS bs rs rd st s r/\st.rows=(n,d0,w0)::rw /\
 ∀(q p4 p6:HC)(H':Hp),Same H H'->H q=HD->H p4=HD->H p6=HD->AccAt H' q p4 p6 n st s r->Q (.ref q) H'
theorem Re (h:IW ps=HG):∃a F,ps=a++[(F,HD)]:=by
 rcases Bm ps with e|⟨a,p,e⟩
 .rw[e]at h;cases h
 .rw[Bo]at e;subst e;obtain⟨F,o⟩:=p;cases o with|none=>exact(HP a F Z)|some x=>unfold IW at h;rw[Eb]at h;cases h
theorem XR:IW (a++[(F,o)])=decide (oV o=V.non):=by unfold IW;rw[Eb];cases o <;>rfl
theorem To:KL (a++[(F,HD)]) d=a++(if F<d then [(F,HA<|d-1)] else []):=by unfold KL;rw[Eb];show (a++[(F,HD)]).dropLast++_=_;rw[List.dropLast_concat]
theorem Pi (h:IW ps=HH):KL ps d=ps:=by
 unfold KL IW at *;split at h
 .cases h
 .rfl
theorem QM (vs:tW)(x:V):(vs++[x])[(vs++[x]).length-1]?=HA x:=by rw[Ae,AG,D9,AV<|Al _,DL];rfl
theorem YT (b a g d f e c:V):[b,a,g,d,f,e,c].length<=A4:=Bt (qpj (show 7<=1000 by decide))
theorem Ul {gr:List (IC×V)}(h:∀k v,Ih gr k=HA v->∃n:Int,v=.int n)(k:Str):(Ih gr<|.inr k).getD (.int 0)=.int (gv gr k):=by
 unfold gv;cases e:Ih gr (.inr k) with
 |none=>rfl
 |some v=>obtain⟨n,rfl⟩:=h _ _ e;rfl
theorem qv8 {p:α->Bool}{l:List α}{t:α}(h:(l.take i).find? p=HD)(a:l[i]?=HA t)(d:p t=HG):l.find? p=HA t:=by
 obtain⟨c,b⟩:=Ac.mp a;have e:l=l.take i++t::l.drop (i+1):=by rw[<- b,<- BS c,BM]
 rw[e,List.find?_append,h,C3,d];rfl
theorem ZK {p:α->Bool}{l:List α}{t:α}(h:(l.take i).find? p=HD)(b:l[i]?=HA t)(a:p t=HH):(l.take<|i+1).find? p=HD:=by rw[Mi b,List.find?_append,h,C3,a];rfl
theorem qI {s:RS}{a:tJ}{w k:Str}(h:JQ rd st a r w d k=HA s):s.rows=st.rows:=by
 unfold JQ at h;split at h
 .cases h;rfl
 .split at h
  .cases h
  .split at h
   .cases h;rfl
   .split at h
    .split at h
     .cases h
     .cases h;rfl
    .split at h
     .split at h
      .cases h
      .cases h;rfl
     .split at h
      .cases h;rfl
      .cases h
noncomputable abbrev az:Str:=Aa "abcdefghijklmnopqrstuvwxyz"
theorem U7:az.length=26:=Uk
theorem YY:∀i:Nat,i<26->az.cps.toList[i]?=HA (97+i):=Uk
theorem YX {x:Int}:JN az.cps.toList (x % 26)=HA (97+(x % 26).toNat):=by obtain⟨j,hj⟩:∃j:Nat,x % 26=(j:Int):=⟨(x % 26).toNat,sZ⟩;rw[hj,Bb];exact Jz (YY j<|sZ)
noncomputable def Kd (c:Int):Int:=1+c % 8
def Kq (c k:Int):Int:=if c / 64 % 2=0 then Kd c else 1+k % Kd c
def Lh (c k:Int):Int:=if Kq c k-1<c / 8 % Kd c then Kq c k-1 else c / 8 % Kd c
def OM (c k j:Int):Int:=if j=Lh c k then c / 64+7*j*j+k else c / 64+7*j*j
def wl (c k:Int)(n:Nat):tP:=(An n).map λ(j:Nat)=>97+(OM c k (j:Int) % 26).toNat
def V4 (c:Int)(k:Nat):Str:=⟨(wl c (k:Int) (Kq c (k:Int)).toNat).toArray⟩
theorem jL (c:Int):1<=Kd c/\Kd c<=8:=by unfold Kd;lia
theorem ZJ (c k:Int):1<=Kq c k/\Kq c k<=8:=by
 have:=jL c;unfold Kq;split
 .exact this
 .have:=BP k (show Kd c≠0 by lia);have:=Cf k (show 0<Kd c by lia);lia
theorem Oi (c k:Int):0<=Lh c k/\Lh c k<Kq c k:=by have h:=jL c;have:=ZJ c k;have:=BP (c / 8) (show Kd c≠0 by lia);unfold Lh;split <;>lia
theorem Oj (c k:Int)(n:Nat):wl c k (n+1)=wl c k n++[97+(OM c k (n:Int) % 26).toNat]:=by unfold wl;rw[Bs,Aq];rfl
theorem MF {x y:Str}(h:x.cps.toList=y.cps.toList):x=y:=by obtain⟨⟨x⟩⟩:=x;obtain⟨⟨y⟩⟩:=y;have h:x=y:=h;rw[h]
theorem ME (l:tP)(x:Nat):(⟨l.toArray⟩:Str)++(⟨#[x]⟩:Str)=⟨(l++[x]).toArray⟩:=by refine MF ?_;rw[Str.cps_append,Array.toList_append]
theorem L0 {k d:Nat}(hk:k<26)(hk':d<26)(e:V4 c k=V4 c d):k=d:=by
 have h:wl c (k:Int) (Kq c (k:Int)).toNat=wl c (d:Int) (Kq c (d:Int)).toNat:=by have:=HR (λs:Str=>s.cps.toList) e;simpa [V4] using this
 have f:=HR DB h;unfold wl at f;rw[Ab,Ab,Ar,Ar]at f;have f1:=ZJ c (k:Int);have f2:=ZJ c (d:Int);have l:Kq c (k:Int)=Kq c (d:Int):=by lia
 have j:Lh c (k:Int)=Lh c (d:Int):=by unfold Lh;rw[l]
 have m1:=Oi c (k:Int);obtain⟨m,hm⟩:∃m:Nat,Lh c (k:Int)=(m:Int):=⟨(Lh c (k:Int)).toNat,sZ⟩;have g:∀q:Nat,Lh c (q:Int)=(m:Int)->m<(Kq c (q:Int)).toNat->(wl c (q:Int) (Kq c (q:Int)).toNat)[m]?=HA (97+((c / 64+7*(m:Int)*(m:Int)+(q:Int)) % 26).toNat):=λq n i=>by unfold wl;rw[Ai,AS i];show HA (97+(OM c (q:Int) (m:Int) % 26).toNat)=_;unfold OM;rw[HI n.symm]
 have a:=g k hm sZ;have b:=g d (j ▸ hm) sZ;rw[h,b]at a;have a:=A8 a;generalize c / 64+7*(m:Int)*(m:Int)=z at a;lia
def Lg (c:Int)(m:Nat):tG:=(An m).map<|V4 c
theorem ZI (c:Int)(m:Nat):(Lg c m).length=m:=by unfold Lg;rw[Ab,Ar]
theorem Lz (c:Int)(m:Nat):Lg c (m+1)=Lg c m++[V4 c m]:=by unfold Lg;rw[Bs,Aq];rfl
def O2:Sp:=λvs H Q _=>∃(c:Int)(m:Nat),vs=[.int c,.int (m:Int)]/\m<=26/\∀(q:HC)(H':Hp),H q=HD->Same H H'->H' q=HA (.lst<|(Lg c m).map V.str)->Q (.ref q) H'
theorem Uu (c k:Int):JN [V.int<|Kd c,V.int<|1+k % Kd c] (c / 64 % 2)=HA (V.int<|Kq c k):=by
 unfold Kq;rcases (by lia:c / 64 % 2=0\/c / 64 % 2=1) with e|e
 .rw[e,HI Z];rfl
 .rw[e,HF Ud];rfl
noncomputable def Me:V->Bool
 |.non=>HG
 |.str _=>HG
 |.int _=>HG
 |_=>HH
def Alk:Nat->Hp->V->V->Prop
 |0,_,v,u=>v=u/\Me v=HG
 |n+1,H,v,u=>(v=u/\Me v=HG) \/ ∃(p q:HC)(xs ys:tW),v=.ref p/\u=.ref q/\((H p=HA (.lst xs)/\H q=HA (.lst ys))\/(H p=HA (.tup xs)/\H q=HA (.tup ys)))/\xs.length=ys.length/\xs.length<=1000/\∀(i:Nat)(x y:V),xs[i]?=HA x->ys[i]?=HA y->Alk n H x y
theorem Alk.same (z:Same H H'):∀{n:Nat}{v u:V},Alk n H v u->Alk n H' v u
 |0,_,_,h=>h
 |n+1,_,_,h=>by
  rcases h with h|⟨p,q,xs,ys,j,d,f,e,g,c⟩
  .exact .inl h
  .exact .inr<|Hv p q xs ys ⟨j,d,f.imp (λa=>⟨z _ _ a.1,z _ _ a.2⟩)<|λa=>⟨z _ _ a.1,z _ _ a.2⟩,e,g,λi x y a b=>(c i x y a b).same z⟩
theorem VY {v:V}(h:Me v=HG):∀{n:Nat},Alk n H v v
 |0=>⟨Z,h⟩
 |_+1=>.inl ⟨Z,h⟩
variable {q:HC}{xs us:tW}{n:Nat}
theorem Q7 (d:H p=HA (.tup xs))(c:H q=HA (.tup xs))(e:xs.length<=1000)(h:xs.all Me=HG):Alk (n+1) H (.ref p) (.ref q) :=
 .inr (Hv p q xs xs ⟨Z,Z,.inr ⟨d,c⟩,Z,e,λi x y a b=>by rw[a]at b;cases b;exact VY<|B8.mp h x<|Au a⟩)
theorem qv9 {e:tW}{ts:List tW}(m:H p=HA (.lst us))(l:H q=HA (.lst e))(d:Tups H us ts)(f:Tups H e ts)(k:ts.length<=1000)(r:∀t∈ts,t.length<=1000/\t.all Me=HG):Alk (n+2) H (.ref p) (.ref q) :=
 .inr (Hv p q us e ⟨Z,Z,.inl ⟨m,l⟩,by rw[d.length,f.length],by rw[d.length];exact k,λi x y a b=>by obtain⟨c,t,rfl,h,o⟩:=d.get' a;obtain⟨_,_,rfl,g,j⟩:=f.get' b;rw[h]at g;cases g;have z:=r t<|Au h;exact Q7 o j z.1 z.2⟩)
theorem jK (o:tJ):Me (oV o)=HG:=by cases o <;>rfl
theorem Nw (ps:tu):∀t∈ps.map K5,t.length<=1000/\t.all Me=HG:=λt a=>by obtain⟨p,_,rfl⟩:=AQ.mp a;refine⟨(show 2<=1000 by decide),?_⟩;show (Me (V.int p.1) && (Me (oV p.2) && HG))=HG;rw[jK];rfl
theorem Nv (ps:List R3):∀t∈ps.map TV,t.length<=1000/\t.all Me=HG:=λt a=>by obtain⟨p,_,rfl⟩:=AQ.mp a;exact⟨(show 3<=1000 by decide),Z⟩
theorem Q8 {g f d c:HC}{n:Str}{s:tJ}(h:AccAt H q g f n st s r)(h':AccAt H e d c n st s r)(w:st.ps.length<=1000)(A:st.rows.length<=1000):Alk 3 H (.ref q) (.ref e):=by
 obtain⟨B,⟨_,p,t⟩,⟨_,m,j⟩⟩:=h;obtain⟨l,⟨_,k,u⟩,⟨_,z,C⟩⟩:=h';have v:Alk 2 H (.ref g) (.ref d):=qv9 p k t u (by rwa[Ab])<|Nw _;have o:Alk 2 H (.ref f) (.ref c):=qv9 m z j C (by rwa[Ab])<|Nv _;refine .inr (Hv q e _ _ ⟨Z,Z,.inr ⟨B,l⟩,Z,(show 7<=1000 by decide),λi x y a b=>?_⟩)
 match i,a,b with
 |0,a,b=>cases a;cases b;exact VY rfl
 |1,a,b=>cases a;cases b;exact VY rfl
 |2,a,b=>cases a;cases b;exact VY (jK s)
 |3,a,b=>cases a;cases b;exact VY rfl
 |4,a,b=>cases a;cases b;exact v
 |5,a,b=>cases a;cases b;exact VY (jK r)
 |6,a,b=>cases a;cases b;exact o
 |n+7,a,b=>simp at a
def TU (n:Nat):Sp:=λvs H Q _=>∃(v u:V),vs=[v,u]/\Alk n H v u/\∀H',Same H H'->Q (.bl HG) H'
end
section
variable {K:Ag}
def qma:AK K (.type "list") (.type "tuple")=HA HH:=by kernel_rfl
def qmb:AK K (.type "tuple") (.type "list")=HA HH:=by kernel_rfl
def qsx:Er K (.type "int") (["list","tuple"].map Cq)=HA HH:=by kernel_rfl
def NU:Er K (.type "list") (["list","tuple"].map Cq)=HA HG:=by kernel_rfl
def NT:Er K (.type "tuple") (["list","tuple"].map Cq)=HA HG:=by kernel_rfl
end
section
variable {v b y:V}{H H' B:Hp}{x C:HC}{a:Adr}{u n c d E m:Int}{gr kvs:List (IC×V)}{j f i:Nat}{us:tW}{st:RS}{ps ps':tu}{g:tU}{s r:tJ}{yr:uB}{rs:tZ}{S:tI}{rd:RD}{α:Type}{nms:tG}
theorem qp2 (h:Me v=HG):v=.non\/(∃x,v=.str x) \/ ∃i,v=.int i:=by
 cases v with|non=>exact .inl rfl|str x=>exact .inr (.inl ⟨x,Z⟩)|int i=>exact .inr (.inr ⟨i,Z⟩)|_=>cases h
theorem qup {a:HC}{o u:HO}(nx:H x=HD)(nd:H a=HD):Same H (upd (upd H a u) x o):=λb v e=>by rwa[qr<|Iz e nx,qr<|Iz e nd]
theorem Uj {k j:Str}:gv (JT gr (.inr k)<|.int n) j=if j=k then n else gv gr j:=by
 unfold gv;rw[XY];by_cases c:j=k
 .rw[HI c,HI<|by rw[c]]
 .rw[HF c,HF<|λz=>c<|CL.inj z]
theorem qp3 {ts:List tW}(t:Tups H us ts)(k:∀b t,H b=HA (.tup t)->H' b=HA (.tup t)):Tups H' us ts:=by
 induction t with
 |nil=>exact .nil
 |cons e _ ih=>exact .cons (k _ _ e) ih
theorem StOk.mono (h:StOk st c)(cd:c<=d):StOk st d:=⟨h.ps,h.d0,h.u1,h.pl,h.rl,h.gl,h.gi,λp b e a=>by have:=h.cu p b e a;lia,h.r0⟩
theorem qwa {n:Int}{k nm:Str}(h:StOk st c)(cd:c<=d)(u0:0<=u)(hl:st.rows.length<400):StOk {st with units:=st.units+u,gr:=JT st.gr (.inr k)<|.int n,rows:=st.rows++[(nm,d,Aa "longer")]} d:=by
 have h1:=h.pl;have h2:=h.gl;have h3:=T5 st.gr (.inr k)<|V.int n;have hr:(st.rows++[(nm,d,Aa "longer")]).length=st.rows.length+1:=by rw[Ae];rfl
 refine⟨h.ps,h.d0,by have:=h.u1;show 1<=st.units+u;lia,by show st.ps.length<=(st.rows++_).length;lia,by show (st.rows++_).length<=400;lia,by show (JT st.gr (.inr k)<|V.int n).length<=(st.rows++_).length;lia,λb v a=>?_,λp g e f=>by have:=h.cu p g e f;lia,λz=>by cases (C9.mp z).2⟩;have a:Ih (JT st.gr (.inr k)<|.int n) b=HA v:=a;rw[XY]at a;split at a
 .cases a;exact⟨n,Z⟩
 .exact h.gi b v a
theorem X5 (h:1<=u)(i:Three):1<=Li i u:=qss h i
def TR (g:tU):Prop:=∀n,0<=n->∃e,n<=e/\e<=n+2000/\g e=HH
def Ends (ps:tu)(E:Int):Prop:=∀p∈ps,∀e,p.2=HA e->e<=E
theorem qp4 (c:Ends ps E)(h:E<d)(b:∀F,(F,HD)∈ps->d<F):Jg ps d=HH:=Wx λp a=>by
 obtain⟨F,o⟩:=p;cases o with|none=>rw[XT];exact HM (by have:=b F a;lia)|some e=>rw[Pn,HM (show ¬d<=e by have:=c _ a e Z;lia),BI]
theorem oE:∀(ps:tu)(s:Int),∃E,s<=E/\Ends ps E
 | [],s=>⟨s,AZ _,λ_ h=>absurd h A9⟩
 | (F,o)::ps,s=>by
  obtain⟨E,d,c⟩:=oE ps s;cases o with
  |none =>
   refine⟨E,d,λp b e a=>?_⟩;rcases Ax.mp b with z|z
   .rw[z]at a;cases a
   .exact c p z e a
  |some x =>
   refine⟨if E<x then x else E,by split <;>lia,λp b e a=>?_⟩;rcases Ax.mp b with z|z
   .rw[z]at a;cases a;split <;>lia
   .have:=c p z e a;split <;>lia
theorem qwb {g:tU}{ps:tu}{E B:Int}(a:TR g)(E0:0<=E)(b:∀e,E<e->e<B->Jg ps e=HH):∀k:Nat,E+1+2001*(k:Int)<=B->∃d,E<d/\d<=E+1+2001*(k:Int)/\cn (IQ g ps) (E+1)+(k:Int)<=cn (IQ g ps) d
 |0,_=>⟨E+1,sZ,sZ,sZ⟩
 |k+1,h=>by
  obtain⟨d,_,_,_⟩:=qwb a E0 b k sZ;obtain⟨e,i,_,c⟩:=a d sZ;have C:=LU<|IQ g ps;have st:=C.st e sZ;have f:IQ g ps e=HH:=by unfold IQ;rw[c,b e sZ<|sZ];rfl
  rw[f,HF Ud]at st;have:=C.le (n:=d) (m:=e) sZ i;exact⟨e+1,sZ,sZ,sZ⟩
theorem OB {G:tU}{s m:Int}(b:0<=s)(a:1<=m):∀k:Nat,cn G (s+1)+m<=cn G (s+1+(k:Int))->∃d,s<d/\G d=HH/\cn G d=cn G (s+1)+m-1
 |0,h=>by rw[DV,Cw]at h;lia
 |k+1,h=>by
  by_cases z:cn G (s+1)+m<=cn G (s+1+(k:Int))
  .exact OB b a k z
  .have st:=(LU G).st (s+1+(k:Int)) sZ;rw[show s+1+((k+1:Nat):Int)=s+1+(k:Int)+1 by lia,st]at h;cases e:G (s+1+(k:Int)) with|true=>rw[e,HI Z]at h;lia|false=>rw[e,HF Ud]at h;exact⟨_,sZ,e,sZ⟩
theorem Qg {s:Int}(l:TR g)(q:0<=s)(u:1<=m):∃r,Mg g ps s m r:=by
 by_cases h:∃d,s<d/\cn (IQ g ps) (s+1)+m<=cn (IQ g ps) d
 .obtain⟨d,c,j⟩:=h;obtain⟨e,p,o,i⟩:=OB q u (d-s-1).toNat (by rwa[show s+1+((d-s-1).toNat:Int)=d by lia]);exact⟨HA e,p,o,i⟩
 .have b:∀d,s<d->cn (IQ g ps) d<cn (IQ g ps) (s+1)+m:=λd t=>Ep.mp λz=>h ⟨d,t,z⟩;refine⟨HD,?_,b⟩;by_cases a:∃F,(F,HD)∈ps
  .exact a
  .exfalso;obtain⟨E,_,f⟩:=oE ps s;obtain⟨d,_,_,_⟩:=qwb (B:=E+1+2001*(m.toNat:Int)) l sZ (λe c _=>qp4 f c λF k=>absurd ⟨F,k⟩ a) m.toNat<|AZ _;have:=b d sZ;have:=(LU<|IQ g ps).le (n:=s+1) (m:=E+1) sZ sZ;lia
theorem qsy {G:tU}{f:Int}:∀k:Nat,(∀j,f<=j->j<f+(k:Int)->G j=HG) \/ ∃d,f<=d/\G d=HH/\∀e,f<=e->e<d->G e=HG
 |0=>.inl λj a b=>by lia
 |k+1=>by
  rcases qsy (G:=G) (f:=f) k with h|h
  .cases e:G (f+(k:Int)) with
   |false=>exact .inr ⟨_,sZ,e,h⟩
   |true =>
    refine .inl λj a b=>?_;by_cases z:j<f+(k:Int)
    .exact h j a z
    .rwa[show j=f+(k:Int) by lia]
  .exact .inr h
theorem Uy {f:Int}(m:TR g)(f0:0<=f):∃r,SE g ps f r:=by
 by_cases h:∃d,f<=d/\IQ g ps d=HH
 .obtain⟨d,o,k⟩:=h;rcases qsy (G:=IQ g ps) (f:=f) ((d-f).toNat+1) with z|⟨e,i,c,a⟩
  .have:=z d o sZ;rw[k]at this;cases this
  .exact⟨HA e,i,c,a⟩
 .have all:∀e,f<=e->IQ g ps e=HG:=λe n=>by
   cases z:IQ g ps e with|true=>rfl|false=>exact absurd ⟨e,n,z⟩ h
  refine⟨HD,?_,all⟩
  by_cases b:∃F,(F,HD)∈ps
  .exact b
  .exfalso;obtain⟨E,_,j⟩:=oE ps f;obtain⟨e,i,c,a⟩:=m (E+1) sZ;have:=all e sZ;unfold IQ at this;rw[a,qp4 j sZ λF l=>absurd ⟨F,l⟩ b]at this;cases this
theorem M8 {wk:tL}(h:PartsOk wk yr rs):TR (Jd (II wk yr)<|ov rs):=λn c=>by obtain⟨e,b,a,d⟩:=qx8 h.w h.y h.l h.r c;exact⟨e,b,a,(qvu h.r<|sZ).trans d⟩
theorem qwc {wk:tL}(h:PartsOk wk yr rs):∀i:Three,TR (kf (II wk yr) (ov rs) i)
 |.a=>λn _=>⟨n,AZ _,sZ,Z⟩
 |.b=>λn _=>⟨n,AZ _,sZ,Z⟩
 |.c=>M8 h
def wy:Three->Int:=JX 1 0 2
theorem qsz (ok:PsOk ps)(h:IW ps=HH):Fnt ps:=by
 rcases Bm ps with e|⟨qs,p,e⟩
 .rw[e];exact λ_ h=>absurd h A9
 .rw[Bo]at e;subst e;obtain⟨F,o⟩:=p;obtain⟨_,_,c⟩:=Bg.mp ok.srt;intro q a;rcases As.mp a with z|z
  .obtain⟨e,b,_⟩:=c q z (F,o)<|Aj.mpr Z;exact⟨e,b⟩
  .rw[Aj.mp z];cases o with|none=>rw[XR]at h;cases h|some x=>exact⟨x,Z⟩
theorem Mm {a:tu}{p:Pz}(ok:PsOk (a++[p])):PsOk a:=⟨(Bg.mp ok.srt).1,λq b=>ok.ok q<|As.mpr<|.inl b⟩
theorem ZY (ok:PsOk ps):PsOk (KL ps d):=by
 cases b:IW ps with
 |false=>rw[Pi b];exact ok
 |true =>
  obtain⟨_,F,rfl⟩:=Re b;rw[To];by_cases c:F<d
  .rw[HI c];obtain⟨i,_,h⟩:=Bg.mp ok.srt;have l:=ok.ok (F,HD)<|As.mpr<|.inr<|Aj.mpr Z;refine⟨Bg.mpr ⟨i,CY _ _,λp a q f=>?_⟩,λp a=>?_⟩
   .rw[Aj.mp f];exact h p a (F,HD)<|Aj.mpr Z
   .rcases As.mp a with z|z
    .exact ok.ok p<|As.mpr<|.inl z
    .rw[Aj.mp z];exact⟨l.1,λe g=>by cases g;show F<=d-1;lia⟩
  .rw[HF c,Br];exact Mm ok
theorem qwd (ok:PsOk ps)(h:IW ps=HH)(f:∀p∈ps,∀e,p.2=HA e->e<d)(g:0<=d):PsOk (ps++[(d,HD)]):=by
 have fn:=qsz ok h;refine⟨Bg.mpr ⟨ok.srt,CY _ _,λp b q c=>?_⟩,λp b=>?_⟩
 .rw[Aj.mp c];obtain⟨e,a⟩:=fn p b;exact⟨e,a,f p b e a⟩
 .rcases As.mp b with z|z
  .exact ok.ok p z
  .rw[Aj.mp z];exact⟨g,λe a=>nomatch a⟩
theorem Ng (ok:PsOk ps):IW (KL ps d)=HH:=by
 cases a:IW ps with
 |false=>rwa[Pi a]
 |true =>
  obtain⟨f,F,rfl⟩:=Re a;rw[To];by_cases c:F<d
  .rw[HI c,XR];rfl
  .rw[HF c,Br];cases b:IW f with
   |false=>rfl
   |true =>obtain⟨_,G,rfl⟩:=Re b;obtain⟨_,_,h⟩:=Bg.mp ok.srt;obtain⟨e,g,_⟩:=h (G,HD) (As.mpr<|.inr<|Aj.mpr Z) (F,HD)<|Aj.mpr Z;cases g
theorem ZG:(KL ps d).length<=ps.length:=by
 cases a:IW ps with
 |false=>rw[Pi a];exact Al _
 |true =>
  obtain⟨_,F,rfl⟩:=Re a;rw[To,Ae,Ae];split
  .exact Al _
  .simp
theorem Ys (cd:c<=d)(g:∀p∈ps,∀e,p.2=HA e->e<c):∀p∈KL ps d,∀e,p.2=HA e->e<d:=λp b e a=>by
 cases f:IW ps with
 |false=>rw[Pi f]at b;have:=g p b e a;lia
 |true =>
  obtain⟨_,F,rfl⟩:=Re f;rw[To]at b;rcases As.mp b with z|z
  .have:=g p (As.mpr<|.inl z) e a;lia
  .split at z
   .rw[Aj.mp z]at a;cases a;lia
   .cases z
theorem Nj (h:∀p∈ps,p.1<=d):∀p∈KL ps d,p.1<=d:=λp a=>by
 cases b:IW ps with
 |false=>rw[Pi b]at a;exact h p a
 |true =>
  obtain⟨_,F,rfl⟩:=Re b;rw[To]at a;rcases As.mp a with z|z
  .exact h p<|As.mpr<|.inl z
  .split at z
   .rw[Aj.mp z];exact h (F,HD)<|As.mpr<|.inr<|Aj.mpr Z
   .cases z
theorem Vj {n w:Str}{o':Bool}(h:StOk st c)(a:PsOk ps')(hl:ps'.length<=st.ps.length+1)(b:∀p∈ps',∀e,p.2=HA e->e<d)(hr:st.rows.length<400):StOk {st with ps:=ps',over:=o',rows:=st.rows++[(n,d,w)]} d:=by
 have e:(st.rows++[(n,d,w)]).length=st.rows.length+1:=by rw[Ae];rfl
 have h1:=h.pl;have h2:=h.gl;exact⟨a,h.d0,h.u1,by show ps'.length<=(st.rows++_).length;lia,by show (st.rows++_).length<=400;lia,by show st.gr.length<=(st.rows++_).length;lia,h.gi,b,λz=>by cases (C9.mp z).2⟩
theorem qp5 {i:Three}{v:Int}(h:u<=v):Li i u<=Li i v:=by
 cases i
 .exact h
 .show 7*u<=7*v;lia
 .exact h
theorem oK (h:under s r d=HG):∃x,s=HA x/\x<d/\∀l,r=HA l->d<=l:=by
 cases s with|none=>cases h|some x =>unfold under at h;simp only[B7]at h;refine⟨x,Z,HK h.1,λl e=>?_⟩;subst e;exact HK h.2
theorem QF (P:HC->Prop)(H:Hp):∃F:Hp,(∀b,P b->F b=HD)/\(∀b o,¬P b->H b=HA o->F b=HA o)/\Same F H:=by
 classical
 refine⟨λb=>if P b then HD else H b,λb h=>HI h,λb o h e=>by show (if P b then HD else H b)=_;rwa[HF h],λb o e=>?_⟩
 have e:(if P b then HD else H b)=HA o:=e
 by_cases h:P b
 .rw[HI h]at e;cases e
 .rwa[HF h]at e
theorem RunAt.rebase {c:Hp}{bs:tE}(h:RunAt a B H x S rd st bs rs)(d:Same B c)(j:Same c H)(n:∀b∈S,c b=HD):RunAt a c H x S rd st bs rs:=by obtain⟨l,rl,cn,i,f,k,g,e,rfl,R⟩:=h;exact(Ic l rl cn i f k g e ⟨Z,R.ne,R.hx,R.hr,R.tr,R.hp,R.tp,R.hg,R.rl.same d,R.kd.same d,j,n _<|by simp,n _<|by simp,n _<|by simp,n _<|by simp⟩)
theorem RunAt.but {bs:tE}(Zq:HC->Prop)(h:RunAt a B H x S rd st bs rs)(k:∀b o,¬Zq b->H b=HA o->H' b=HA o)(c:∀b∈S,¬Zq b)(g:∀b t,H b=HA (.tup t)->¬Zq b)(p:∀b o,B b=HA o->¬Zq b):RunAt a B H' x S rd st bs rs:=by obtain⟨n,rl,cn,l,i,m,j,f,rfl,R⟩:=h;have d:∀b t,H b=HA (.tup t)->H' b=HA (.tup t):=λb t e=>k b _ (g b t e) e;exact(Ic n rl cn l i m j f ⟨Z,R.ne,k _ _ (c _<|by simp) R.hx,k _ _ (c _<|by simp) R.hr,qp3 R.tr d,k _ _ (c _<|by simp) R.hp,qp3 R.tp d,k _ _ (c _<|by simp) R.hg,R.rl,R.kd,λb o e=>k b o (p b o e)<|R.sm b o e,R.bx,R.br,R.bp,R.bg⟩)
theorem RunAt.ex {bs:tE}(h:RunAt a B H x S rd st bs rs):Same B H/\(∀b∈S,∃o,H b=HA o/\∀t,o ≠ .tup t)/\∀b∈S,B b=HD:=by
 obtain⟨_,_,_,_,_,_,_,_,rfl,R⟩:=h;refine⟨R.sm,λb c=>?_,λb c=>?_⟩
 .rcases Ax.mp c with z|c
  .exact⟨_,by rw[z];exact R.hx,λ_ q=>by cases q⟩
  .rcases Ax.mp c with z|c
   .exact⟨_,by rw[z];exact R.hr,λ_ q=>by cases q⟩
   .rcases Ax.mp c with z|c
    .exact⟨_,by rw[z];exact R.hp,λ_ q=>by cases q⟩
    .exact⟨_,by rw[Aj.mp c];exact R.hg,λ_ q=>by cases q⟩
 .rcases Ax.mp c with z|c
  .rw[z];exact R.bx
  .rcases Ax.mp c with z|c
   .rw[z];exact R.br
   .rcases Ax.mp c with z|c
    .rw[z];exact R.bp
    .rw[Aj.mp c];exact R.bg
noncomputable def put (f:Nat->α)(i:Nat)(v:α):Nat->α:=λj=>if j=i then v else f j
theorem JB {f:Nat->α}{v:α}:put f i v i=v:=HI rfl
theorem Iv {f:Nat->α}{v:α}(h:j≠i):put f i v j=f j:=HF h
structure WdN (nms:tG)(bs:sr)(rk:Nat->Nat):Prop where
 nd:nms.Nodup
 len:bs.length=nms.length
 sm:nms.length<=6
 ok:∀(k b:Nat),bs[k]?=HA (HA b)->b<nms.length/\rk b<rk k
 lo:∀k,rk k<7
noncomputable def nm (nms:tG)(k:Nat):Str:=nms.getD k AN
noncomputable def bo (bs:sr)(k:Nat):tM:=bs.getD k HD
def JR (nms:tG)(bs:sr)(tk:tG):Nat->Nat->tG
 |0,_=>[]
 |f+1,k=>if nm nms k∈tk then [] else nm nms k::(match bo bs k with|some b=>JR nms bs tk f b|none=>[])
def JI (nms:tG)(bs:sr)(i:Nat):tG:=(An i).foldl (λtk k=>tk++(JR nms bs tk 7 k).reverse) []
theorem Xh (nms:tG)(bs:sr)(i:Nat):JI nms bs (i+1)=JI nms bs i++(JR nms bs (JI nms bs i) 7 i).reverse:=by unfold JI;rw[Bs,CP];rfl
theorem XE (nms:tG)(bs:sr)(tk:tG):∀f k,(JR nms bs tk f k).length<=f
 |0,_=>Al _
 |f+1,k=>by
  unfold JR;split
  .exact AR _
  .rw[AA];cases bo bs k with|none=>exact CB (AR _)|some b=>exact CB<|XE nms bs tk f b
theorem qs0 (nms:tG)(bs:sr)(i:Nat):(JI nms bs i).length<=7*i:=by
 induction i with
 |zero=>exact Al _
 |succ i ih =>rw[Xh,Ae,B3];have:=XE nms bs (JI nms bs i) 7 i;lia
theorem Yr {k:Nat}(h:k<nms.length):nms[k]?=HA (nm nms k):=by unfold nm;rw[Ak,Ad h];rfl
theorem OE {bs:sr}{k:Nat}(h:k<bs.length):bs[k]?=HA (bo bs k):=by unfold bo;rw[Ak,Ad h];rfl
theorem VX (nd:nms.Nodup){k:Nat}(b:j<nms.length)(c:k<nms.length)(e:nm nms j=nm nms k):j=k:=by have a:=Yr b;rw[e,<- Yr c]at a;exact(EA b nd).mp a
def Pc (nms:tG):tM->V
 |none=>.non
 |some b=>.str<|nm nms b
def Yj (kvs:List (IC×V))(nms:tG)(bs:sr):Prop:=∀k<nms.length,Ih kvs (.inr<|nm nms k)=HA (Pc nms<|bo bs k)
def WQ:Sp:=λvs H Q _=>∃(x:Str)(d t:HC)(kvs:List (IC×V))(nms:tG)(bs:sr)(rk:Nat->Nat)(tk:tG)(k:Nat),vs=[.str x,.ref d,.ref t]/\H d=HA (.dK kvs)/\H t=HA (.lst<|tk.map V.str)/\WdN nms bs rk/\k<nms.length/\x=nm nms k/\Yj kvs nms bs /\
 ∀(q:HC)(H':Hp),H q=HD->Same H H'->H' q=HA (.lst<|(JR nms bs tk 7 k).map V.str)->Q (.ref q) H'
def RuN (C:HC)(H:Hp)(v:V)(x:Str)(b:V):Prop:=∃(p dx:HC)(fs:tY),v=.ref p/\H p=HA (.ins C dx fs)/\fs.lookup (Aa "name")=HA (.str x)/\fs.lookup (Aa "base")=HA b
theorem RuN.same {x:Str}(h:RuN C H v x b)(k:Same H H'):RuN C H' v x b:=by obtain⟨p,c,fs,e,d,a⟩:=h;exact HW p c fs ⟨e,k _ _ d,a⟩
def Yq (C:HC)(H:Hp)(us:tW)(nms:tG)(bs:sr):Prop:=us.length=nms.length/\∀(j:Nat)(y:V),us[j]?=HA y->RuN C H y (nm nms j) (Pc nms<|bo bs j)
def MP (a:Adr):Sp:=λvs H Q _=>∃(pr:HC)(us:tW)(nms:tG)(bs:sr)(rk:Nat->Nat),vs=[.ref pr]/\H pr=HA (.lst us)/\Yq a.B H us nms bs/\WdN nms bs rk /\
 ∀(q:HC)(H':Hp),H q=HD->Same H H'->H' q=HA (.lst<|(JI nms bs nms.length).map V.str)->Q (.ref q) H'
theorem qwh {bs:sr}(nd:nms.Nodup)(a:i<nms.length)(h:∀k<i,Ih kvs (.inr<|nm nms k)=HA (Pc nms<|bo bs k)):∀k<i+1,Ih (JT kvs (.inr<|nm nms i)<|Pc nms<|bo bs i) (.inr<|nm nms k)=HA (Pc nms<|bo bs k):=λk _=>by
 rw[XY];by_cases e:k=i
 .subst e;rw[HI Z]
 .rw[HF<|λz=>e<|VX nd sZ a<|CL.inj z];exact h k sZ
theorem qwi {bs:sr}{tk:tG}{k:Nat}(h:¬nm nms k∈tk):JR nms bs tk (f+1) k=nm nms k::(match bo bs k with|some b=>JR nms bs tk f b|none=>[]):=by show (if nm nms k∈tk then [] else _)=_;rw[HF h]
theorem qwj {bs:sr}{tk:tG}{k:Nat}(h:nm nms k∈tk):JR nms bs tk f k=[]:=by
 cases f with|zero=>rfl|succ f =>show (if nm nms k∈tk then [] else _)=_;rw[HI h]
noncomputable abbrev Vw (po pd:HC):tY:=[(Aa "order",.ref po),(Aa "by_name",.ref pd)]
def BookAt (C:HC)(H:Hp)(p:HC)(nms ord:tG)(us:tW):Prop:=∃(dx po pd:HC)(kvs:List (IC×V)),H p=HA (.ins C dx<|Vw po pd)/\H po=HA (.lst<|ord.map V.str)/\H pd=HA (.dK kvs)/\(kvs.map λkv=>kV kv.1)=nms.map V.str/\∀(j:Nat)(y:V),us[j]?=HA y->Ih kvs (.inr<|nm nms j)=HA y
theorem BookAt.same {p:HC}{a:tG}(h:BookAt C H p nms a us)(s:Same H H'):BookAt C H' p nms a us:=by obtain⟨e,g,d,kvs,i,c,f,b⟩:=h;exact Hv e g d kvs ⟨s _ _ i,s _ _ c,s _ _ f,b⟩
def PF (a:Adr):Sp:=λvs H Q _=>∃(x dx pr:HC)(us:tW)(nms:tG)(bs:sr)(rk:Nat->Nat),vs=[.ref x,.ref pr]/\H x=HA (.ins a.E dx [])/\H pr=HA (.lst us)/\Yq a.B H us nms bs/\WdN nms bs rk /\
 ∀H',SameBut x H H'->(∀H2,RE x H H' H2->BookAt a.E H2 x nms (JI nms bs nms.length) us)->Q .non H'
def PH (a:Adr):Sp:=λvs H Q _=>∃(x:HC)(nms ord:tG)(us:tW),vs=[.ref x]/\BookAt a.E H x nms ord us/\∀q,H q=HD->Q (.ref q) (upd H q<|.lst<|ord.map V.str)
def PD (a:Adr):Sp:=λvs H Q _=>∃(x:HC)(nms ord:tG)(us:tW)(j:Nat)(y:V),vs=[.ref x,.str<|nm nms j]/\BookAt a.E H x nms ord us/\us[j]?=HA y/\Q y H
theorem U4 (nd:nms.Nodup)(p:i<nms.length)(h:(kvs.map λa=>kV a.1)=(nms.take i).map V.str):Ih kvs (.inr<|nm nms i)=HD:=by
 cases e:Ih kvs (.inr<|nm nms i) with
 |none=>rfl
 |some v =>
  have m:=Om e;have o:V.str (nm nms i)∈(nms.take i).map V.str:=by rw[<- h];obtain⟨a,l,c⟩:=AQ.mp m;exact AQ.mpr ⟨a,l,by rw[c];rfl⟩
  obtain⟨y,d,n⟩:=AQ.mp o;obtain⟨j,g,b⟩:=C4 d;rw[Bp]at g;rw[Ez]at b;have f:nm nms j=nm nms i:=by have:=Yr (nms:=nms) (k:=j) sZ;rw[Ad<|sZ]at this;rw[<- A8 this,b];exact V.str.inj n
  have:=VX nd sZ p f;lia
theorem Qy (y:V)(nd:nms.Nodup)(b:i<nms.length)(h:(kvs.map λa=>kV a.1)=(nms.take i).map V.str):((JT kvs (.inr<|nm nms i) y).map λa=>kV a.1)=(nms.take<|i+1).map V.str:=by rw[XX y<|U4 nd b h,Aq,h,B1,Yr b,Aq];rfl
theorem U5 (nd:nms.Nodup)(a:i<nms.length)(hl:us.length=nms.length)(b:us[i]?=HA y)(h:∀(j:Nat) (z:V),j<i->us[j]?=HA z->Ih kvs (.inr<|nm nms j)=HA z):∀(j:Nat)(z:V),j<i+1->us[j]?=HA z->Ih (JT kvs (.inr<|nm nms i) y) (.inr<|nm nms j)=HA z:=λj z _ hz=>by
 rw[XY];by_cases e:j=i
 .subst e;rw[HI Z];rwa[b]at hz
 .rw[HF<|λq=>e<|VX nd sZ a<|CL.inj q];exact h j z sZ hz
noncomputable abbrev Ig:=Str×Str×Int
abbrev _root_.uC:=List Ig
noncomputable def KA (t:Ig):tW:=[.str t.1,.str t.2.1,.int t.2.2]
structure TD where
 name:Str
 opens:Option Str
 base:tM
 rd:RD
abbrev _root_.uE:=Nat->TD
noncomputable abbrev ZZ:=Nat->List RS
noncomputable abbrev Hz:RS:=⟨[],HH,0,0,[],[],.non⟩
theorem NK (bs:tE)(rs:tZ)(rd:RD)(st:RS)(s:tJ):∃r0:tJ,∀r,(∀x,s=HA x->0<=x)->LsS bs rs rd st s r->r0=r:=by
 by_cases h:∃r,(∀x,s=HA x->0<=x)/\LsS bs rs rd st s r
 .obtain⟨r,b,a⟩:=h;exact⟨r,λ_ _ c=>XS b a c⟩
 .exact⟨HD,λr b a=>absurd ⟨r,b,a⟩ h⟩
noncomputable def Jf (bs:tE)(rs:tZ)(rd:RD)(st:RS)(s:tJ):tJ:=Classical.choose<|NK bs rs rd st s
theorem jJ {bs:tE}(a:∀x,s=HA x->0<=x)(h:LsS bs rs rd st s r):Jf bs rs rd st s=r:=Classical.choose_spec (NK bs rs rd st s) r a h
def ID (bs:tE)(rs:tZ)(ts:uE)(Zq:ZZ):Nat->Nat->RS->tJ
 |0,_,st=>HA st.day
 |n+1,i,st=>match st.bv,(ts i).base with
  |.int k,HA b=>Jf bs rs (ts b).rd ((Zq b).getD k.toNat Hz) (ID bs rs ts Zq n b<|(Zq b).getD k.toNat Hz)
  |_,_=>HA st.day
noncomputable def LX (x:tV)(base:tM)(v:V):V:=match v,base with
 |.int k,HA b=>.ref (x b k.toNat)
 |_,_=>.non
theorem XQ {x:tV}{base:tM}:LX x base .non=.non:=by unfold LX;cases base <;>rfl
noncomputable abbrev wB (st:RS)(v:V):RS:={st with bv:=v}
theorem Ly {w k:Str}(f:V->V)(a:f .non=.non):JQ rd (wB st<|f st.bv) s r w d k=(JQ rd st s r w d k).map λq=>wB q (f q.bv):=by
 unfold JQ;split
 .rfl
 .split
  .rfl
  .split
   .show HA _=HA (wB _<|f .non);rw[a]
   .split
    .show (match LY rd st.gr k with|none=>HD|some t=>_)=_;cases LY rd st.gr k <;>rfl
    .split
     .show (if IW st.ps=HG then _ else _)=_;split <;>rfl
     .show (if IW st.ps=HG then _ else _)=_;split <;>rfl
theorem Qj {n k:Str}(f:V->V)(a:f .non=.non):IZ rd (wB st<|f st.bv) s r n d k=(wB (IZ rd st s r n d k).1<|f (IZ rd st s r n d k).1.bv,(IZ rd st s r n d k).2):=by
 unfold IZ;show (if Ik rd k=Aa "" \/ st.over=HG then _ else _)=_;split
 .rfl
 .rw[Ly f a];cases JQ rd st s r (Ik rd k) d k <;>rfl
theorem StOk.bv (h:StOk st c)(v:V):StOk (wB st v) c:=⟨h.ps,h.d0,h.u1,h.pl,h.rl,h.gl,h.gi,h.cu,h.r0⟩
theorem LsS.bv {bs:tE}(h:LsS bs rs rd st s r)(v:V):LsS bs rs rd (wB st v) s r:=by cases s <;>exact h
theorem Qh {bs:tE}{rs:tZ}{n k:Str}(g:RdOk rd)(ok:StOk st c)(a:c<=d)(f:st.rows.length<400)(y:∀x,s=HA x->0<=x):StOk (IZ rd st s r n d k).1 d:=by
 have cu:∀p∈st.ps,∀e,p.2=HA e->e<d:=λp j e b=>by have:=ok.cu p j e b;lia
 unfold IZ;split
 .exact ok.mono a
 .unfold JQ;by_cases z:Ik rd k=Aa "ends"
  .rw[HI z];exact Vj (st:=st) (o':=HG) ok (ZY ok.ps) (BV ZG) (Ys a ok.cu) f
  .rw[HF z];cases A:under s r d with
   |false=>rw[HI Z];exact ok.mono a
   |true =>
    rw[HF Ud];obtain⟨x,o,_,_⟩:=oK A;by_cases w:Ik rd k=Aa "anew"
    .rw[HI w];have D:=y x o;have hr:(st.rows++[(n,d,Ik rd k)]).length=st.rows.length+1:=by rw[Ae];rfl
     exact⟨⟨.nil,λ_ h=>absurd h A9⟩,by show 0<=d;lia,g.m1,AR _,by show (st.rows++_).length<=400;lia,AR _,(λk v h=>by cases h),λ_ h=>absurd h A9,λq=>by cases (C9.mp q).2⟩
    .rw[HF w];by_cases i:Ik rd k=Aa "longer"
     .rw[HI i];cases B:LY rd st.gr k with|none=>exact ok.mono a|some t =>have C:=g.u t<|CJ B;have lo:=qwa (n:=gv st.gr k+1) (k:=k) (nm:=n) ok a C f;rwa[<- i]at lo
     .rw[HF i];by_cases m:Ik rd k=Aa "still"
      .rw[HI m];cases l:IW st.ps with
       |true=>rw[HI Z];exact ok.mono a
       |false =>
        rw[HF Ud];have D:=y x o;refine Vj (st:=st) (o':=st.over) ok (qwd ok.ps l cu<|sZ) (by rw[Ae];exact Al _) (λp j e b=>?_) f;rcases As.mp j with q|q
        .exact cu p q e b
        .rw[Aj.mp q]at b;cases b
      .rw[HF m];cases l:IW st.ps with|false=>rw[HF Ud];exact ok.mono a|true =>rw[HI Z];exact Vj (st:=st) (o':=st.over) ok (ZY ok.ps) (BV ZG) (Ys a ok.cu) f
def LB (l:List RS):Bool:=match l.getLast? with
 |some st=>!st.over
 |none=>HH
noncomputable def fB (o:tM)(f:Nat->Bool):Bool:=match o with
 |some b=>f b
 |none=>HH
def Kn (t:TD)(k:Str)(f:Nat->Bool):Bool:=decide (t.opens=HA k) || fB t.base f
noncomputable def KG (t:TD)(ac:Ig)(f:Nat->Bool)(Zq:ZZ):RS:=⟨[(ac.1,ac.2.2,Aa "begins")],HH,ac.2.2,t.rd.many,[],[],match t.base with
 |some b=>if f b=HG then .int (((Zq b).length-1:Nat):Int) else .non
 |none=>.non⟩
def K6 (bs:tE)(rs:tZ)(ts:uE)(Zq:ZZ)(i:Nat)(ac:Ig):List RS:=(Zq i).dropLast++[(IZ (ts i).rd ((Zq i).getD ((Zq i).length-1) Hz) (ID bs rs ts Zq 3 i<|(Zq i).getD ((Zq i).length-1) Hz) (Jf bs rs (ts i).rd ((Zq i).getD ((Zq i).length-1) Hz)<|ID bs rs ts Zq 3 i<|(Zq i).getD ((Zq i).length-1) Hz) ac.1 ac.2.2 ac.2.1).1]
def tk (bs:tE)(rs:tZ)(ts:uE)(Zq:ZZ)(ac:Ig):Nat->ZZ×(Nat->Bool)
 |0=>(Zq,λ_=>HH)
 |i+1=>if LB ((tk bs rs ts Zq ac i).1 i)=HG then (put (tk bs rs ts Zq ac i).1 i<|K6 bs rs ts (tk bs rs ts Zq ac i).1 i ac,(tk bs rs ts Zq ac i).2)
  else if Kn (ts i) ac.2.1 (tk bs rs ts Zq ac i).2=HG then (put (tk bs rs ts Zq ac i).1 i<|(tk bs rs ts Zq ac i).1 i++[KG (ts i) ac (tk bs rs ts Zq ac i).2 (tk bs rs ts Zq ac i).1],put (tk bs rs ts Zq ac i).2 i HG)
  else tk bs rs ts Zq ac i
def KB (bs:tE)(rs:tZ)(ts:uE)(n:Nat)(acts:uC):ZZ:=acts.foldl (λZq ac=>(tk bs rs ts Zq ac n).1)<|λ_=>[]
def WfB (ts:uE)(Zq:ZZ)(i:Nat)(st:RS):Prop:=(st.bv=.non \/ ∃k:Nat,st.bv=.int (k:Int))/\∀k:Int,st.bv=.int k->∃b,(ts i).base=HA b/\b<i/\0<=k/\k.toNat<(Zq b).length
structure PZ (n:Nat)(ts:uE)(Zq:ZZ)(D:Int)(N:Nat):Prop where
 ok:∀i<n,∀st∈Zq i,StOk st D
 wf:∀i<n,∀st∈Zq i,WfB ts Zq i st
 rl:∀i<n,(Zq i).length<=N/\∀st∈Zq i,st.rows.length<=N
 D0:0<=D
structure TsOk (n:Nat)(ts:uE):Prop where
 n4:n<=4
 rd:∀i<n,RdOk (ts i).rd
 ba:∀i<n,∀b,(ts i).base=HA b->b<i
 nn:∀i<n,∀j<n,(ts i).name=(ts j).name->i=j
def LA (bs:tE)(rs:tZ):Prop:=∀(rd:RD)(st:RS)(c:Int)(s:tJ),StOk st c->(∀x,s=HA x->0<=x)->∃r,LsS bs rs rd st s r
theorem ZF {bs:tE}{l:Int}(h:LsS bs rs rd st s (HA l)):∃x,s=HA x/\x<l:=by
 cases s with|none=>cases h|some x=>exact⟨x,Z,jM h⟩
end
section
variable {n:Nat}{ts:uE}{Zq:ZZ}{D:Int}{N:Nat}{bs:tE}{rs:tZ}
def K8 {l:List RS}{j:Nat}(h:j<l.length):l.getD j Hz∈l:=by rw[Ak,Ad h];exact B9 h
theorem Th (P:PZ n ts Zq D N)(ex:LA bs rs):∀(m i:Nat)(st:RS),i<n->StOk st D->WfB ts Zq i st->∀x,ID bs rs ts Zq m i st=HA x->0<=x
 |0,i,st,_,ok,_,x,e=>by cases e;exact ok.d0
 |m+1,i,st,hi,ok,wf,x,e=>by
  rcases wf.1 with a|⟨k,a⟩
  .unfold ID at e;rw[a]at e;cases e;exact ok.d0
  .obtain⟨b,l,h2,h3,h⟩:=wf.2 _ a;unfold ID at e;rw[a,l]at e;have e:Jf bs rs (ts b).rd ((Zq b).getD (k:Int).toNat Hz) (ID bs rs ts Zq m b<|(Zq b).getD (k:Int).toNat Hz)=HA x:=e;have g:=K8 h;have c:=P.ok b sZ _ g;have d:=Th P ex m b _ sZ c (P.wf b sZ _ g);obtain⟨r,f⟩:=ex (ts b).rd _ D _ c d;rw[jJ d f]at e;subst e;obtain⟨y,j,_⟩:=ZF f;have:=d y j;lia
def RW (P:PZ n ts Zq D N)(ex:LA bs rs){m i:Nat}{st:RS}(d:i<n)(ok:StOk st D)(c:WfB ts Zq i st):LsS bs rs (ts i).rd st (ID bs rs ts Zq m i st) (Jf bs rs (ts i).rd st<|ID bs rs ts Zq m i st):=by have b:=Th P ex m i st d ok c;obtain⟨r,a⟩:=ex (ts i).rd st D _ ok b;rwa[jJ b a]
end
structure WH (a:Adr)(B H:Hp)(n:Nat)(ts:uE)(Zq:ZZ)(x:tV)(S:Nat->Nat->tI)(p:tT)(L:Nat->Nat)(E:tI)(bs:tE)(rs:tZ):Prop where
 sm:Same B H
 hl:∀i<n,H (p i)=HA (.lst<|(An<|L i).map λj=>.ref<|x i j)
 Ll:∀i<n,L i<=(Zq i).length
 R:∀i<n,∀j<(Zq i).length,RunAt a B H (x i j) (S i j) (ts i).rd (wB ((Zq i).getD j Hz)<|LX x (ts i).base ((Zq i).getD j Hz).bv) bs rs
 sep:∀i<n,∀j<(Zq i).length,∀i'<n,∀j'<(Zq i').length,(i≠i'\/j≠j')->∀b∈S i j,b∉S i' j'
 pB:∀i<n,B (p i)=HD
 pp:∀i<n,∀i'<n,i≠i'->p i≠p i'
 pS:∀i<n,∀i'<n,∀j<(Zq i').length,p i∉S i' j
 eB:∀c∈E,B c=HD/\(∃o,H c=HA o/\∀t,o ≠ .tup t)/\(∀i<n,c≠p i)/\∀i<n,∀j<(Zq i).length,c∉S i j
theorem qwk {a:Adr}{B H:Hp}{n:Nat}{ts:uE}{Zq:ZZ}{x:tV}{S:Nat->Nat->tI}{p:tT}{L:Nat->Nat}{E:tI}{bs:tE}{rs:tZ}{D:Int}{N:Nat}(W:WH a B H n ts Zq x S p L E bs rs)(P:PZ n ts Zq D N)(ex:LA bs rs)(tok:TabOk bs rs):∀(m i:Nat)(st:RS),i<n->i<=m->WfB ts Zq i st->BaseAt a m H (LX x (ts i).base st.bv) st.day (ID bs rs ts Zq m i st):=by
 intro m
 induction m with
 |zero =>
  intro i st q o wf;rcases wf.1 with c|⟨k,c⟩
  .rw[c,XQ];exact⟨Z,Z⟩
  .obtain⟨b,_,l,_⟩:=wf.2 _ c;lia
 |succ m ih =>
  intro i st q o wf;rcases wf.1 with c|⟨k,c⟩
  .refine .inl ⟨by rw[c,XQ],?_⟩;unfold ID;rw[c]
  .obtain⟨b,j,l,h3,g⟩:=wf.2 _ c;have h:=K8 g;have d:=P.ok b sZ _ h;have f:=P.wf b sZ _ h;refine .inr (Ic (x b (k:Int).toNat) B (S b (k:Int).toNat) ((ts b).rd) _ bs rs D ⟨ID bs rs ts Zq m b<|(Zq b).getD (k:Int).toNat Hz,?_,W.R b sZ _ g,tok,d.bv _,ih b _ sZ sZ f,?_⟩)
   .rw[c,j];rfl
   .have:=(RW P ex (m:=m) sZ d f).bv<|LX x (ts b).base ((Zq b).getD (k:Int).toNat Hz).bv;have e:ID bs rs ts Zq (m+1) i st=Jf bs rs (ts b).rd ((Zq b).getD (k:Int).toNat Hz) (ID bs rs ts Zq m b<|(Zq b).getD (k:Int).toNat Hz):=by rw[ID,c,j]
    rw[e];exact this
section
variable {a:Adr}{B H H':Hp}{n:Nat}{ts:uE}{Zq:ZZ}{x:tV}{S:Nat->Nat->tI}{p:tT}{L:Nat->Nat}{E:tI}{bs:tE}{rs:tZ}
section
variable {E' G:tI}{c:HC}{o:HO}{α:Type}{i j:Nat}{q:RS}
theorem WH.same (W:WH a B H n ts Zq x S p L E bs rs)(s:Same H H'):WH a B H' n ts Zq x S p L E bs rs :=
 ⟨W.sm.trans s,λi b=>s _ _<|W.hl i b,W.Ll,λi b j g=>(W.R i b j g).same s,W.sep,W.pB,W.pp,W.pS,λc d=>by obtain⟨h,⟨o,f,k⟩,e⟩:=W.eB c d;exact⟨h,⟨o,s _ _ f,k⟩,e⟩⟩
theorem WH.less (W:WH a B H n ts Zq x S p L E bs rs)(h:∀c∈E',c∈E):WH a B H n ts Zq x S p L E' bs rs :=
 ⟨W.sm,W.hl,W.Ll,W.R,W.sep,W.pB,W.pp,W.pS,λc b=>W.eB c<|h c b⟩
theorem WH.more (W:WH a B H n ts Zq x S p L E bs rs)(f:H c=HD)(k:∀t,o ≠ .tup t):WH a B (upd H c o) n ts Zq x S p L (c::E) bs rs:=by
 have s:=qx (o:=o) f;have b:=W.same s;refine⟨b.sm,b.hl,b.Ll,b.R,b.sep,b.pB,b.pp,b.pS,λd g=>?_⟩;rcases Ax.mp g with rfl|g
 .refine⟨W.sm.free f,⟨o,qk,k⟩,λi h z=>?_,λi h j l z=>?_⟩
  .rw[z,W.hl i h]at f;cases f
  .obtain⟨u,e,_⟩:=(W.R i h j l).ex.2.1 d z;rw[e]at f;cases f
 .exact b.eB d g
theorem WH.but (W:WH a B H n ts Zq x S p L E bs rs)(l:c∈E)(y:∀t,o ≠ .tup t):WH a B (upd H c o) n ts Zq x S p L E bs rs:=by
 obtain⟨h,⟨u,C,v⟩,r,F⟩:=W.eB c l;have k:∀b o',b≠c->H b=HA o'->upd H c o b=HA o':=λb o' m e=>by rwa[qr m]
 refine⟨λb o' e=>k b o' (λz=>by rw[z,h]at e;cases e)<|W.sm b o' e,λi f=>k _ _ (By<|r i f)<|W.hl i f,W.Ll,λi f j g=>?_,W.sep,W.pB,W.pp,W.pS,λd D=>?_⟩
 .refine(W.R i f j g).but (λb=>b=c) (λb o' m e=>k b o' m e) (λb s z=>F i f j g<|z ▸ s) (λb t e z=>?_) (λb o' e z=>by rw[z,h]at e;cases e);rw[z,C]at e;exact v t<|A8 e
 .obtain⟨G,⟨o',q,A⟩,w⟩:=W.eB d D;refine⟨G,?_,w⟩;by_cases z:d=c
  .rw[z];exact⟨o,qk,y⟩
  .exact⟨o',k d o' z q,A⟩
noncomputable def Pu (f:Nat->Nat->α)(i j:Nat)(v:α):Nat->Nat->α:=λi' j'=>if i'=i/\j'=j then v else f i' j'
theorem Ln {f:Nat->Nat->α}{v:α}:Pu f i j v i j=v:=HI ⟨Z,Z⟩
theorem Kv {f:Nat->Nat->α}{b a:Nat}{v:α}(h:b≠i\/a≠j):Pu f i j v b a=f b a:=HF λz=>h.elim (λq=>q z.1) λq=>q z.2
theorem Vi {l:List RS}(h:l≠[]):(l.dropLast++[q]).length=l.length:=by have:=B4.mpr h;rw[Ae,CN,AG];lia
theorem ZX {l:List RS}(h:l≠[])(hj:j<l.length):(l.dropLast++[q]).getD j Hz=if j=l.length-1 then q else l.getD j Hz:=by
 have:=B4.mpr h;by_cases z:j=l.length-1
 .rw[HI z,Ak,AV (by rw[CN];lia),CN,z,DL];rfl
 .rw[HF z,Ak,AB (by rw[CN];lia),List.getElem?_dropLast,HI<|sZ,Ak]
theorem WH.felt (W:WH a B H n ts Zq x S p L E bs rs)(N:i<n)(y:Zq i≠[])(K:KeepS (S i<|(Zq i).length-1) H H')(F:Fresh H (S i<|(Zq i).length-1) G)(R:RunAt a B H' (x i<|(Zq i).length-1) G (ts i).rd (wB q<|LX x (ts i).base q.bv) bs rs) :
  WH a B H' n ts (put Zq i<|(Zq i).dropLast++[q]) x (Pu S i ((Zq i).length-1) G) p L E bs rs:=by
 have hp:=B4.mpr y;have J:(Zq i).length-1<(Zq i).length:=by lia
 obtain⟨_,x2,x3⟩:=(W.R i N _ J).ex;have len:∀d,(put Zq i ((Zq i).dropLast++[q]) d).length=(Zq d).length:=λd=>by
  by_cases z:d=i
  .subst z;rw[JB,Vi y]
  .rw[Iv z]
 have O:∀d<n,∀g<(Zq d).length,(d≠i\/g≠(Zq i).length-1)->RunAt a B H' (x d g) (S d g) (ts d).rd (wB ((Zq d).getD g Hz)<|LX x (ts d).base ((Zq d).getD g Hz).bv) bs rs:=λd f g j T=>by refine(W.R d f g j).but (λb=>b∈S i ((Zq i).length-1)) K (λb s z=>W.sep d f g j i N _ J T b s z) (λb t e z=>?_) (λb o e z=>by rw[x3 b z]at e;cases e);obtain⟨o,U,nt⟩:=x2 b z;rw[e]at U;exact nt t (A8 U).symm
 have u:∀b,(∃o,H b=HA o)->b∉S i ((Zq i).length-1)->b∉G:=by
  rintro b ⟨o,e⟩ Y m
  rcases F b m with z|z
  .exact Y z
  .rw[z]at e;cases e
 refine⟨R.ex.1,λd f=>K _ _ (W.pS d f i N _ J)<|W.hl d f,λd f=>by rw[len];exact W.Ll d f,λd f g j=>?_,λM v D A k r l h T b s=>?_,W.pB,W.pp,λd f k r l h=>?_,λc X=>?_⟩
 .rw[len]at j;by_cases z:d=i
  .subst z;rw[JB,ZX y j];by_cases w:g=(Zq d).length-1
   .rwa[HI w,w,Ln]
   .rw[HF w,Kv<|.inr w];exact O d f g j<|.inr w
  .rw[Iv z,Kv<|.inl z];exact O d f g j<|.inl z
 .rw[len]at A h;have C:∀d g,(d≠i\/g≠(Zq i).length-1)\/(d=i/\g=(Zq i).length-1):=λd g=>by lia
  rcases C M D with V|⟨rfl,rfl⟩
  .rw[Kv V]at s;rcases C k l with I|⟨rfl,rfl⟩
   .rw[Kv I];exact W.sep M v D A k r l h T b s
   .rw[Ln];obtain⟨o,e,_⟩:=(W.R M v D A).ex.2.1 b s;exact u b ⟨o,e⟩<|W.sep M v D A _ r _ h V b s
  .rw[Ln]at s;rcases C k l with I|⟨rfl,rfl⟩
   .rw[Kv I];intro m;obtain⟨o,e,_⟩:=(W.R k r l h).ex.2.1 b m;exact u b ⟨o,e⟩ (W.sep k r l h _ v _ A I b m) s
   .lia
 .rw[len]at h;by_cases w:k=i/\l=(Zq i).length-1
  .obtain⟨rfl,rfl⟩:=w;rw[Ln];exact u _ ⟨_,W.hl d f⟩<|W.pS d f _ r _ h
  .rw[Kv<|sZ];exact W.pS d f k r l h
 .obtain⟨v,⟨o,r,h3⟩,h4,Q⟩:=W.eB c X;refine⟨v,⟨o,K _ _ (Q i N _ J) r,h3⟩,h4,λk P l h=>?_⟩;rw[len]at h;by_cases w:k=i/\l=(Zq i).length-1
  .obtain⟨rfl,rfl⟩:=w;rw[Ln];exact u _ ⟨_,r⟩<|Q _ P _ h
  .rw[Kv<|sZ];exact Q k P l h
end
end
def Vk {l:List RS}{q:RS}{j:Nat}:(l++[q]).getD j Hz=if j=l.length then q else l.getD j Hz:=by
 rcases Nat.lt_trichotomy j l.length with h|h|h
 .rw[HF<|sZ,Ak,AB h,Ak]
 .rw[HI h,Ak,AV<|sZ,h,DL];rfl
 .rw[HF<|sZ,Ak,Ak,AH (by rw[Ae,AG];lia),AH<|sZ]
section
variable {a:Adr}{B H H':Hp}{n:Nat}{ts:uE}{Zq:ZZ}{x:tV}{S:Nat->Nat->tI}{p:tT}{L:Nat->Nat}{E:tI}{bs:tE}{rs:tZ}
def qwl {i j:Nat}{v:HC}{t:TD}{st:RS}{c:Nat}(d:WfB ts Zq c st)(e:ts c=t)(hj:(Zq i).length<=j):LX (Pu x i j v) t.base st.bv=LX x t.base st.bv:=by
 rcases d.1 with a|⟨k,a⟩
 .rw[a,XQ,XQ]
 .obtain⟨b,f,h2,h3,h4⟩:=d.2 _ a;rw[<- e,a,f];show V.ref (Pu x i j v b (k:Int).toNat)=V.ref (x b (k:Int).toNat);rw[Kv];by_cases z:b=i
  .subst z;exact .inr sZ
  .exact .inl z
theorem WH.begun (W:WH a B H n ts Zq x S p L E bs rs)(wf:∀i<n,∀st∈Zq i,WfB ts Zq i st){i:Nat}(hi:i<n){y cn:HC}{o:HO}{J:tI}{q:RS}(s:Same H H')(F:∀b∈J,H b=HD)(G:H cn=HD)(nS:cn∉J)(wq:WfB ts Zq i q)
  (R:RunAt a (upd B cn o) H' y J (ts i).rd (wB q<|LX x (ts i).base q.bv) bs rs):WH a (upd B cn o) H' n ts (put Zq i<|Zq i++[q]) (Pu x i (Zq i).length y) (Pu S i (Zq i).length J) p L E bs rs:=by
 have P:B cn=HD:=W.sm.free G;have sB:Same B (upd B cn o):=qx P;obtain⟨X,x2,x3⟩:=R.ex;have len:∀d,(put Zq i (Zq i++[q]) d).length=if d=i then (Zq i).length+1 else (Zq d).length:=λd=>by
  by_cases z:d=i
  .subst z;rw[JB,HI Z,Ae,AG]
  .rw[Iv z,HF z]
 have Q:∀d<n,∀g<(Zq d).length,∀b∈S d g,b≠cn:=λd f g D b l z=>by obtain⟨u,e,_⟩:=(W.R d f g D).ex.2.1 b l;rw[z,G]at e;cases e
 have split:∀d g,g<(if d=i then (Zq i).length+1 else (Zq d).length)->(d=i/\g=(Zq i).length)\/(g<(Zq d).length/\(d≠i\/g≠(Zq i).length)):=λd g h=>by
  by_cases z:d=i
  .subst z;rw[HI Z]at h;by_cases w:g=(Zq d).length
   .exact .inl ⟨Z,w⟩
   .exact .inr ⟨sZ,.inr w⟩
  .rw[HF z]at h;exact .inr ⟨h,.inl z⟩
 refine⟨X,λd f=>?_,λd f=>?_,λd f g D=>?_,λO M N U r k t v K b l=>?_,λd f=>?_,W.pp,λd f r k t v=>?_,λc Y=>?_⟩
 .rw[s _ _<|W.hl d f]
  congr 2
  refine BL λj I=>?_
  have:=AE.mp I
  have:=W.Ll d f
  rw[Kv]
  by_cases z:d=i
  .subst z;exact .inr sZ
  .exact .inl z
 .have:=W.Ll d f;rw[len];split
  .rename_i z;subst z;lia
  .exact this
 .rw[len]at D;rcases split d g D with ⟨rfl,rfl⟩|⟨I,K⟩
  .rwa[JB,Vk,HI Z,Ln,Ln,qwl wq Z<|Al _]
  .have e:(put Zq i (Zq i++[q]) d).getD g Hz=(Zq d).getD g Hz:=by
    by_cases z:d=i
    .subst z;rw[JB,Vk,HF<|sZ]
    .rw[Iv z]
   rw[e,Kv K,Kv K,qwl (wf d f _<|K8 I) Z<|Al _]
   refine((W.R d f g I).same s).rebase sB X λb l=>?_
   rw[qr<|Q d f g I b l]
   exact(W.R d f g I).ex.2.2 b l
 .rw[len]at U v;rcases split O N U with ⟨rfl,rfl⟩|⟨T,n1⟩
  .rw[Ln]at l;rcases split r t v with ⟨rfl,rfl⟩|⟨A,C⟩
   .lia
   .rw[Kv C];intro m;obtain⟨u,e,_⟩:=(W.R r k t A).ex.2.1 b m;rw[F b l]at e;cases e
  .rw[Kv n1]at l;rcases split r t v with ⟨rfl,rfl⟩|⟨A,C⟩
   .rw[Ln];intro m;obtain⟨u,e,_⟩:=(W.R O M N T).ex.2.1 b l;rw[F b m]at e;cases e
   .rw[Kv C];exact W.sep O M N T r k t A K b l
 .rw[qr (λz=>by have:=W.hl d f;rw[z,G]at this;cases this)];exact W.pB d f
 .rw[len]at v;rcases split r t v with ⟨rfl,rfl⟩|⟨A,C⟩
  .rw[Ln];intro m;have:=W.hl d f;rw[F _ m]at this;cases this
  .rw[Kv C];exact W.pS d f r k t A
 .obtain⟨M,⟨o',k,h3⟩,h4,h5⟩:=W.eB c Y;refine⟨?_,⟨o',s _ _ k,h3⟩,h4,λr V t v=>?_⟩
  .rw[qr (λz=>by rw[z,G]at k;cases k)];exact M
  .rw[len]at v;rcases split r t v with ⟨rfl,rfl⟩|⟨A,C⟩
   .rw[Ln];intro m;rw[F _ m]at k;cases k
   .rw[Kv C];exact h5 r V t A
def WH.listed (W:WH a B H n ts Zq x S p L E bs rs){i:Nat}(g:i<n)(q:L i<(Zq i).length):WH a B (upd H (p i)<|.lst<|(An<|L i+1).map λj=>.ref<|x i j) n ts Zq x S p (put L i<|L i+1) E bs rs:=by
 have k:∀b o',b≠p i->H b=HA o'->upd H (p i) (.lst<|(An<|L i+1).map λj=>.ref<|x i j) b=HA o':=λb o' m e=>by rwa[qr m]
 refine⟨λb o' e=>k b o' (λz=>by rw[z,W.pB i g]at e;cases e)<|W.sm b o' e,λf c=>?_,λf c=>?_,λf c j h=>?_,W.sep,W.pB,W.pp,W.pS,λd u=>?_⟩
 .by_cases z:f=i
  .subst z;rw[JB,qk]
  .rw[Iv z];exact k _ _ (W.pp f c i g z)<|W.hl f c
 .by_cases z:f=i
  .subst z;rwa[JB]
  .rw[Iv z];exact W.Ll f c
 .refine(W.R f c j h).but (λb=>b=p i) (λb o' m e=>k b o' m e) (λb r z=>W.pS i g f c j h<|z ▸ r) (λb t e z=>?_) (λb o' e z=>by rw[z,W.pB i g]at e;cases e);rw[z,W.hl i g]at e;cases e
 .obtain⟨w,⟨o',o,s⟩,l,v⟩:=W.eB d u;exact⟨w,⟨o',k d o' (l i g) o,s⟩,l,v⟩
end
section
variable {rd:RD}{st q:RS}{s r:tJ}{d:Int}{n i m:Nat}{ts:uE}{H H':Hp}{us:tW}{p y:tT}{a:Adr}{b:HC}{f:Nat->Bool}
theorem qye {w k:Str}(h:JQ rd st s r w d k=HA q):q.bv=st.bv\/q.bv=.non:=by
 unfold JQ at h;split at h
 .cases h;exact .inl rfl
 .split at h
  .cases h
  .split at h
   .cases h;exact .inr rfl
   .split at h
    .cases e:LY rd st.gr k with
     |none=>rw[e]at h;cases h
     |some t=>rw[e]at h;cases h;exact .inl rfl
    .split at h
     .split at h
      .cases h
      .cases h;exact .inl rfl
     .split at h
      .cases h;exact .inl rfl
      .cases h
theorem Np {n k:Str}:(IZ rd st s r n d k).1.bv=st.bv\/(IZ rd st s r n d k).1.bv=.non:=by
 unfold IZ;split
 .exact .inl rfl
 .cases e:JQ rd st s r (Ik rd k) d k with
  |none=>exact .inl rfl
  |some q =>show q.bv=st.bv\/q.bv=.non;exact qye e
theorem qyf {n k:Str}:(IZ rd st s r n d k).1.rows=st.rows\/(IZ rd st s r n d k).1.rows=st.rows++[(n,d,Ik rd k)]:=by
 unfold IZ;split
 .exact .inl rfl
 .cases e:JQ rd st s r (Ik rd k) d k with
  |none=>exact .inl rfl
  |some q=>exact .inr (by show q.rows++_=_;rw[qI e])
theorem WfB.mono {Zq Z':ZZ}(h:WfB ts Zq i st)(m:∀i,(Zq i).length<=(Z' i).length):WfB ts Z' i st:=⟨h.1,λk e=>by obtain⟨b,f,c,d,a⟩:=h.2 k e;exact⟨b,f,c,d,Ay a<|m b⟩⟩
theorem Mh {bs:tE}{rs:tZ}{ts:uE}{Zq:ZZ}{ac:Ig}:∀{m i:Nat},m<=i->(tk bs rs ts Zq ac m).1 i=Zq i
 |0,i,_=>rfl
 |m+1,i,h=>by
  unfold tk;have a:=Mh (bs:=bs) (rs:=rs) (ts:=ts) (Zq:=Zq) (ac:=ac) (m:=m) (i:=i) sZ;split
  .show put _ m _ i=_;rw[Iv<|sZ,a]
  .split
   .show put _ m _ i=_;rw[Iv<|sZ,a]
   .exact a
theorem Tg {l:List RS}(h:LB l=HG):l≠[]:=λz=>by rw[z]at h;cases h
theorem Tn {bs:tE}{rs:tZ}{ts:uE}{Zq:ZZ}{ac:Ig}:∀{m i:Nat},((tk bs rs ts Zq ac m).2 i=HG->i<m)/\((tk bs rs ts Zq ac m).1 i).length=(Zq i).length+(if (tk bs rs ts Zq ac m).2 i=HG then 1 else 0)
 |0,i=>⟨λz=>(by cases z),Z⟩
 |m+1,i=>by
  obtain⟨b,a⟩:=Tn (bs:=bs) (rs:=rs) (ts:=ts) (Zq:=Zq) (ac:=ac) (m:=m) (i:=i);unfold tk;split
  .rename_i c;refine⟨λz=>DM<|b z,?_⟩;show DB (put _ m _ i)=_;by_cases z:i=m
   .subst z;rw[JB];unfold K6;rwa[Vi<|Tg c]
   .rwa[Iv z]
  .split
   .by_cases z:i=m
    .subst z;refine⟨λ_=>BQ _,?_⟩;show DB (put _ i _ i)=_+if put _ i HG i=HG then 1 else 0;rw[JB,JB,HI Z,Ae,AG,Mh<|Al _]
    .refine⟨λw=>?_,?_⟩
     .have w:put _ m HG i=HG:=w;rw[Iv z]at w;exact DM<|b w
     .show DB (put _ m _ i)=_+if put _ m HG i=HG then 1 else 0;rwa[Iv z,Iv z]
   .exact⟨λz=>DM<|b z,a⟩
theorem RV {bs:tE}{rs:tZ}{n:Nat}{ts:uE}{Zq:ZZ}{ac:Ig}{D:Int}{N:Nat}(T:TsOk n ts)(P:PZ n ts Zq D N)(ex:LA bs rs)(x:D<=ac.2.2)(E:N<300):∀{m:Nat},m<=n->PZ n ts (tk bs rs ts Zq ac m).1 ac.2.2 (N+1)
 |0,_=>⟨λi a st h=>(P.ok i a st h).mono x,P.wf,λi a=>⟨BV (P.rl i a).1,λst h=>BV<|(P.rl i a).2 st h⟩,Bh P.D0 x⟩
 |m+1,hm=>by
  have g:=RV (bs:=bs) (rs:=rs) (ac:=ac) T P ex x E (m:=m) sZ;have t:=Mh (bs:=bs) (rs:=rs) (ts:=ts) (Zq:=Zq) (ac:=ac)<|Al m;have A:=λi=>Tn (bs:=bs) (rs:=rs) (ts:=ts) (Zq:=Zq) (ac:=ac) (m:=m) (i:=i);unfold tk;generalize tk bs rs ts Zq ac m=W at g t A |-;obtain⟨Y,f⟩:=W;dsimp only at g t A |-;split
  .rename_i c;have u:=Tg c;have hp:=B4.mpr u;have p:=K8 (l:=Y m) (j:=(Y m).length-1) sZ;have len:∀i,(put Y m (K6 bs rs ts Y m ac) i).length=(Y i).length:=λi=>by
    by_cases z:i=m
    .subst z;rw[JB];unfold K6;rw[Vi u]
    .rw[Iv z]
   have o:∀i st,st∈put Y m (K6 bs rs ts Y m ac) i->st∈Y i\/(i=m/\st=(IZ (ts m).rd ((Y m).getD ((Y m).length-1) Hz) (ID bs rs ts Y 3 m<|(Y m).getD ((Y m).length-1) Hz) (Jf bs rs (ts m).rd ((Y m).getD ((Y m).length-1) Hz)<|ID bs rs ts Y 3 m<|(Y m).getD ((Y m).length-1) Hz) ac.1 ac.2.2 ac.2.1).1):=λi st h=>by
    by_cases z:i=m
    .subst z;rw[JB]at h;unfold K6 at h;rcases As.mp h with h|h
     .exact .inl<|List.dropLast_subset _ h
     .exact .inr ⟨Z,Aj.mp h⟩
    .rw[Iv z]at h;exact .inl h
   have rows:=(P.rl m<|sZ).2 _ (by rwa[<- t]);have C:=Th g ex 3 m _ sZ (g.ok m sZ _ p) (g.wf m sZ _ p);refine⟨λi a st h=>?_,λi a st h=>?_,λi a=>⟨by rw[len];exact(g.rl i a).1,λst h=>?_⟩,g.D0⟩
   .rcases o i st h with h|⟨rfl,rfl⟩
    .exact g.ok i a st h
    .exact Qh (bs:=bs) (rs:=rs) (T.rd i a) (g.ok i a _ p) (AZ _) sZ C
   .rcases o i st h with h|⟨rfl,rfl⟩
    .exact(g.wf i a st h).mono λi=>BN (len i).symm
    .have w:=(g.wf i a _ p).mono (Z':=put Y i<|K6 bs rs ts Y i ac) λi=>BN (len i).symm;rcases Np (rd:=(ts i).rd) (st:=(Y i).getD ((Y i).length-1) Hz) (s:=ID bs rs ts Y 3 i<|(Y i).getD ((Y i).length-1) Hz) (r:=Jf bs rs (ts i).rd ((Y i).getD ((Y i).length-1) Hz)<|ID bs rs ts Y 3 i<|(Y i).getD ((Y i).length-1) Hz) (n:=ac.1) (k:=ac.2.1) (d:=ac.2.2) with e|e
     .unfold WfB;rwa[e]
     .exact⟨.inl e,λk z=>by rw[e]at z;cases z⟩
   .rcases o i st h with h|⟨rfl,rfl⟩
    .exact(g.rl i a).2 st h
    .rcases qyf (rd:=(ts i).rd) (st:=(Y i).getD ((Y i).length-1) Hz) (s:=ID bs rs ts Y 3 i<|(Y i).getD ((Y i).length-1) Hz) (r:=Jf bs rs (ts i).rd ((Y i).getD ((Y i).length-1) Hz)<|ID bs rs ts Y 3 i<|(Y i).getD ((Y i).length-1) Hz) (n:=ac.1) (k:=ac.2.1) (d:=ac.2.2) with e|e
     .rw[e];lia
     .rw[e,Ae,AG];lia
  .split
   .have len:∀i,(Y i).length<=(put Y m (Y m++[KG (ts m) ac f Y]) i).length:=λi=>by
     by_cases z:i=m
     .subst z;rw[JB,Ae];lia
     .rw[Iv z];exact Al _
    have o:∀i st,st∈put Y m (Y m++[KG (ts m) ac f Y]) i->st∈Y i\/(i=m/\st=KG (ts m) ac f Y):=λi st h=>by
     by_cases z:i=m
     .subst z;rw[JB]at h;rcases As.mp h with h|h
      .exact .inl h
      .exact .inr ⟨Z,Aj.mp h⟩
     .rw[Iv z]at h;exact .inl h
    refine⟨λi a st h=>?_,λi a st h=>?_,λi a=>⟨?_,λst h=>?_⟩,g.D0⟩
    .rcases o i st h with h|⟨rfl,rfl⟩
     .exact g.ok i a st h
     .exact⟨⟨.nil,λ_ h=>absurd h A9⟩,g.D0,(T.rd i a).m1,AR _,(by show 1<=400;decide),AR _,(λk v h=>by cases h),λ_ h=>absurd h A9,λq=>by cases q⟩
    .rcases o i st h with h|⟨rfl,rfl⟩
     .exact(g.wf i a st h).mono len
     .refine⟨?_,λk e=>?_⟩
      .unfold KG;dsimp only;cases (ts i).base with
       |none=>exact .inl rfl
       |some b =>
        dsimp only;split
        .exact .inr ⟨_,Z⟩
        .exact .inl rfl
      .unfold KG at e;dsimp only at e;cases y:(ts i).base with
       |none=>rw[y]at e;cases e
       |some b =>
        rw[y]at e;dsimp only at e;split at e
        .rename_i B;cases e;obtain⟨_,l⟩:=A b;have l:(Y b).length=(Zq b).length+1:=l.trans (by rw[HI (show (Y,f).snd b=HG from B)]);refine⟨b,Z,T.ba i a b y,sZ,Ay ?_<|len b⟩;rw[Bb];lia
        .cases e
    .by_cases z:i=m
     .subst z;have:=(P.rl i a).1;show DB (put Y i _ i)<=_;rw[JB,Ae,AG,t];lia
     .show DB (put Y m _ i)<=_;rw[Iv z];exact(g.rl i a).1
    .rcases o i st h with h|⟨rfl,rfl⟩
     .exact(g.rl i a).2 st h
     .show 1<=_;lia
   .exact g
noncomputable def UV:List HN->Pos
 | [.Return (HA<|.Call _ _ [⟨_,.Lambda _ _ _ p,_⟩] _) _]=>p
 |_=>⟨0,0,0,0⟩
abbrev YM:Pos:=UV<|Jv Po
noncomputable abbrev YL:Str:=Aa "in_order.<locals>.<lambda>"
noncomputable def Ju (t:Ig):Int×Str:=(t.2.2,t.1)
noncomputable abbrev dA:Ig:=(AN,AN,0)
def iO (Pt:HC):Sp:=λvs H Q _=>∃(p:HC)(us:tW)(acts:uC),vs=[.ref p]/\H p=HA (.lst us)/\Tups H us (acts.map KA)/\acts.length<64/\Lam.LamAt H Pt YM YL /\
 ∀(q:HC)(H':Hp)(us':tW)(acts':uC),H q=HD->SameBut Pt H H'->Lam.LamAt H' Pt YM YL->acts'.Perm acts->(acts'.Pairwise λx y=>Lam.ltK (Ju y) (Ju x)=HH)->H' q=HA (.lst us')->Tups H' us' (acts'.map KA)->Q (.ref q) H'
theorem Kt {ts:List tW}(t:Tups H us ts)(k:∀b u,H b=HA (.tup u)->H' b=HA (.tup u)):Tups H' us ts:=by
 induction t with
 |nil=>exact .nil
 |cons h _ ih=>exact .cons (k _ _ h) ih
theorem Vp {ts:List tW}{p:HC}{r:tW}(t:Tups H us ts)(h:H p=HA (.tup r)):Tups H (us++[.ref p]) (ts++[r]):=by
 induction t with
 |nil=>exact .cons h .nil
 |cons e _ ih=>exact .cons e ih
theorem qod {H:Hp}{us:tW}{b:uC}(d:Tups H us (b.map KA)):∀(js:tP),(∀i∈js,i<b.length)->Tups H (js.map λi=>us.getD i V.non) ((js.map λi=>b.getD i dA).map KA)
 | [],_=>.nil
 |i::js,h=>by
  have c:=h i Am;obtain⟨a,f,l⟩:=d.get (i:=i) (r:=KA b[i]) (by simp[c]);have g:us.getD i V.non=.ref a:=by rw[Ak,f];rfl
  have e:b.getD i dA=b[i]:=by simp[c]
  rw[AW,AW,AW,g,e];exact .cons l<|qod d js λj k=>h j<|A1 _ k
def iN (a:Adr):Sp:=λvs H Q _=>∃(l:HC)(xs:tW)(b:Bool),vs=[.ref l]/\H l=HA (.lst xs)/\xs.length<=1000/\((xs=[]/\b=HH) \/ ∃(ys:tW)(y:HC)(B:Hp)(S:tI)(rd:RD)(st:RS)(bs:tE)(rs:tZ),xs=ys++[.ref y]/\RunAt a B H y S rd st bs rs/\b = !st.over)/\Q (.bl b) H
noncomputable def KJ:Option Str->V
 |some o=>.str o
 |none=>.non
noncomputable def Vx (ts:uE):tM->V
 |some b=>.str (ts b).name
 |none=>.non
theorem UF (o:Option Str)(k:Str):Wl (.str k) (KJ o)=HG/\decide (V.str k=KJ o)=decide (o=HA k):=by
 cases o with
 |none=>exact⟨Z,by rw[HM sh,HM<|sh]⟩
 |some o =>
  refine⟨Z,?_⟩;show decide (V.str k=V.str o)=_;by_cases e:o=k
  .rw[HJ<|by rw[e],HJ<|by rw[e]]
  .rw[HM<|λz=>e (V.str.inj z).symm,HM<|λz=>e<|A8 z]
def RuleT (a:Adr)(H:Hp)(rl:HC)(ts:uE)(i:Nat):Prop:=∃(dx pe pa pl:HC)(w s py:V)(us:tW),H rl=HA (.ins a.B dx<|Yo (.str (ts i).name) w (.str (ts i).rd.owes) (KJ (ts i).opens) (Vx ts (ts i).base) (.int (ts i).rd.many) (.str<|KM (ts i).rd.unit) s (.ref pe) (.ref pa) (.ref pl) py)/\StAt H s (ts i).rd.still/\H pe=HA (.lst<|(ts i).rd.ends.map V.str)/\H pa=HA (.lst<|(ts i).rd.anew.map V.str)/\H pl=HA (.lst us)/\Tups H us ((ts i).rd.longer.map RO)
theorem RuleT.at (h:RuleT a H b ts i):RuleAt a H b (ts i).rd:=by obtain⟨l,f,d,pl,w,s,m,us,n,e,j,g,k,c⟩:=h;exact Ic l f d pl _ w _ _<|HW s m us ⟨n,e,j,g,k,c⟩
theorem RuleT.same (h:RuleT a H b ts i)(z:Same H H'):RuleT a H' b ts i:=by obtain⟨l,f,d,pl,w,s,m,us,n,e,j,g,k,c⟩:=h;exact Ic l f d pl w s m us ⟨z _ _ n,e.same z,z _ _ j,z _ _ g,z _ _ k,c.same z⟩
def BookT (a:Adr)(H:Hp)(bk:HC)(n:Nat)(ts:uE):Prop:=∃(nms:tG)(us:tW),BookAt a.E H bk nms ((An n).map λi=>(ts i).name) us/\∀i<n,∃(j:Nat)(rl:HC),nm nms j=(ts i).name/\us[j]?=HA (.ref rl)/\RuleT a H rl ts i
theorem BookT.same {bk:HC}(h:BookT a H bk n ts)(z:Same H H'):BookT a H' bk n ts:=by obtain⟨nms,us,k,c⟩:=h;exact(HP nms us ⟨k.same z,λi g=>by obtain⟨j,f,e,d,b⟩:=c i g;exact HP j f ⟨e,d,b.same z⟩⟩)
noncomputable def Im (n:Nat)(ts:uE)(p:tT):List (IC×V):=(An n).map λi=>(.inr (ts i).name,.ref<|p i)
theorem XD:(Im n ts p).length=n:=by unfold Im;rw[Ab,Ar]
theorem jI {a:IC×V}(e:(Im n ts p)[i]?=HA a):i<n/\a=(.inr (ts i).name,.ref<|p i):=by
 unfold Im at e;rw[Ai]at e;by_cases h:i<n
 .rw[AS h]at e;cases e;exact⟨h,Z⟩
 .rw[AH (by rw[Ar];lia)]at e;cases e
theorem qwm {l:List (IC×V)}{k:IC}{v:V}(h:(k,v)∈l)(u:∀w,(k,w)∈l->w=v):Ih l k=HA v:=by
 induction l with
 |nil=>cases h
 |cons p l ih =>
  by_cases e:p.1=k
  .rw[Ls e];exact HR HA (u p.2 (by rw[<- e];exact Am))
  .rw[Ld e];refine ih ((Ax.mp h).resolve_left λz=>e<|by rw[<- z]) λw m=>u w<|A1 _ m
theorem Ph (c:∀i<n,∀j<n,(ts i).name=(ts j).name->i=j)(a:i<n):Ih (Im n ts p) (.inr (ts i).name)=HA (.ref<|p i):=by refine qwm (AQ.mpr ⟨i,AE.mpr a,Z⟩) λw m=>?_;obtain⟨j,b,e⟩:=AQ.mp m;injection e with e1 e2;rw[<- e2,c j (AE.mp b) i a<|CL.inj e1]
noncomputable def KU (ts:uE)(y:tT)(f:Nat->Bool)(m:Nat):List (IC×V):=((An m).filter f).map λi=>(.inr (ts i).name,.ref<|y i)
theorem ZW {l:List (IC×V)}{k:IC}(h:∀w,(k,w)∉l):Ih l k=HD:=by
 induction l with
 |nil=>rfl
 |cons p l ih =>have e:¬p.1=k:=λz=>h p.2 (by rw[<- z];exact Am);rw[Ld e];exact ih λw m=>h w<|A1 _ m
theorem ZV {b:Nat}(k:∀i<n,∀j<n,(ts i).name=(ts j).name->i=j)(hm:m<=n)(o:b<n):Ih (KU ts y f m) (.inr (ts b).name)=if b<m/\f b=HG then HA (.ref<|y b) else HD:=by
 have a:∀w,((CL (ts b).name:IC),w)∈KU ts y f m->b<m/\f b=HG/\w=.ref (y b):=λw h=>by obtain⟨j,d,e⟩:=AQ.mp h;obtain⟨l,g⟩:=Cb.mp d;have d:=AE.mp l;injection e with e1 e2;have:j=b:=k j sZ b o<|CL.inj e1;subst this;exact⟨d,g,e2.symm⟩
 by_cases c:b<m/\f b=HG
 .rw[HI c];exact qwm (AQ.mpr ⟨b,Cb.mpr ⟨AE.mpr c.1,c.2⟩,Z⟩) λw h=>(a w h).2.2
 .rw[HF c];exact ZW λw h=>c ⟨(a w h).1,(a w h).2.1⟩
theorem OG {a:tT}(h:f i=HH)(c:∀j<i,a j=y j):KU ts a f (i+1)=KU ts y f i:=by unfold KU;rw[Bs,Cs,CZ (by rw[h];decide),List.filter_nil,Br];exact BL λj b=>by rw[c j<|AE.mp (Cb.mp b).1]
theorem Qz {b:tT}(c:∀j<i,b j=y j):KU ts b (put f i HG) (i+1)=KU ts y f i++[(.inr (ts i).name,.ref<|b i)]:=by
 unfold KU;rw[Bs,Cs,Cz JB,List.filter_nil,Aq]
 congr 1
 have e:(An i).filter (put f i HG)=(An i).filter f:=List.filter_congr λj a=>by rw[Iv<|AD<|AE.mp a]
 rw[e];exact BL λj a=>by rw[c j<|AE.mp (Cb.mp a).1]
theorem Q0:(KU ts y f m).length<=m:=by unfold KU;rw[Ab];exact Az (Di _ _) (by rw[Ar];exact Al _)
end
section
variable {bs:tE}{rs:tZ}{ts:uE}{Zq:ZZ}{ac:Ig}{i:Nat}
theorem Pb:tk bs rs ts Zq ac (i+1)=if LB ((tk bs rs ts Zq ac i).1 i)=HG then (put (tk bs rs ts Zq ac i).1 i<|K6 bs rs ts (tk bs rs ts Zq ac i).1 i ac,(tk bs rs ts Zq ac i).2)
  else if Kn (ts i) ac.2.1 (tk bs rs ts Zq ac i).2=HG then (put (tk bs rs ts Zq ac i).1 i<|(tk bs rs ts Zq ac i).1 i++[KG (ts i) ac (tk bs rs ts Zq ac i).2 (tk bs rs ts Zq ac i).1],put (tk bs rs ts Zq ac i).2 i HG)
  else tk bs rs ts Zq ac i:=rfl
def SM (c:LB (Zq i)=HG):tk bs rs ts Zq ac (i+1)=(put (tk bs rs ts Zq ac i).1 i<|K6 bs rs ts (tk bs rs ts Zq ac i).1 i ac,(tk bs rs ts Zq ac i).2):=by rw[Pb,HI (by rwa[Mh<|Al i])]
def SN (c:¬LB (Zq i)=HG)(d:Kn (ts i) ac.2.1 (tk bs rs ts Zq ac i).2=HG):tk bs rs ts Zq ac (i+1)=(put (tk bs rs ts Zq ac i).1 i<|(tk bs rs ts Zq ac i).1 i++[KG (ts i) ac (tk bs rs ts Zq ac i).2 (tk bs rs ts Zq ac i).1],put (tk bs rs ts Zq ac i).2 i HG):=by rw[Pb,HF (by rwa[Mh<|Al i]),HI d]
def V8 (c:¬LB (Zq i)=HG)(d:Kn (ts i) ac.2.1 (tk bs rs ts Zq ac i).2=HH):tk bs rs ts Zq ac (i+1)=tk bs rs ts Zq ac i:=by rw[Pb,HF (by rwa[Mh<|Al i]),HF (by rw[d];decide)]
end
section
variable {ts:uE}{Y Zq:ZZ}{i:Nat}{f:Nat->Bool}{n:Str}{x g:tV}{H H':Hp}{e b a d:HC}{q:tT}{st:RS}{s r:tJ}{rs:tZ}{o:HO}
theorem qwn {l:List RS}(h:l≠[]):LB l = !(l.getD (l.length-1) Hz).over:=by have hp:=B4.mpr h;unfold LB;rw[Du,Ak,Ad<|sZ];rfl
theorem qs1 {l:Nat}(h:0<l)(f:tT):((An l).map λj=>V.ref<|f j)=((An<|l-1).map λj=>V.ref<|f j)++[V.ref<|f<|l-1]:=by obtain⟨k,rfl⟩:∃k,l=k+1:=⟨l-1,sZ⟩;rw[Bs,Aq];rfl
theorem QB {ac:Ig}(c:∀b,(ts i).base=HA b->b<i)(g:∀b,f b=HG->(Y b).length=(Zq b).length+1):WfB ts Y i (KG (ts i) ac f Y):=by
 refine⟨?_,λk e=>?_⟩
 .unfold KG;dsimp only;cases (ts i).base with
  |none=>exact .inl rfl
  |some b =>
   dsimp only;split
   .exact .inr ⟨_,Z⟩
   .exact .inl rfl
 .unfold KG at e;dsimp only at e;cases a:(ts i).base with
  |none=>rw[a]at e;cases e
  |some b =>
   rw[a]at e;dsimp only at e;split at e
   .rename_i d;cases e;have:=g b d;exact⟨b,Z,c b a,sZ,by rw[Bb];lia⟩
   .cases e
theorem QC {n:Nat}{ac:Ig}(c:∀i<n,∀j<n,(ts i).name=(ts j).name->i=j)(g:i<n)(h:∀b,(ts i).base=HA b->b<i)(m:∀b,f b=HG->(Y b).length=(Zq b).length+1)(a:H e=HA (.dK<|KU ts (λj=>x j (Zq j).length) f i)) :
  ∃o:tX,Ws H e (Vx ts (ts i).base) o/\o.isSome=fB (ts i).base f/\o.getD .non=LX x (ts i).base (KG (ts i) ac f Y).bv:=by
 unfold KG;dsimp only;cases l:(ts i).base with
 |none=>exact⟨HD,.inl ⟨Z,Z,_,.inl a⟩,Z,Z⟩
 |some b =>
  have lt:=h b l;refine⟨_,.inr<|DGet.k (k:=.inr (ts b).name) a,?_,?_⟩
  .rw[ZV c (Bt g)<|sZ];show _=f b;cases d:f b with|true=>rw[HI ⟨lt,Z⟩];rfl|false=>rw[HF<|λz=>nomatch z.2];rfl
  .rw[ZV c (Bt g)<|sZ];show _=LX x (HA b) (if f b=HG then V.int (((Y b).length-1:Nat):Int) else V.non);cases d:f b with|true =>rw[HI ⟨lt,Z⟩,HI Z];show V.ref (x b (Zq b).length)=V.ref (x b ((((Y b).length-1:Nat):Int)).toNat);rw[Bb,m b d,D9]|false =>rw[HF (λz=>nomatch z.2),HF Ud];rfl
def Se (a:Adr):Sp:=λvs H Q _=>∃(bk tb pd aa:HC)(B:Hp)(n N:Nat)(ts:uE)(Zq:ZZ)(x:tV)(S:Nat->Nat->tI)(p:tT)(bs:tE)(rs:tZ)(D:Int)(ac:Ig),vs=[.ref bk,.ref tb,.ref pd,.ref aa]/\TsOk n ts/\BookT a B bk n ts/\TabAt a.D a.C B tb bs rs/\TabOk bs rs/\LA bs rs/\B aa=HA (.tup<|KA ac)/\H pd=HA (.dK<|Im n ts p)/\WH a B H n ts Zq x S p (λi=>(Zq i).length) [pd] bs rs/\PZ n ts Zq D N/\D<=ac.2.2/\N<300 /\
 ∀(H' B':Hp)(x':tV)(S':Nat->Nat->tI),Same B B'->H' pd=HA (.dK<|Im n ts p)->WH a B' H' n ts (tk bs rs ts Zq ac n).1 x' S' p (λi=>((tk bs rs ts Zq ac n).1 i).length) [pd] bs rs->Q .non H'
noncomputable def Js (st:RS):Str:=(st.rows.headD (AN,0,AN)).1
def AccI (bs:tE)(rs:tZ)(ts:uE)(Zq:ZZ)(i:Nat)(H:Hp)(l:HC)(y p4 p6:tT):Prop:=H l=HA (.lst<|(An (Zq i).length).map λj=>.ref<|y j)/\∀j<(Zq i).length,AccAt H (y j) (p4 j) (p6 j) (Js<|(Zq i).getD j Hz) ((Zq i).getD j Hz) (ID bs rs ts Zq 3 i<|(Zq i).getD j Hz)<|Jf bs rs (ts i).rd ((Zq i).getD j Hz)<|ID bs rs ts Zq 3 i<|(Zq i).getD j Hz
theorem AccAt.same {q:HC}(h:AccAt H q b a n st s r)(z:Same H H'):AccAt H' q b a n st s r:=⟨z _ _ h.1,h.2.1.same z,h.2.2.same z⟩
theorem AccI.same {bs:tE}{l:HC}{y b a:tT}(h:AccI bs rs ts Zq i H l y b a)(z:Same H H'):AccI bs rs ts Zq i H' l y b a:=⟨z _ _ h.1,λj c=>(h.2 j c).same z⟩
def ToldAt (bs:tE)(rs:tZ)(ts:uE)(Zq:ZZ)(n:Nat)(H:Hp)(d:HC)(q:tT)(y p4 p6:tV):Prop:=H d=HA (.dK<|Im n ts q)/\∀i<n,AccI bs rs ts Zq i H (q i) (y i) (p4 i)<|p6 i
theorem ToldAt.same {bs:tE}{n:Nat}{y b a:tV}(h:ToldAt bs rs ts Zq n H d q y b a)(z:Same H H'):ToldAt bs rs ts Zq n H' d q y b a:=⟨z _ _ h.1,λi c=>(h.2 i c).same z⟩
def sM (H:Hp)(Zq:ZZ)(n:Nat)(d:HC)(q:tT)(y p4 p6:tV):Prop:=H d=HD/\∀i<n,H (q i)=HD/\∀j<(Zq i).length,H (y i j)=HD/\H (p4 i j)=HD/\H (p6 i j)=HD
def RC (Zq:ZZ)(n:Nat)(q:tT)(p4 p6:tV):Prop:=∀i1<n,∀i2<n,(i1≠i2->q i1≠q i2)/\∀j<(Zq i2).length,q i1≠p4 i2 j/\q i1≠p6 i2 j
theorem MW {l:tV}{n k:tT}(h:RC Zq i q l g)(a:∀c<i,q c≠e/\(∀j<(Zq c).length,e≠l c j/\e≠g c j)/\∀j<(Zq i).length,q c≠n j/\q c≠k j)(b:∀j<(Zq i).length,e≠n j/\e≠k j):RC Zq (i+1) (put q i e) (put l i n) (put g i k):=by
 intro c _ f _;by_cases o:c=i
 .subst o;rw[JB];by_cases d:f=c
  .subst d;rw[JB,JB,JB];exact⟨λz=>absurd Z z,b⟩
  .rw[Iv d,Iv d,Iv d];obtain⟨m,p,_⟩:=a f sZ;exact⟨λ_=>By m,p⟩
 .rw[Iv o];by_cases d:f=i
  .subst d;rw[JB,JB,JB];obtain⟨m,_,r⟩:=a c sZ;exact⟨λ_=>m,r⟩
  .rw[Iv d,Iv d,Iv d];exact h c sZ f sZ
noncomputable def Kb (l:tI)(H:Hp):Hp:=λb=>if b∈l then HD else H b
theorem Tf {l:tI}(n:b∉l)(h:H b=HA o):Kb l H b=HA o:=by unfold Kb;rwa[HF n]
theorem Te {l:tI}(e:Kb l H b=HA o):b∉l/\H b=HA o:=by
 unfold Kb at e;by_cases c:b∈l
 .rw[HI c]at e;cases e
 .rw[HF c]at e;exact⟨c,e⟩
theorem XO {l a:tI}(h:∀b∈a,b∈l)(k:∀b o,b∉l->H b=HA o->H' b=HA o):Same (Kb l H) (Kb a H'):=λb o e=>by obtain⟨n,e⟩:=Te e;exact Tf (λz=>n<|h b z)<|k b o n e
theorem oC {l:tI}(k:∀b o,b∉l->H b=HA o->H' b=HA o):Same (Kb l H) H':=λb o e=>by obtain⟨n,e⟩:=Te e;exact k b o n e
theorem AccAt.ofL {q:HC}{l:tI}(h:AccAt H q d a n st s r)(k:∀c∈l,∀t,H c≠HA (.tup t))(p:d∉l)(u:a∉l):AccAt (Kb l H) q d a n st s r:=by have f:∀b t,H b=HA (.tup t)->Kb l H b=HA (.tup t):=λb t e=>Tf (λz=>k b z t e) e;obtain⟨w,⟨g,j,o⟩,⟨i,m,v⟩⟩:=h;exact⟨f _ _ w,⟨g,Tf p j,Kt o f⟩,⟨i,Tf u m,Kt v f⟩⟩
def KpT (H H':Hp):Prop:=∀b o,(∀t,o ≠ .tbl t)->H b=HA o->H' b=HA o
theorem KpT.of {ps:tO}(h:H a=HA (.tbl ps))(k:SameBut a H H'):KpT H H':=λb o n e=>k b o (λz=>by rw[z,h]at e;exact n ps (A8 e).symm) e
end
section
variable {H H':Hp}(k:KpT H H')
include k
def jH {us:tW}{ts:List tW}(t:Tups H us ts):Tups H' us ts:=Kt t λb u e=>k b _ sh e
theorem U2 {a:Adr}{bk:HC}{n:Nat}{ts:uE}(h:BookT a H bk n ts):BookT a H' bk n ts:=by
 obtain⟨nms,us,⟨d,q,y,kvs,I,m,A,t⟩,D⟩:=h;refine HP nms us ⟨(Hv d q y kvs ⟨k _ _ sh I,k _ _ sh m,k _ _ sh A,t⟩),λi E=>?_⟩;obtain⟨j,x,v,u,d,o,l,pl,w,s,G,us,B,c,r,p,F,C⟩:=D i E;refine HP j x ⟨v,u,d,o,l,pl,w,s,G,us,k _ _ sh B,?_,k _ _ sh r,k _ _ sh p,k _ _ sh F,jH k C⟩;cases e:(ts i).rd.still with
 |none=>rwa[e]at c
 |some z=>rw[e]at c;obtain⟨b,g,f⟩:=c;exact⟨b,g,k _ _ sh f⟩
def V9 {a C t:HC}{bs:tE}{rs:tZ}(h:TabAt a C H t bs rs):TabAt a C H' t bs rs:=by obtain⟨o,p,q,z,s,⟨b,m,e,g,d,j,i,n,c⟩,⟨us,l,r⟩,f⟩:=h;exact Hv o p q z ⟨k _ _ sh s,(Hv b m e g ⟨k _ _ sh d,k _ _ sh j,k _ _ sh i,k _ _ sh n,c⟩),⟨us,k _ _ sh l,jH k r⟩,k _ _ sh f⟩
end
section
variable {a:Adr}{B H H' J:Hp}{rs:tZ}{n i j:Nat}{ts:uE}{b:HC}{o:HO}{R:Prop}{v:V}{σ σ':L2.St}{D:L2.Ends}{α β:Type}{s u:Int}{names:tG}{us:tW}{Ts:List TD}
theorem Ma {x:HC}{S:tI}{rd:RD}{st:RS}{bs:tE}(h:RunAt a B H x S rd st bs rs):x∈S:=by obtain⟨_,_,_,_,_,_,_,_,rfl,_⟩:=h;exact Am
theorem WH.inj {Zq:ZZ}{x:tV}{S:Nat->Nat->tI}{p:tT}{L:Nat->Nat}{E:tI}{bs:tE}(W:WH a B H n ts Zq x S p L E bs rs){b:Nat}(c:i<n)(f:j<(Zq i).length)(d:b<(Zq i).length)(e:x i j=x i b):j=b:=by
 by_cases z:j=b
 .exact z
 .exact absurd (e ▸ Ma (W.R i c b d))<|W.sep i c j f i c b d (.inr z) _<|Ma<|W.R i c j f
def OS (acts:uC):Prop:=acts.Pairwise λx y=>Lam.ltK (Ju y) (Ju x)=HH
def Sz (a:Adr)(Pt:HC):Sp:=λvs H Q _=>∃(bk tb pa:HC)(us:tW)(acts:uC)(n:Nat)(ts:uE)(bs:tE)(rs:tZ),vs=[.ref bk,.ref tb,.ref pa]/\TsOk n ts/\BookT a H bk n ts/\TabAt a.D a.C H tb bs rs/\TabOk bs rs/\LA bs rs/\H pa=HA (.lst us)/\Tups H us (acts.map KA)/\acts.length<=20/\(∀t∈acts,0<=t.2.2)/\Lam.LamAt H Pt YM YL /\
 ∀(d:HC)(H':Hp)(acts':uC)(q:tT)(y p4 p6:tV),SameBut Pt H H'->Lam.LamAt H' Pt YM YL->acts'.Perm acts->OS acts'->ToldAt bs rs ts (KB bs rs ts n acts') n H' d q y p4 p6->sM H (KB bs rs ts n acts') n d q y p4 p6->PZ n ts (KB bs rs ts n acts') (acts'.getLastD dA).2.2 acts'.length->RC (KB bs rs ts n acts') n q p4 p6->Q (.ref d) H'
theorem pF {bs:tE}{l:uC}{ac:Ig}:KB bs rs ts n (l++[ac])=(tk bs rs ts (KB bs rs ts n l) ac n).1:=by unfold KB;rw[CP];rfl
theorem qwo {a:uC}(h:OS a){x y:Ig}(b:i<j)(c:a[i]?=HA x)(g:a[j]?=HA y):x.2.2<=y.2.2:=by obtain⟨d,e⟩:=Ac.mp c;obtain⟨k,f⟩:=Ac.mp g;have:=Ba.mp h i j d k b;rw[e,f,Lam.ltK_no]at this;have:¬y.2.2<x.2.2:=λz=>this<|.inl z;lia
noncomputable def Oo (c:Int):Three:=if c % 3=0 then .a else if c % 3=1 then .b else .c
theorem SK (c:Int):JN [V.str<|Aa "days",V.str<|Aa "weeks",V.str<|Aa "court"] (c % 3)=HA (V.str<|KM<|Oo c):=by unfold Oo;rcases (by lia:c % 3=0\/c % 3=1\/c % 3=2) with e|e|e <;>rw[e] <;>rfl
def Jn (ns:tL)(k:Int):Int:=(cell ns k+1+k*k)*48271 % 2147483647*(69621+2*k) % 2147483629
theorem Vh (a:tL)(k:Int):0<=Jn a k/\Jn a k<2147483629:=by unfold Jn;lia
def WV (K:Ag):Sp:=λvs H Q _=>∃(l:HC)(ns:tL)(k:Int),vs=[.ref l,.int k]/\SqL K H l (ns.map V.int)/\0<=k/\k<=100/\Q (.int<|Jn ns k) H
noncomputable def Lf (H H':Hp):Hp:=λb=>if H b=HD then H' b else HD
theorem OW (n:H b=HD)(e:H' b=HA o):Lf H H' b=HA o:=by unfold Lf;rwa[HI n]
theorem Wt (e:Lf H H' b=HA o):H b=HD/\H' b=HA o:=by
 unfold Lf at e;by_cases c:H b=HD
 .rw[HI c]at e;exact⟨c,e⟩
 .rw[HF c]at e;cases e
theorem M6 {a:Hp}(k:∀b o,H b=HD->H' b=HA o->a b=HA o):Same (Lf H H') a:=λb o e=>by obtain⟨d,c⟩:=Wt e;exact k b o d c
theorem M5 {a:Hp}(s:Same J a):Same (Lf H J) (Lf H a):=λb o e=>by obtain⟨d,c⟩:=Wt e;exact OW d<|s _ _ c
def RuleB (a:Adr)(H:Hp)(rl:HC)(t:TD)(bv:V):Prop:=∃(dx pe pa pl:HC)(w s py:V)(us:tW),H rl=HA (.ins a.B dx<|Yo (.str t.name) w (.str t.rd.owes) (KJ t.opens) bv (.int t.rd.many) (.str<|KM t.rd.unit) s (.ref pe) (.ref pa) (.ref pl) py)/\StAt H s t.rd.still/\H pe=HA (.lst<|t.rd.ends.map V.str)/\H pa=HA (.lst<|t.rd.anew.map V.str)/\H pl=HA (.lst us)/\Tups H us (t.rd.longer.map RO)
theorem RuleB.same {t:TD}{bv:V}(h:RuleB a H b t bv)(z:Same H H'):RuleB a H' b t bv:=by obtain⟨k,f,d,pl,w,s,l,us,m,e,i,g,j,c⟩:=h;exact Ic k f d pl w s l us ⟨z _ _ m,e.same z,z _ _ i,z _ _ g,z _ _ j,c.same z⟩
theorem V6 {p:tX->tX->Prop}{f:tX->tX->L2.St}{k:L2.St->Hp->Prop}(m:(∀x y,p x y->k (f x y) J)->R)(l:∀x y,p x y->k (f x y) J):R:=m l
theorem Pf {p:tX->Hp->Prop}{f:tX->L2.St}{k:L2.St->Hp->Prop}(m:(∀x J,p x J->k (f x) J)->R)(l:∀x J,p x J->k (f x) J):R:=m l
theorem JC {k:L2.St->Hp->Prop}(e:σ.set i (HA v)=σ')(h:k σ' H):Ja i v σ H k:=by subst e;exact h
theorem as2 (e:σ.set i (HA v)=σ')(h:D.nx σ' H):VS (tC v) (Ja i) D σ H:=by subst e;exact h
theorem Kj (e:σ=σ')(h:D.nx σ' H):RH D σ H:=by subst e;exact h
theorem VV {a:tG}(h:j<a.length):JN (a.map V.str) (j:Int)=HA (.str<|a.getD j AN):=Jz (by rw[Ai,Ak,Ad h];rfl)
theorem Rc {a:tG}{x:Int}(h0:0<=x)(h:x<a.length):JN (a.map V.str) x=HA (.str<|a.getD x.toNat AN):=by obtain⟨j,rfl⟩:∃j:Nat,x=(j:Int):=⟨x.toNat,sZ⟩;rw[Bb];exact VV sZ
theorem oJ (f:Nat->α)(g:α->β)(i:Nat):((An<|i+1).map f).map g=((An i).map f).map g++[g<|f i]:=by rw[Bs,Aq,Aq];rfl
noncomputable def KS (names:tG):tM->V
 |some b=>.str (names.getD b AN)
 |none=>.non
structure TdOk (names:tG)(t:TD)(k:Nat):Prop where
 nm:t.name=names.getD k AN
 ba:∀b,t.base=HA b->b<k
 op:t.base=HD->∃o,t.opens=HA o
 rd:RdOk t.rd
 ls:t.rd.ends.length<=2/\t.rd.anew.length<=2/\t.rd.longer.length<=2
 o2:∀b,t.base=HA b->t.opens=HD
 ap:∀s,t.rd.still=HA s->s.1≠s.2/\s.1∉t.rd.longer.map (·.1)/\s.2∉t.rd.longer.map (·.1)
theorem SZ:∀r∈An 11,∀s∈An 11,∀i∈An 10,∀j∈An 10,s≠0->(r+i*s) % 11=(r+j*s) % 11->i=j:=Uk
theorem WO {one:Int}(h1:1<=s)(h2:s<=10)(b:i<10)(a:j<10)(e:((one+(0+(i:Int))*s) % 11).toNat=((one+(0+(j:Int))*s) % 11).toNat):i=j:=by
 obtain⟨q,rfl⟩:∃q:Nat,s=(q:Int):=⟨s.toNat,sZ⟩;have f:∀k:Nat,((one+(0+(k:Int))*(q:Int)) % 11).toNat=((one % 11).toNat+k*q) % 11:=λk=>by rw[BD,<- Int.natCast_mul];generalize k*q=y;lia
 rw[f,f]at e;exact SZ _ (AE.mpr<|sZ) q (AE.mpr<|sZ) i (AE.mpr b) j (AE.mpr a) sZ e
theorem md3 (x:Int):(x % 3).toNat<=2:=sZ
theorem YZ {a:tG}{g:Option (Str×Str)}{v:Int}(b:∀i j,i<10->j<10->a.getD i AN=a.getD j AN->i=j)(c:∀z,g=HA z->z.1=a.getD 6 AN/\z.2=a.getD 7 AN)(hn:n<=2):∀s,g=HA s->s.1≠s.2/\s.1∉((An n).map λq=>((a.getD (4+q) AN,u,v):Str×Int×Int)).map (·.1)/\s.2∉((An n).map λq=>((a.getD (4+q) AN,u,v):Str×Int×Int)).map (·.1):=λs es=>by
 obtain⟨o,k⟩:=c s es;have f:∀m,5<m->m<10->a.getD m AN∉((An n).map λq=>((a.getD (4+q) AN,u,v):Str×Int×Int)).map (·.1):=λm _ l h=>by rw[Cc]at h;obtain⟨q,d,e⟩:=AQ.mp h;have d:=AE.mp d;have:=b (4+q) m sZ l e;lia
 rw[o,k];exact⟨λz=>by have:=b 6 7 Ud Ud z;lia,f 6 Ud Ud,f 7 Ud Ud⟩
theorem qyg (nd:names.Nodup)(b:i<names.length)(a:j<names.length)(e:names.getD i AN=names.getD j AN):i=j:=by rw[Ak,Ak,Ad b,Ad a]at e;exact(List.getElem_inj nd).mp e
def Sm (a:Adr)(K:Ag):Sp:=λvs H Q _=>∃(l pn pk:HC)(ns:tL)(names kinds:tG)(k:Nat),vs=[.ref l,.int 4,.int (k:Int),.ref pn,.ref pk]/\SqL K H l (ns.map V.int)/\H pn=HA (.lst<|names.map V.str)/\names.length=26/\H pk=HA (.lst<|kinds.map V.str)/\11<=kinds.length/\kinds.Nodup/\k<4 /\
 ∀(x:HC)(H':Hp)(t:TD),Same H H'->H x=HD->TdOk names t k->RuleB a (Lf H H') x t (KS names t.base)->Q (.ref x) H'
def RsL (a:Adr)(H:Hp)(us:tW)(Ts:List TD)(names:tG):Prop:=us.length=Ts.length/\∀(j:Nat)(t:TD),Ts[j]?=HA t->∃rl,us[j]?=HA (.ref rl)/\RuleB a H rl t (KS names t.base)
theorem RsL.same (h:RsL a H us Ts names)(s:Same H H'):RsL a H' us Ts names:=⟨h.1,λj t e=>by obtain⟨c,d,b⟩:=h.2 j t e;exact⟨c,d,b.same s⟩⟩
theorem RsL.snoc {x:HC}{t:TD}(h:RsL a H us Ts names)(r:RuleB a H x t (KS names t.base)):RsL a H (us++[.ref x]) (Ts++[t]) names:=by
 refine⟨by rw[Ae,Ae,h.1];rfl,λj t' e=>?_⟩;by_cases c:j<Ts.length
 .rw[AB c]at e;obtain⟨d,f,b⟩:=h.2 j t' e;exact⟨d,by rw[AB (by rwa[h.1])];exact f,b⟩
 .rw[AV<|sZ]at e;have:j-Ts.length=0:=by have:=(Ac.mp e).1;simpa using this
  rw[this]at e;cases e;exact⟨x,by rw[AV (by rw[h.1];lia),h.1,this];rfl,r⟩
theorem RsL.rev (h:RsL a H us Ts names):RsL a H us.reverse Ts.reverse names:=by refine⟨by rw[B3,B3,h.1],λj t e=>?_⟩;have b:=(Ac.mp e).1;rw[B3]at b;rw[Dj b]at e;obtain⟨d,f,c⟩:=h.2 _ t e;exact⟨d,by rw[Dj (by rwa[h.1]),h.1];exact f,c⟩
def S5 (a:Adr)(K:Ag):Sp:=λvs H Q _=>∃(l pn pk:HC)(ns:tL)(names kinds:tG),vs=[.ref l,.ref pn,.ref pk]/\SqL K H l (ns.map V.int)/\H pn=HA (.lst<|names.map V.str)/\names.length=26/\H pk=HA (.lst<|kinds.map V.str)/\11<=kinds.length/\kinds.Nodup /\
 ∀(pr:HC)(H':Hp)(us:tW)(Ts:List TD)(rv:Bool),H pr=HD->Same H H'->1<=Ts.length->Ts.length<=4->(∀k t,Ts[k]?=HA t->TdOk names t k)->H' pr=HA (.lst us)->RsL a (Kb [pr] H') us (if rv=HG then Ts.reverse else Ts) names->Q (.ref pr) H'
def LR (t:TD):tG:=t.rd.owes::(t.rd.ends++t.rd.anew++t.rd.longer.map (·.1))++(t.opens.toList++(match t.rd.still with|some s=>[s.1,s.2] | none=>[]))
def Sw (a:Adr):Sp:=λvs H Q _=>∃(pr:HC)(us:tW)(Ts:List TD)(names:tG),vs=[.ref pr]/\H pr=HA (.lst us)/\RsL a H us Ts names/\Ts.length<=4/\(∀t∈Ts,t.rd.ends.length<=2/\t.rd.anew.length<=2/\t.rd.longer.length<=2) /\
 ∀(q:HC)(H':Hp),H q=HD->Same H H'->H' q=HA (.lst<|(Ts.flatMap LR).map V.str)->Q (.ref q) H'
theorem qyh {t:TD}(h:t.rd.ends.length<=2/\t.rd.anew.length<=2/\t.rd.longer.length<=2):(LR t).length<=10:=by
 unfold LR;have h1:t.opens.toList.length<=1:=by cases t.opens <;>simp
 have h2:(match t.rd.still with|some s=>[s.1,s.2] | none=>([]:tG)).length<=2:=by cases t.rd.still <;>simp
 rw[Ae,Ae,AA,Ae,Ae,Ab];lia
theorem qs2 (h:∀t∈Ts,t.rd.ends.length<=2/\t.rd.anew.length<=2/\t.rd.longer.length<=2):(Ts.flatMap LR).length<=10*Ts.length:=by
 induction Ts with
 |nil=>exact Al _
 |cons t Ts ih =>have:=ih λx a=>h x<|A1 _ a;have:=qyh<|h t Am;rw[List.flatMap_cons,Ae,AA];lia
theorem WN (h1:1<=s)(h2:s<=22)(d:i<23)(c:j<23)(e:((i:Int)*s+s / 2) % 23=((j:Int)*s+s / 2) % 23):i=j:=by
 have b:((An 23).all λs=>(An 23).all λi=>(An 23).all λj=>s == 0 || (i*s+s / 2) % 23 != (j*s+s / 2) % 23 || i == j)=HG:=Uk;obtain⟨t,rfl⟩:∃t:Nat,s=(t:Int):=⟨s.toNat,sZ⟩;have e:(i*t+t / 2) % 23=(j*t+t / 2) % 23:=by exact_mod_cast e
 have a:=B8.mp (B8.mp (B8.mp b t<|AE.mpr<|sZ) i<|AE.mpr d) j<|AE.mpr c;rw[e]at a;simp at a;lia
theorem oB (nd:names.Nodup)(b:i<names.length)(a:j<names.length)(e:names.getD i AN=names.getD j AN):i=j:=by rw[Ak,Ak,Ad b,Ad a]at e;exact(List.getElem_inj nd).mp e
def sL (names:tG)(s:Int)(acts:uC):Prop:=∀(j:Nat)(t:Ig),acts[j]?=HA t->t.1=names.getD (((j:Int)*s+s / 2) % 23).toNat AN
theorem UL {a:uC}(ln:names.length=26)(nd:names.Nodup)(f:1<=s)(b:s<=22)(l:a.length<=20)(h:sL names s a):(a.map (·.1)).Nodup:=by rw[Ct,Ck,Ba];intro i j d c _ e;have g:=h i a[i]<|Ad d;have k:=h j a[j]<|Ad c;rw[g,k]at e;have:=oB nd sZ sZ e;have:=WN f b (i:=i) (j:=j) sZ sZ sZ;lia
def S7 (a:Adr)(K:Ag):Sp:=λvs H Q _=>∃(l pr pn:HC)(ns:tL)(names:tG)(us:tW)(Ts:List TD)(first:Int)(many:Nat),vs=[.ref l,.ref pr,.ref pn,.int first,.int (many:Int)]/\SqL K H l (ns.map V.int)/\H pr=HA (.lst us)/\RsL a H us Ts names/\1<=Ts.length/\Ts.length<=4/\(∀t∈Ts,t.rd.ends.length<=2/\t.rd.anew.length<=2/\t.rd.longer.length<=2)/\(∃t∈Ts,∃o,t.opens=HA o)/\H pn=HA (.lst<|names.map V.str)/\names.length=26/\names.Nodup/\0<=first/\many<=20 /\
 ∀(q:HC)(H':Hp)(uA:tW)(acts:uC)(s:Int),H q=HD->Same H H'->H' q=HA (.lst uA)->Tups (Lf H H') uA (acts.map KA)->acts.length=many->1<=s->s<=22->sL names s acts->(∀t∈acts,first<=t.2.2)->Q (.ref q) H'
theorem NF {a b:Int×Str}(h:Lam.ltK a b=HG):Lam.ltK b a=HH:=(Lam.ordK [a,b]).1 0 1 h
theorem UP {y f t:Int×Str}(b:Lam.ltK y f=HH)(a:Lam.ltK f t=HH):Lam.ltK y t=HH:=(Lam.ordK [t,f,y]).2 0 1 2 a b
theorem qs3 {a:uC}{t:Ig}{k:Nat}(h:OS a)(hk:k<=a.length)(m:∀j x,j<k->a[j]?=HA x->Lam.ltK (Ju x) (Ju t)=HG)(i:∀x,a[k]?=HA x->Lam.ltK (Ju x) (Ju t)=HH):OS (a.take k++t::a.drop k):=by
 have d:OS (a.drop k):=h.sublist<|List.drop_sublist k a;have e:=Bg.mp (show (a.take k++a.drop k).Pairwise _ by rwa[BM]);refine Bg.mpr ⟨e.1,BF.mpr ⟨λy b=>?_,d⟩,λx f y b=>?_⟩
 .by_cases z:k<a.length
  .rw[BS z]at b d;have g:=i _<|Ad z;rcases Ax.mp b with rfl|b
   .exact g
   .exact UP ((BF.mp d).1 y b) g
  .rw[List.drop_eq_nil_of_le<|sZ]at b;cases b
 .rcases Ax.mp b with rfl|b
  .obtain⟨j,c⟩:=Bx f;have l:=(Ac.mp c).1;rw[Bp]at l;rw[List.getElem?_take_of_lt<|sZ]at c;exact NF (m j x sZ c)
  .exact e.2.2 x f y b
def Si:Sp:=λvs H Q _=>∃(p:HC)(us:tW)(acts:uC),vs=[.ref p]/\H p=HA (.lst us)/\Tups H us (acts.map KA)/\acts.length<=20 /\
 ∀(q:HC)(H':Hp)(us':tW)(acts':uC),H q=HD->Same H H'->acts'.Perm acts->OS acts'->H' q=HA (.lst us')->Tups H us' (acts'.map KA)->Q (.ref q) H'
end
section
variable {H J J':Hp}{Zq:ZZ}{n:Nat}{d:HC}{kvs:List (IC×V)}{q:tT}{p4 p6:tV}{L:Nat->tW}{N m:Nat}
end
section
variable {n j i:Nat}{rv:Bool}
theorem UR {g b:tU}{ps:tu}{s m:Int}(c:TR g)(d:TR b)(j:0<=s)(i:1<=m):∃r,LP g b ps s m r:=by
 obtain⟨h,a⟩:=Qg (ps:=ps) c j i;cases h with
 |none=>exact⟨HD,.inl ⟨a,Z⟩⟩
 |some f =>obtain⟨r,e⟩:=Uy (ps:=ps) d (f:=f) (by have:=a.1;lia);exact⟨r,.inr ⟨f,a,e⟩⟩
def Yx (K:Ag)(Pt:HC):Sp:=λvs H Q _=>∃(a:HC)(ns:tL),vs=[.ref a]/\SqL K H a (ns.map V.int)/\ns.length<=63/\H Pt=HA (.tbl #[])/\∀H',Q (.bl HG) H'
theorem MG {x y:Str}(h:x.cps.toList=y.cps.toList):x=y:=by obtain⟨a⟩:=x;obtain⟨b⟩:=y;have:a=b:=Array.toList_inj.mp h;rw[this]
theorem UQ {a b:Int×Str}(d:Lam.ltK a b=HH)(c:Lam.ltK b a=HH):a.2=b.2:=by
 rw[Lam.ltK_no]at d c;have e:a.1=b.1:=by have:=λz=>d<|.inl z;have:=λz=>c<|.inl z;lia
 exact MG<|List.le_antisymm (List.not_lt.mp λz=>c<|.inr ⟨e.symm,z⟩)<|List.not_lt.mp λz=>d<|.inr ⟨e,z⟩
theorem qs4:∀{l m:uC},l.Perm m->(l.map (·.1)).Nodup->OS l->OS m->l=m
 | [],m,p,_,_,_=>p.nil_eq
 |x::l,[],p,_,_,_=>by have:=p.length_eq;cases this
 |x::l,y::m,p,nd,hl,hm=>by
  have e:x=y:=by
   by_cases z:x=y
   .exact z
   .exfalso;have f:x∈m:=by
     rcases Ax.mp (p.mem_iff.mp<|Am (a:=x) (l:=l)) with h|h
     .exact absurd h z
     .exact h
    have b:y∈l:=by
     rcases Ax.mp (p.mem_iff.mpr<|Am (a:=y) (l:=m)) with h|h
     .exact absurd h.symm z
     .exact h
    have d:=(BF.mp hl).1 y b;have c:=(BF.mp hm).1 x f;have g:y.1=x.1:=UQ d c;rw[AW,C2]at nd;exact nd.1<|g ▸ List.mem_map_of_mem b
  subst e;rw[AW,C2]at nd;rw[qs4 p.cons_inv nd.2 (BF.mp hl).2 (BF.mp hm).2]
inductive GoodI (bs:sr) (n:Nat):tP->Prop
 |nil:GoodI bs n []
 |snoc {l:tP} {k:Nat}:GoodI bs n l->k<n->k∉l->(∀b,bo bs k=HA b->b∈l)->GoodI bs n (l++[k])
theorem GoodI.lt {bs:sr}{l:tP}(h:GoodI bs n l):∀k∈l,k<n:=by
 induction h with
 |nil=>exact λk h=>absurd h A9
 |snoc _ hk _ _ ih =>
  intro x a;rcases As.mp a with h|h
  .exact ih x h
  .rwa[Aj.mp h]
theorem GoodI.nd {bs:sr}{l:tP}(h:GoodI bs n l):l.Nodup:=by
 induction h with
 |nil=>exact .nil
 |snoc _ _ hn _ ih =>refine Ey.mpr ⟨ih,CY _ _,λa c b d z=>?_⟩;rw[Aj.mp d]at z;exact hn<|z ▸ c
theorem GoodI.base {bs:sr}{l:tP}(h:GoodI bs n l):∀(i k b:Nat),l[i]?=HA k->bo bs k=HA b->∃j,j<i/\l[j]?=HA b:=by
 induction h with
 |nil=>intro i k b e;cases e
 | @snoc l k0 _ _ _ hb ih =>
  intro i k b a f;by_cases c:i<l.length
  .rw[AB c]at a;obtain⟨j,d,o⟩:=ih i k b a f;exact⟨j,d,by rwa[AB<|sZ]⟩
  .rw[AV<|sZ]at a;have g:i-l.length=0:=by have:=(Ac.mp a).1;simpa using this
   rw[g]at a;cases a;obtain⟨j,d⟩:=Bx<|hb b f;have m:=(Ac.mp d).1;exact⟨j,sZ,by rwa[AB m]⟩
theorem UO {nms:tG}{bs:sr}{b:Nat->Nat}(f:WdN nms bs b){l:tP}(c:∀k∈l,k<nms.length){k:Nat}(d:k<nms.length)(h:nm nms k∈l.map (nm nms)):k∈l:=by obtain⟨j,a,e⟩:=AQ.mp h;rwa[<- VX f.nd (c j a) d e]
theorem qwp {nms:tG}{bs:sr}{i:Nat->Nat}(g:WdN nms bs i){l:tP}(d:GoodI bs nms.length l):∀(f k:Nat),k<nms.length->i k<f->∃e:tP,(JR nms bs (l.map<|nm nms) f k).reverse=e.map (nm nms)/\GoodI bs nms.length (l++e)/\k∈l++e/\∀x∈e,i x<=i k
 |0,k,_,h=>absurd h (Bj _)
 |f+1,k,hk,h=>by
  unfold JR;by_cases c:nm nms k∈l.map (nm nms)
  .rw[HI c];refine⟨[],Z,by rwa[Br],by rw[Br];exact UO g d.lt hk c,λx a=>absurd a A9⟩
  .rw[HF c];have o:k∉l:=λz=>c<|List.mem_map_of_mem z;cases m:bo bs k with
   |none=>exact⟨[k],Z,d.snoc hk o (λb e=>by rw[m]at e;cases e),by simp,λx a=>by rw[Aj.mp a];exact Al _⟩
   |some b =>
    obtain⟨p,_⟩:=g.ok k b (by rw[OE (by rwa[g.len]),m]);obtain⟨e,s,r,q,n⟩:=qwp g d f b p sZ;refine⟨e++[k],?_,?_,by simp,λx a=>?_⟩
    .show (nm nms k::JR nms bs (l.map<|nm nms) f b).reverse=_;rw[Dk,s,Aq];rfl
    .rw[<- List.append_assoc];refine r.snoc hk (λz=>?_) (λ_ j=>by rw[m]at j;cases j;exact q);rcases As.mp z with z|z
     .exact o z
     .have:=n k z;lia
    .rcases As.mp a with z|z
     .have:=n x z;lia
     .rw[Aj.mp z];exact Al _
theorem qs5 {nms:tG}{bs:sr}{f:Nat->Nat}(a:WdN nms bs f):∀i,i<=nms.length->∃l:tP,JI nms bs i=l.map (nm nms)/\GoodI bs nms.length l/\∀k<i,k∈l
 |0,_=>⟨[],Z,.nil,λk h=>absurd h<|Bj _⟩
 |i+1,hi=>by
  obtain⟨l,c,b,g⟩:=qs5 a i sZ;obtain⟨e,j,d,m,_⟩:=qwp a b 7 i sZ<|a.lo i;refine⟨l++e,by rw[Xh,c,j,Aq],d,λk _=>?_⟩;by_cases z:k=i
  .rwa[z]
  .exact BA _ (g k<|sZ)
theorem M9 {l:tP}(nd:l.Nodup)(lt:∀k∈l,k<n)(all:∀k<n,k∈l):l.Perm (An n):=(List.perm_ext_iff_of_nodup nd Dr).mpr λk=>⟨λh=>AE.mpr<|lt k h,λh=>all k<|AE.mp h⟩
noncomputable def fR (rv:Bool)(n j:Nat):Nat:=if rv=HG then n-1-j else j
theorem Kf (h:j<n):fR rv n j<n:=by unfold fR;split <;>lia
theorem Wr (h:j<n):fR rv n (fR rv n j)=j:=by unfold fR;split <;>lia
theorem Nt (b:i<n)(a:j<n)(e:fR rv n i=fR rv n j):i=j:=by rw[<- Wr (rv:=rv) b,e,Wr a]
def Jr (names:tG)(rv:Bool)(n:Nat):tG:=(An n).map λj=>names.getD (fR rv n j) AN
def LO (T:uE)(rv:Bool)(n:Nat):sr:=(An n).map λj=>((T<|fR rv n j).base).map<|fR rv n
def VM (rv:Bool)(n j:Nat):Nat:=if j<n then fR rv n j else 0
end
section
variable {names:tG}{T:uE}{rv:Bool}{n:Nat}
def OY:(Jr names rv n).length=n:=by unfold Jr;rw[Ab,Ar]
def Td {j:Nat}(h:j<n):nm (Jr names rv n) j=names.getD (fR rv n j) AN:=by unfold nm Jr;rw[Ak,Ai,AS h];rfl
def jG {j:Nat}(h:j<n):bo (LO T rv n) j=((T<|fR rv n j).base).map (fR rv n):=by unfold bo LO;rw[Ak,Ai,AS h];rfl
def eT (p:∀k<n,TdOk names (T k) k)(n4:n<=4)(ln:names.length=26)(nd:names.Nodup):WdN (Jr names rv n) (LO T rv n) (VM rv n):=by
 refine⟨?_,by unfold LO;rw[OY,Ab,Ar],by rw[OY];lia,λk b e=>?_,λk=>?_⟩
 .unfold Jr;rw[Ct,Ck,Ba];intro i j m g hij e;rw[Ar]at m g;rw[CI,CI]at e;have q:=Kf (rv:=rv) m;have f2:=Kf (rv:=rv) g;have:=Nt m g (oB nd sZ sZ e);lia
 .have f:k<n:=by
   have:=(Ac.mp e).1
   unfold LO at this
   rw[Ab,Ar]at this
   exact this
  have a:=jG (T:=T) (rv:=rv) f
  unfold bo at a
  rw[Ak,e]at a
  cases l:(T<|fR rv n k).base with
  |none=>rw[l]at a;cases a
  |some c =>
   rw[l]at a;cases a;have o:=(p _<|Kf f).ba c l;have q:=Kf (rv:=rv) f;have d:c<n:=by lia
   rw[OY];refine⟨Kf d,?_⟩;unfold VM;rwa[HI<|Kf d,HI f,Wr d]
 .unfold VM;split
  .rename_i h;have:=Kf (rv:=rv) h;lia
  .decide
def Jy (T:uE)(rv:Bool)(n:Nat)(l:tP)(i:Nat):TD:={T (fR rv n<|l.getD i 0) with base:=((T<|fR rv n<|l.getD i 0).base).map λb=>l.idxOf<|fR rv n b}
def Nc {l:tP}(nd:l.Nodup){j k:Nat}(e:l[j]?=HA k):l.idxOf k=j:=by obtain⟨a,rfl⟩:=Ac.mp e;exact nd.idxOf_getElem j a
def Os (p:∀k<n,TdOk names (T k) k)(w:n<=4)(ln:names.length=26)(nd:names.Nodup){l:tP}(h:GoodI (LO T rv n) n l)(ll:l.length=n):TsOk n (Jy T rv n l)/\∀i<n,(Jy T rv n l i).name=names.getD (fR rv n<|l.getD i 0) AN/\Vx (Jy T rv n l) (Jy T rv n l i).base=KS names (T<|fR rv n<|l.getD i 0).base:=by
 have IX:∀i<n,l[i]?=HA (l.getD i 0)/\l.getD i 0<n:=λi a=>by
  have e:l[i]?=HA (l.getD i 0):=by rw[Ak,Ad<|sZ];rfl
  exact⟨e,h.lt _<|Au e⟩
 have o:∀i<n,∀b,(T<|fR rv n<|l.getD i 0).base=HA b->b<n/\∃j,j<i/\l[j]?=HA (fR rv n b):=λi a b e=>by obtain⟨v,q⟩:=IX i a;have:=(p _<|Kf q).ba b e;have y:=Kf (rv:=rv) q;exact⟨sZ,h.base i _ (fR rv n b) v (by rw[jG q,e];rfl)⟩
 have d:∀i<n,(Jy T rv n l i).name=names.getD (fR rv n<|l.getD i 0) AN:=λi a=>(p _<|Kf (IX i a).2).nm;refine⟨⟨w,λi a=>(p _<|Kf (IX i a).2).rd,λi a b e=>?_,λi a j f e=>?_⟩,λi a=>⟨d i a,?_⟩⟩
 .change ((T<|fR rv n<|l.getD i 0).base).map _=HA b at e;cases g:(T<|fR rv n<|l.getD i 0).base with
  |none=>rw[g]at e;cases e
  |some c =>rw[g]at e;cases e;obtain⟨_,j,f,m⟩:=o i a c g;show l.idxOf (fR rv n c)<i;rwa[Nc h.nd m]
 .rw[d i a,d j f]at e;obtain⟨x,t⟩:=IX i a;obtain⟨s,r⟩:=IX j f;have y:=Kf (rv:=rv) t;have f2:=Kf (rv:=rv) r;have:=Nt t r (oB nd sZ sZ e);rw[<- this,<- x]at s;exact((EA sZ h.nd).mp s.symm)
 .show Vx (Jy T rv n l) (((T<|fR rv n<|l.getD i 0).base).map λb=>l.idxOf<|fR rv n b)=_;cases g:(T<|fR rv n<|l.getD i 0).base with
  |none=>rfl
  |some c =>obtain⟨u,j,f,m⟩:=o i a c g;show V.str (Jy T rv n l<|l.idxOf<|fR rv n c).name=.str (names.getD c AN);rw[Nc h.nd m,d j<|sZ,Ak (l:=l),m];show V.str (names.getD (fR rv n<|fR rv n c) AN)=_;rw[Wr u]
def RsL.rules {a:Adr}{H:Hp}{us:tW}(m:us.length=n)(l:∀j<n,∃d,us[j]?=HA (.ref d)/\RuleB a H d (T<|fR rv n j) (KS names (T<|fR rv n j).base))(g:∀k<n,TdOk names (T k) k):Yq a.B H us (Jr names rv n) (LO T rv n):=by
 refine⟨by rw[m,OY],λj v e=>?_⟩;have b:j<n:=by have:=(Ac.mp e).1;lia
 obtain⟨d,h,p,_,_,_,w,s,_,_,o,_⟩:=l j b;rw[e]at h;cases h;refine(HW d p _ ⟨Z,o,by rw[Td b,<- (g _<|Kf b).nm];rfl,?_⟩);rw[jG b];have:Pc (Jr names rv n) (((T<|fR rv n j).base).map<|fR rv n)=KS names (T<|fR rv n j).base:=by
  cases i:(T<|fR rv n j).base with
  |none=>rfl
  |some c =>
   have:=(g _<|Kf b).ba c i;have f1:=Kf (rv:=rv) b;have f:c<n:=by lia
   show V.str (nm (Jr names rv n)<|fR rv n c)=_;rw[Td<|Kf f,Wr f];rfl
 rw[this];rfl
def U3 {a:Adr}{H:Hp}{us:tW}{bk:HC}(m:∀k<n,TdOk names (T k) k)(x:n<=4)(B:names.length=26)(nd:names.Nodup)(t:∀j<n,∃d,us[j]?=HA (.ref d)/\RuleB a H d (T<|fR rv n j) (KS names (T<|fR rv n j).base)){l:tP}(g:GoodI (LO T rv n) n l)(r:l.length=n)(q:BookAt a.E H bk (Jr names rv n) (l.map<|nm<|Jr names rv n) us):BookT a H bk n (Jy T rv n l):=by
 obtain⟨_,f⟩:=Os (rv:=rv) m x B nd g r;have lt:∀i<n,l[i]?=HA (l.getD i 0)/\l.getD i 0<n:=λi b=>by
  have e:l[i]?=HA (l.getD i 0):=by rw[Ak,Ad<|sZ];rfl
  exact⟨e,g.lt _<|Au e⟩
 refine HP (Jr names rv n) us ⟨?_,λi b=>?_⟩
 .have:((An n).map λi=>(Jy T rv n l i).name)=l.map (nm<|Jr names rv n):=by
   refine Cm λi=>?_
   rw[Ai,Ai]
   by_cases b:i<n
   .obtain⟨h,c⟩:=lt i b;rw[AS b,h];show HA (Jy T rv n l i).name=HA (nm (Jr names rv n)<|l.getD i 0);rw[(f i b).1,Td c]
   .rw[AH (by rw[Ar];lia),AH<|sZ];rfl
  rw[this]
  exact q
 .obtain⟨h,c⟩:=lt i b;obtain⟨d,v,z,p,o,pl,w,s,A,u,y⟩:=t _ c;refine(HP (l.getD i 0) d ⟨by rw[Td c,(f i b).1],v,z,p,o,pl,w,s,A,u,?_⟩);rwa[(f i b).2]
end
def Qr {n:Nat}{H:Hp}{v:V}(h:Jj v=HG):SF n H v v:=by
 cases n with|zero=>exact⟨Z,h⟩|succ n=>exact .inl ⟨Z,h⟩
def Qp {H:Hp}{p q:HC}{us d:tW}{ts:List tW}(m:H p=HA (.lst us))(l:H q=HA (.lst d))(t:Tups H us ts)(t':Tups H d ts)(o:∀r∈ts,∀v∈r,Jj v=HG):SF 2 H (.ref p) (.ref q):=by refine .inr (Hv p q us d ⟨Z,Z,.inl ⟨m,l⟩,by rw[t.length,t'.length],λi x y ex n=>?_⟩);obtain⟨a,r,rfl,e,h⟩:=t.get' ex;obtain⟨b,_,rfl,c,k⟩:=t'.get' n;rw[e]at c;cases c;refine .inr<|Hv a b r r ⟨Z,Z,.inr ⟨h,k⟩,Z,λj x y g f=>?_⟩;rw[g]at f;cases f;exact Qr<|o r (Au e) x<|Au g
def Qo {b:uC}:∀r∈b.map KA,∀v∈r,Jj v=HG:=λr c v a=>by obtain⟨t,_,rfl⟩:=AQ.mp c;unfold KA at a;simp at a;rcases a with rfl|rfl|rfl <;>rfl
structure Tc where
 d:HC
 q:Nat->HC
 y:Nat->Nat->HC
 p4:Nat->Nat->HC
 p6:Nat->Nat->HC
section
variable {bs:tE}{rs:tZ}{ts:uE}{Zq:ZZ}{n:Nat}{H H':Hp}{c:Tc}{d:HC}{q:tT}{y p4 p6:tV}
variable {B J J':Hp}{pT Pt:HC}{cs:List Tc}{ps:tO}
end
section
variable {names:tG}{T:uE}{rv:Bool}{n:Nat}
def QD (h:∀k<n,TdOk names (T k) k)(j:n<=4)(m:names.length=26)(nd:names.Nodup){l:tP}(b:GoodI (LO T rv n) n l)(c:l.length=n):((An n).map λi=>(Jy T rv n l i).name)=l.map (nm<|Jr names rv n):=by
 obtain⟨_,g⟩:=Os (rv:=rv) h j m nd b c;have lt:∀i<n,l[i]?=HA (l.getD i 0)/\l.getD i 0<n:=λi a=>by
  have e:l[i]?=HA (l.getD i 0):=by rw[Ak,Ad<|sZ];rfl
  exact⟨e,b.lt _<|Au e⟩
 refine Cm λi=>?_;rw[Ai,Ai];by_cases a:i<n
 .obtain⟨f,d⟩:=lt i a;rw[AS a,f];show HA (Jy T rv n l i).name=HA (nm (Jr names rv n)<|l.getD i 0);rw[(g i a).1,Td d]
 .rw[AH (by rw[Ar];lia),AH<|sZ];rfl
end
section
variable {H H':Hp}{n:Nat}{b ps f:tu}{c s m d:Int}{g a:tU}{r:tJ}
theorem Qq {p q:HC}{xs:tG}(d:H p=HA (.lst<|xs.map V.str))(c:H q=HA (.lst<|xs.map V.str)):SF 1 H (.ref p) (.ref q):=by
 refine .inr<|Hv p q _ _ ⟨Z,Z,.inl ⟨d,c⟩,Z,λi x y a b=>?_⟩;rw[a]at b;cases b;rw[Ai]at a;cases e:xs[i]? with|none=>rw[e]at a;cases a|some z=>rw[e]at a;cases a;exact⟨Z,Z⟩
theorem NR {ts:uE}{p:tT}:((Im n ts p).map λa=>kV a.1)=((An n).map λi=>(ts i).name).map V.str:=by unfold Im;rw[Cc,Cc];rfl
theorem KpT.l {b:HC}{u:tW}(k:KpT H H')(e:H b=HA (.lst u)):H' b=HA (.lst u):=k b _ sh e
noncomputable def SG (c:Int)(n:Nat):tL:=(An n).map λ(j:Nat)=>1+(c / 7+(j:Int)) % 7
theorem V1 (c:Int)(h:n<=6):OkW (SG c n):=by
 refine⟨by unfold SG;rwa[Ab,Ar],?_,λw a=>?_⟩
 .unfold SG;refine Ck.mpr<|Dr.imp_of_mem λ{i j} d b f e=>f ?_;have:=AE.mp d;have:=AE.mp b;lia
 .obtain⟨j,_,rfl⟩:=AQ.mp a;lia
theorem SH:(Lg c 26).Nodup:=by unfold Lg;rw[Ct,Ck,Ba];intro i j b a _ e;rw[Ar]at b a;rw[CI,CI]at e;have:=L0 sZ sZ e;lia
theorem qs7 {t:tU}(h:LP g t ps s m HD):∃F,(F,HD)∈ps:=by
 rcases h with ⟨h,_⟩|⟨f,_,h⟩
 .exact h.1
 .exact h.1
theorem OA {G1 G2:tU}{a:Int}(f:0<=a):∀k:Nat,(∀n,a<=n->n<a+(k:Int)->G1 n=HG->G2 n=HG)->cn G2 (a+(k:Int))-cn G2 a<=cn G1 (a+(k:Int))-cn G1 a
 |0,_=>by rw[DV,Cw];lia
 |k+1,h=>by
  have ih:=OA f k λn d _=>h n d sZ;have b:=(LU G1).st (a+(k:Int)) sZ;have c:=(LU G2).st (a+(k:Int)) sZ;rw[show a+((k+1:Nat):Int)=a+(k:Int)+1 by lia,b,c];cases e:G1 (a+(k:Int)) with|true=>rw[h _ sZ sZ e];lia|false=>rw[HF (show ¬HH=HG by decide)];split <;>lia
theorem jW {t:tU}{x u:Int}{l:tJ}(s0:0<=s)(A:∀n,n<d->Jg b n=HG->Jg f n=HG)(hm:x<=u)(v:LP g t b s x l)(r:LP g t f s u (HA c))(lt:c<d):∃l1,l=HA l1/\l1<=c:=by
 have o:∀(g:tU) n,n<d->IQ g b n=HG->IQ g f n=HG:=λg n h e=>by unfold IQ at e |-;rw[D6]at e |-;exact e.imp id<|A n h
 rcases r with ⟨_,z⟩|⟨i,⟨f2s,q,f2c⟩,⟨d2f,j,_⟩⟩
 .cases z
 have w:=(LU<|IQ g f).st i sZ;rw[q,HF Ud]at w;have le:=OA (G1:=IQ g b) (G2:=IQ g f) (a:=s+1) sZ (i-s).toNat λn v r=>o g n sZ;rw[show s+1+((i-s).toNat:Int)=i+1 by lia]at le;rcases v with ⟨⟨_,y⟩,_⟩|⟨p,⟨f1s,f1g,f1c⟩,k⟩
 .have:=y (i+1) sZ;lia
 have f12:p<=i:=by
  by_cases z:p<=i
  .exact z
  .have:=(LU<|IQ g b).le (n:=i+1) (m:=p) sZ sZ;lia
 cases l with
 |none =>have:=o t c lt (k.2 c<|sZ);rw[j]at this;cases this
 |some d1 =>
  refine⟨d1,Z,?_⟩;by_cases z:d1<=c
  .exact z
  .have:=o t c lt (k.2.2 c sZ<|sZ);rw[j]at this;cases this
theorem NH {l:Int}(h:LP g a ps s m (HA l)):IQ a ps l=HH:=by
 rcases h with ⟨_,h⟩|⟨f,_,h⟩
 .cases h
 .exact h.2.1
theorem NI {l:Int}(c:0<=s)(f:LP g a ps s m (HA l))(h:LP g a (ps++[(d,HD)]) s m r)(dl:d<=l):r=HD:=by
 cases r with
 |none=>rfl
 |some x =>exfalso;obtain⟨_,b,_⟩:=jW c (d:=x+1) (λn _ e=>by unfold Jg at e |-;rw[Df,e];rfl) (AZ m) f h sZ;cases b;have o:=NH h;have:IQ a (ps++[(d,HD)]) x=HG:=qn8 (As.mpr<|.inr<|Aj.mpr Z) sZ;rw[this]at o;cases o
structure Nx (bs:tE)(rs:tZ)(rd:RD)(st:RS)(s r:tJ)(d:Int)(st':RS):Prop where
 ok:StOk st' d
 stay:∀l,r=HA l->l<d->st'.day=st.day/\st'.units=st.units/\st'.ps=st.ps/\st'.bv=st.bv
 bv:st'.bv=st.bv\/st'.bv=.non
 fs:∀z∈st'.ps,z.1<=d
 halt:∀r',LsS bs rs rd st' s r'->IW st'.ps=HG->r'=HD/\∃x,s=HA x/\x<d
theorem rL {bs:tE}{rs:tZ}{rd:RD}{st:RS}{s:tJ}{n k:Str}(D:RdOk rd)(ok:StOk st c)(A:c<=d)(B:st.rows.length<400)(C:∀x,s=HA x->0<=x)(lst:LsS bs rs rd st s r)(K:∀z∈st.ps,z.1<=c)
  (H:IW st.ps=HG->r=HD/\∃x,s=HA x/\x<c):Nx bs rs rd st s r d (IZ rd st s r n d k).1:=by
 have g:∀z∈st.ps,z.1<=d:=λz hz=>by have:=K z hz;lia
 have same:Nx bs rs rd st s r d st:=⟨ok.mono A,λ_ _ _=>⟨Z,Z,Z,Z⟩,.inl Z,g,λj h a=>by obtain⟨J,x,m,W⟩:=H a;exact⟨(XS C h lst).trans J,x,m,sZ⟩⟩;have cu:∀p∈st.ps,∀e,p.2=HA e->e<d:=λp w e i=>by have:=ok.cu p w e i;lia
 unfold IZ;split
 .exact same
 .unfold JQ;by_cases P:Ik rd k=Aa "ends"
  .rw[HI P];refine⟨Vj (st:=st) (o':=HG) ok (ZY ok.ps) (BV ZG) (Ys A ok.cu) B,λl f lt=>⟨Z,Z,?_,Z⟩,.inl Z,Nj g,λj _ a=>?_⟩
   .refine Pi ?_;cases e:IW st.ps with|false=>rfl|true=>rw[(H e).1]at f;cases f
   .have a:IW (KL st.ps d)=HG:=a;rw[Ng ok.ps]at a;cases a
  .rw[HF P];cases S:under s r d with
   |false=>rw[HI Z];exact same
   |true =>
    rw[HF Ud];obtain⟨x,o,R,E⟩:=oK S;have b:∀l,r=HA l->l<d->False:=λl e lt=>by have:=E l e;lia
    by_cases M:Ik rd k=Aa "anew"
    .rw[HI M];have N:=C x o;have hr:(st.rows++[(n,d,Ik rd k)]).length=st.rows.length+1:=by rw[Ae];rfl
     exact⟨⟨⟨.nil,λ_ h=>absurd h A9⟩,by show 0<=d;lia,D.m1,AR _,by show (st.rows++_).length<=400;lia,AR _,(λk v h=>by cases h),λ_ h=>absurd h A9,λq=>by cases (C9.mp q).2⟩,λl e lt=>(b l e lt).elim,.inr Z,λ_ h=>absurd h A9,λj _ a=>by cases a⟩
    .rw[HF M];by_cases I:Ik rd k=Aa "longer"
     .rw[HI I];cases T:LY rd st.gr k with
      |none=>exact same
      |some t =>
       have U:=D.u t<|CJ T;have lo:=qwa (n:=gv st.gr k+1) (k:=k) (nm:=n) ok A U B;rw[<- I]at lo;refine⟨lo,λl e lt=>(b l e lt).elim,.inl Z,g,λj h a=>?_⟩;obtain⟨J,y,m,W⟩:=H a;refine⟨?_,y,m,sZ⟩;rw[m]at h lst;rw[J]at lst;cases O:j with
       |none=>rfl
       |some l2 =>rw[O]at h;obtain⟨_,V,_⟩:=jW (C y m) (d:=l2+1) (λ_ _ e=>e) (qp5 (show st.units<=st.units+t.2.1 by lia)) lst h sZ;cases V
     .rw[HF I];by_cases L:Ik rd k=Aa "still"
      .rw[HI L];cases G:IW st.ps with
       |true=>rw[HI Z];exact same
       |false =>
        rw[HF Ud];have N:=C x o;rw[o]at lst;obtain⟨l,f⟩:∃l,r=HA l:=by
         cases r with
         |some l=>exact⟨l,Z⟩
         |none =>obtain⟨F,Q⟩:=qs7 lst;obtain⟨e,i⟩:=qsz ok.ps G _ Q;cases i
        rw[f]at lst;refine⟨Vj (st:=st) (o':=st.over) ok (qwd ok.ps G cu<|sZ) (by rw[Ae];exact Al _) (λp w e i=>?_) B,λl e lt=>(b l e lt).elim,.inl Z,λp w=>?_,λj h _=>⟨?_,x,o,R⟩⟩
        .rcases As.mp w with q|q
         .exact cu p q e i
         .rw[Aj.mp q]at i;cases i
        .rcases As.mp w with q|q
         .exact g p q
         .rw[Aj.mp q];exact AZ _
        .rw[o]at h;exact NI N lst h<|E l f
      .rw[HF L];cases G:IW st.ps with|false=>rw[HF Ud];exact same|true =>rw[HI Z];refine⟨Vj (st:=st) (o':=st.over) ok (ZY ok.ps) (BV ZG) (Ys A ok.cu) B,λl e lt=>(b l e lt).elim,.inl Z,Nj g,λj _ a=>?_⟩;have a:IW (KL st.ps d)=HG:=a;rw[Ng ok.ps]at a;cases a
end
section
variable {bs:tE}{rs:tZ}{ts:uE}{Zq Z':ZZ}{n:Nat}{ac:Ig}
theorem Nn {rd:RD}{st:RS}{s r:tJ}{n k:Str}{d:Int}:(IZ rd st s r n d k).1=st\/(IZ rd st s r n d k).1.rows=st.rows++[(n,d,Ik rd k)]:=by
 unfold IZ;split
 .exact .inl rfl
 .cases e:JQ rd st s r (Ik rd k) d k with
  |none=>exact .inl rfl
  |some q=>exact .inr (by show q.rows++_=_;rw[qI e])
def qwq {m i:Nat}(h:i≠m):(tk bs rs ts Zq ac<|m+1).1 i=(tk bs rs ts Zq ac m).1 i/\(tk bs rs ts Zq ac<|m+1).2 i=(tk bs rs ts Zq ac m).2 i:=by
 rw[Pb];split
 .exact⟨Iv h,Z⟩
 .split
  .exact⟨Iv h,Iv h⟩
  .exact⟨Z,Z⟩
def Yk (ts:uE)(C:Nat->Prop):Prop:=∀i b,C i->(ts i).base=HA b->C b
def EqC (C:Nat->Prop)(Zq Z':ZZ):Prop:=∀i,C i->Zq i=Z' i
theorem MM {C:Nat->Prop}(a:Yk ts C)(e:EqC C Zq Z'):∀(m i:Nat)(st:RS),C i->ID bs rs ts Zq m i st=ID bs rs ts Z' m i st
 |0,_,_,_=>rfl
 |m+1,i,st,hi=>by
  unfold ID;cases d:(ts i).base with
  |none=>cases st.bv <;>rfl
  |some b =>
   have c:=a i b hi d;cases st.bv <;>try rfl
   rename_i k;show Jf bs rs (ts b).rd ((Zq b).getD k.toNat Hz) (ID bs rs ts Zq m b<|(Zq b).getD k.toNat Hz)=Jf bs rs (ts b).rd ((Z' b).getD k.toNat Hz) (ID bs rs ts Z' m b<|(Z' b).getD k.toNat Hz);rw[e b c,MM a e m b _ c]
end
section
variable {rs:tZ}{d n:Int}{rd:RD}{st st':RS}{s r:tJ}
theorem AccI.kp {bs:tE}{ts:uE}{Zq:ZZ}{i:Nat}{H H':Hp}{l:HC}{y d c:tT}(h:AccI bs rs ts Zq i H l y d c)(k:∀b o,((∃u,o=.lst u) \/ ∃t,o=.tup t)->H b=HA o->H' b=HA o):AccI bs rs ts Zq i H' l y d c:=by have kl:∀b u,H b=HA (.lst u)->H' b=HA (.lst u):=λb u e=>k b _ (.inl ⟨u,Z⟩) e;have a:∀b u,H b=HA (.tup u)->H' b=HA (.tup u):=λb u e=>k b _ (.inr ⟨u,Z⟩) e;refine⟨kl _ _ h.1,λj m=>?_⟩;obtain⟨s,⟨r,g,p⟩,⟨f,n,q⟩⟩:=h.2 j m;exact⟨a _ _ s,⟨r,kl _ _ g,Kt p a⟩,⟨f,kl _ _ n,Kt q a⟩⟩
def SD (d:Int)(r:tJ):Prop:=∀l,r=HA l->d<=l
theorem QH {bs:tE}{b:tJ}(j:∀x,s=HA x->0<=x)(k:∀n,n<d->Jg st.ps n=HG->Jg st'.ps n=HG)(c:st.units<=st'.units)(h:LsS bs rs rd st s r)(a:LsS bs rs rd st' s b)(f:SD d r):SD d b:=λl e=>by
 by_cases z:d<=l
 .exact z
 .exfalso;subst e;cases s with
  |none=>cases a
  |some x =>obtain⟨i,g,_⟩:=jW (j x Z) k (qp5 c) h a sZ;have:=f i g;lia
theorem MH {ps:tu}(hn:n<d)(h:Jg ps n=HG):Jg (KL ps d) n=HG:=by
 unfold KL;cases e:ps.getLast? with
 |none=>exact h
 |some p =>
  obtain⟨F,o⟩:=p;cases o with
  |some x=>exact h
  |none =>
   have a:ps≠[]:=λz=>by rw[z]at e;cases e
   have b:ps.dropLast++[(F,HD)]=ps:=by have:=List.dropLast_concat_getLast a;rw[List.getLast?_eq_some_getLast a]at e;rwa[A8 e]at this
   rw[<- b]at h;unfold Jg at h |-;dsimp only;rw[Df,D6]at h;rw[Df,D6];rcases h with h|h
   .exact .inl h
   .refine .inr ?_;rw[CU,List.any_nil,Ca,XT]at h;have h:=HK h;rw[HI<|sZ,CU,List.any_nil,Ca];unfold LM;simp;lia
theorem Qi {n k:Str}(b:RdOk rd):((IZ rd st s r n d k).1.day=st.day/\(IZ rd st s r n d k).1.bv=st.bv/\(∀e,e<d->Jg st.ps e=HG->Jg (IZ rd st s r n d k).1.ps e=HG)/\st.units<=(IZ rd st s r n d k).1.units)\/((IZ rd st s r n d k).1.bv=.non/\(IZ rd st s r n d k).1.day=d/\(IZ rd st s r n d k).1.ps=[]):=by
 have same:(st.day=st.day/\st.bv=st.bv/\(∀e,e<d->Jg st.ps e=HG->Jg st.ps e=HG)/\st.units<=st.units):=⟨Z,Z,λ_ _ h=>h,AZ _⟩;unfold IZ;split
 .exact .inl same
 .unfold JQ;by_cases i:Ik rd k=Aa "ends"
  .rw[HI i];exact .inl ⟨Z,Z,λe a h=>MH a h,AZ _⟩
  .rw[HF i];cases eu:under s r d with
   |false=>rw[HI Z];exact .inl same
   |true =>
    rw[HF Ud];by_cases g:Ik rd k=Aa "anew"
    .rw[HI g];exact .inr ⟨Z,Z,Z⟩
    .rw[HF g];by_cases f:Ik rd k=Aa "longer"
     .rw[HI f];cases l:LY rd st.gr k with|none=>exact .inl same|some t =>have t0:=b.u t<|CJ l;exact .inl ⟨Z,Z,λ_ _ h=>h,by show st.units<=st.units+t.2.1;lia⟩
     .rw[HF f];by_cases c:Ik rd k=Aa "still"
      .rw[HI c];cases j:IW st.ps with
       |true=>rw[HI Z];exact .inl same
       |false =>rw[HF Ud];refine .inl ⟨Z,Z,λe _ h=>?_,AZ _⟩;show Jg (st.ps++[(d,HD)]) e=HG;unfold Jg at h |-;rw[Df,h];rfl
      .rw[HF c];cases j:IW st.ps with|false=>rw[HF Ud];exact .inl same|true =>rw[HI Z];exact .inl ⟨Z,Z,λe a h=>MH a h,AZ _⟩
end
section
variable {bs:tE}{rs:tZ}{ts:uE}{Zq Z':ZZ}{n:Nat}{ac:Ig}{D:Int}{N:Nat}
theorem qs8 (T:TsOk n ts)(P:PZ n ts Zq D N):∀(m i:Nat)(st:RS),i<n->i<=m->WfB ts Zq i st->ID bs rs ts Zq (m+1) i st=ID bs rs ts Zq m i st
 |0,i,st,hi,hm,wf=>by
  rcases wf.1 with a|⟨k,a⟩
  .unfold ID;rw[a]
  .obtain⟨b,_,d,_⟩:=wf.2 _ a;lia
 |m+1,i,st,hi,hm,wf=>by
  rcases wf.1 with a|⟨k,a⟩
  .rw[ID,ID,a]
  .obtain⟨b,e,d,h3,c⟩:=wf.2 _ a;have f:=qs8 T P m b ((Zq b).getD (k:Int).toNat Hz) sZ sZ (P.wf b sZ _<|K8 c);rw[ID,ID,a,e];show Jf bs rs (ts b).rd ((Zq b).getD (k:Int).toNat Hz) (ID bs rs ts Zq (m+1) b<|(Zq b).getD (k:Int).toNat Hz)=Jf bs rs (ts b).rd ((Zq b).getD (k:Int).toNat Hz) (ID bs rs ts Zq m b<|(Zq b).getD (k:Int).toNat Hz);rw[f]
def XC (T:TsOk n ts)(P:PZ n ts Zq D N){i b:Nat}{st:RS}{k:Nat}(hi:i<n)(wf:WfB ts Zq i st)(f:st.bv=.int (k:Int))(d:(ts i).base=HA b):ID bs rs ts Zq 3 i st=Jf bs rs (ts b).rd ((Zq b).getD k Hz) (ID bs rs ts Zq 3 b<|(Zq b).getD k Hz):=by
 have n4:=T.n4;obtain⟨_,a,_,_,c⟩:=wf.2 _ f;rw[d]at a;cases a;rw[Bb]at c;have e:=qs8 (bs:=bs) (rs:=rs) T P 2 b ((Zq b).getD k Hz) sZ sZ (P.wf b sZ _<|K8 c);rw[e]
 conv=>lhs;rw[ID,f,d]
 show Jf bs rs (ts b).rd ((Zq b).getD (k:Int).toNat Hz) _=_;rw[Bb]
def VW {i:Nat}{st:RS}(a:st.bv=.non):ID bs rs ts Zq 3 i st=HA st.day:=by rw[ID,a]
end
section
variable {bs:tE}{rs:tZ}{ts:uE}{Zq Y Z':ZZ}{n:Nat}{ac:Ig}{D:Int}{N:Nat}
theorem VU {i:Nat}:∀{m:Nat},i<m->(tk bs rs ts Zq ac m).1 i=(tk bs rs ts Zq ac<|i+1).1 i
 |0,h=>absurd h (Bj _)
 |m+1,h=>by
  by_cases c:i=m
  .rw[c]
  .rw[(qwq c).1];exact VU sZ
theorem qwr (T:TsOk n ts){i:Nat}(g:i<n)(e:∀b<i,Y b=Z' b)(m:Nat)(st:RS):ID bs rs ts Y (m+1) i st=ID bs rs ts Z' (m+1) i st:=by
 have h:Yk ts λb=>b<i:=λb c hb d=>by have:=T.ba b sZ c d;show c<i;lia
 unfold ID;cases f:(ts i).base with
 |none=>cases st.bv <;>rfl
 |some b =>
  have a:=T.ba i g b f;cases st.bv <;>try rfl
  rename_i k;show Jf bs rs (ts b).rd ((Y b).getD k.toNat Hz) (ID bs rs ts Y m b<|(Y b).getD k.toNat Hz)=Jf bs rs (ts b).rd ((Z' b).getD k.toNat Hz) (ID bs rs ts Z' m b<|(Z' b).getD k.toNat Hz);rw[e b a,MM h e m b _ a]
def jV (T:TsOk n ts){i:Nat}(e:i<n)(d:(tk bs rs ts Zq ac n).1=Z'):Z' i=Zq i\/(LB (Zq i)=HG/\Z' i=(Zq i).dropLast++[(IZ (ts i).rd ((Zq i).getD ((Zq i).length-1) Hz) (ID bs rs ts Z' 3 i<|(Zq i).getD ((Zq i).length-1) Hz) (Jf bs rs (ts i).rd ((Zq i).getD ((Zq i).length-1) Hz)<|ID bs rs ts Z' 3 i<|(Zq i).getD ((Zq i).length-1) Hz) ac.1 ac.2.2 ac.2.1).1]) \/ ∃f Y,Z' i=Zq i++[KG (ts i) ac f Y]:=by
 have a:=Mh (bs:=bs) (rs:=rs) (ts:=ts) (Zq:=Zq) (ac:=ac)<|Al i;have g:∀b<i,(tk bs rs ts Zq ac i).1 b=Z' b:=λb j=>by rw[VU j,<- VU (m:=n) sZ,d]
 have h:Z' i=(tk bs rs ts Zq ac<|i+1).1 i:=by rw[<- d,VU e]
 rw[h,Pb];split
 .rename_i c;refine .inr (.inl ⟨by rwa[<- a],?_⟩);show put _ i _ i=_;rw[JB];unfold K6;rw[a,qwr T e g 2]
 .split
  .refine .inr<|.inr<|HP ((tk bs rs ts Zq ac i).2) ((tk bs rs ts Zq ac i).1) ?_;show put _ i _ i=_;rw[JB,a]
  .exact .inl a
def oI {m i:Nat}{st st':RS}(b:st'.bv=st.bv)(a:st'.day=st.day):ID bs rs ts Zq m i st'=ID bs rs ts Zq m i st:=by
 cases m with|zero=>show HA st'.day=HA st.day;rw[a]|succ m=>rw[ID,ID,b,a]
def NJ {rd:RD}{st st':RS}{s r:tJ}(b:st'.ps=st.ps)(a:st'.units=st.units)(h:LsS bs rs rd st s r):LsS bs rs rd st' s r:=by
 cases s with|none=>exact h|some x =>show LP _ _ st'.ps x (Li rd.unit st'.units) r;rwa[b,a]
abbrev Jm (bs:tE)(rs:tZ)(ts:uE)(Zq:ZZ)(i:Nat)(st:RS):tJ:=Jf bs rs (ts i).rd st<|ID bs rs ts Zq 3 i st
def HZ (bs:tE)(rs:tZ)(ts:uE)(Zq:ZZ)(D:Int)(i:Nat)(st:RS):Prop:=(IW st.ps=HG->Jm bs rs ts Zq i st=HD/\∃x,ID bs rs ts Zq 3 i st=HA x/\x<D)/\∀z∈st.ps,z.1<=D
structure Mv (bs:tE)(rs:tZ)(ts:uE)(Zq Z':ZZ)(d:Int)(i:Nat)(st st':RS):Prop where
 p:∀l,Jm bs rs ts Zq i st=HA l->l<d->ID bs rs ts Z' 3 i st'=ID bs rs ts Zq 3 i st/\Jm bs rs ts Z' i st'=HA l
 f:SD d (Jm bs rs ts Zq i st)->SD d (Jm bs rs ts Z' i st')
 h:HZ bs rs ts Z' d i st'
def quv {p:Nat->Prop}(h:∀i,(∀b<i,p b)->p i)(i:Nat):p i:=Nat.strongRecOn i h
def NA (T:TsOk n ts)(P:PZ n ts Zq D N)(ex:LA bs rs)(hD:D<=ac.2.2)(hN:N<300)(eZ:(tk bs rs ts Zq ac n).1=Z')(hz:∀i<n,∀st∈Zq i,HZ bs rs ts Zq D i st):∀i,i<n->∀j,j<(Zq i).length->Mv bs rs ts Zq Z' ac.2.2 i ((Zq i).getD j Hz) ((Z' i).getD j Hz):=by
 have A:PZ n ts Z' ac.2.2 (N+1):=by rw[<- eZ];exact RV T P ex hD hN<|Al n
 have len:∀i,(Zq i).length<=(Z' i).length:=λi=>by have:=(Tn (bs:=bs) (rs:=rs) (ts:=ts) (Zq:=Zq) (ac:=ac) (m:=n) (i:=i)).2;rw[eZ]at this;rw[this];lia
 refine quv λi ih a j hj=>?_;have H:=K8 hj;have ok:=P.ok i a _ H;have wf:=P.wf i a _ H;have E:=wf.mono len;obtain⟨V,J⟩:=hz i a _ H;have rows:=(P.rl i a).2 _ H;generalize C:(Zq i).getD j Hz=st at H ok wf E V J rows;have U:=ok.mono hD
 -- the start,its base having felt the act
 have s1:(∀x,ID bs rs ts Zq 3 i st=HA x->x<ac.2.2->ID bs rs ts Z' 3 i st=HA x)/\(ID bs rs ts Z' 3 i st=ID bs rs ts Zq 3 i st\/SD ac.2.2 (ID bs rs ts Z' 3 i st)):=by
  rcases wf.1 with F|⟨k,F⟩
  .rw[VW F,VW F];exact⟨λx e _=>e,.inl Z⟩
  .obtain⟨b,I,h2,h3,h4⟩:=wf.2 _ F;rw[Bb]at h4;rw[XC T P a wf F I,XC T A a E F I];have m:=ih b h2 sZ k h4;refine⟨λx e lt=>(m.p x e lt).2,?_⟩;by_cases c:∃x,Jm bs rs ts Zq b ((Zq b).getD k Hz)=HA x/\x<ac.2.2
   .obtain⟨x,e,lt⟩:=c;exact .inl<|(m.p x e lt).2.trans e.symm
   .refine .inr<|m.f λl e=>?_;by_cases z:ac.2.2<=l
    .exact z
    .exact absurd ⟨l,e,sZ⟩ c
 have nn:=Th P ex 3 i st a ok wf;have M:=Th A ex 3 i st a U E;have L:=RW P ex (m:=3) a ok wf;have Q:=RW A ex (m:=3) a U E;have same:ID bs rs ts Z' 3 i st=ID bs rs ts Zq 3 i st->Jm bs rs ts Z' i st=Jm bs rs ts Zq i st:=λe=>by unfold Jm;rw[e]
 have p1:∀l,Jm bs rs ts Zq i st=HA l->l<ac.2.2->ID bs rs ts Z' 3 i st=ID bs rs ts Zq 3 i st/\Jm bs rs ts Z' i st=HA l:=λl e lt=>by have g:=L;change LsS bs rs (ts i).rd st _ (Jm bs rs ts Zq i st) at g;rw[e]at g;obtain⟨x,h,xl⟩:=ZF g;have:=(s1.1 x h<|sZ).trans h.symm;exact⟨this,(same this).trans e⟩
 have f1:SD ac.2.2 (Jm bs rs ts Zq i st)->SD ac.2.2 (Jm bs rs ts Z' i st):=λf=>by
  rcases s1.2 with e|fs
  .rwa[same e]
  .intro l e;have g:=Q;change LsS bs rs (ts i).rd st _ (Jm bs rs ts Z' i st) at g;rw[e]at g;obtain⟨x,h,xl⟩:=ZF g;have:=fs x h;lia
 have I:IW st.ps=HG->Jm bs rs ts Z' i st=HD/\∃x,ID bs rs ts Z' 3 i st=HA x/\x<D:=λe=>by obtain⟨y,x,o,R⟩:=V e;have q:=s1.1 x o sZ;exact⟨(same<|q.trans o.symm).trans y,x,q,R⟩
 have stay:Mv bs rs ts Zq Z' ac.2.2 i st st:=⟨p1,f1,λe=>by obtain⟨y,x,o,R⟩:=I e;exact⟨y,x,o,sZ⟩,λz ad=>by have:=J z ad;lia⟩;rcases jV (bs:=bs) (rs:=rs) T a eZ with c|⟨c,e⟩|⟨f,Y,e⟩
 .rw[c,C];exact stay
 .have ae:=Tg c;have t:=ZX (q:=(IZ (ts i).rd ((Zq i).getD ((Zq i).length-1) Hz) (ID bs rs ts Z' 3 i<|(Zq i).getD ((Zq i).length-1) Hz) (Jf bs rs (ts i).rd ((Zq i).getD ((Zq i).length-1) Hz)<|ID bs rs ts Z' 3 i<|(Zq i).getD ((Zq i).length-1) Hz) ac.1 ac.2.2 ac.2.1).1) ae hj;rw[<- e]at t;by_cases w:j=(Zq i).length-1
  .rw[HI w,<- w,C]at t;rw[t];have X:=rL (n:=ac.1) (k:=ac.2.1) (T.rd i a) ok hD sZ M Q J I;have fu:=Qi (st:=st) (s:=ID bs rs ts Z' 3 i st) (r:=Jf bs rs (ts i).rd st<|ID bs rs ts Z' 3 i st) (n:=ac.1) (k:=ac.2.1) (d:=ac.2.2)<|T.rd i a;have m':(Z' i).getD j Hz∈Z' i:=K8 (by have:=len i;lia);rw[t]at m';have K:=A.ok i a _ m';have G:=A.wf i a _ m';generalize (IZ (ts i).rd st (ID bs rs ts Z' 3 i st) (Jf bs rs (ts i).rd st<|ID bs rs ts Z' 3 i st) ac.1 ac.2.2 ac.2.1).1=q at X fu K G;have S:=RW A ex (m:=3) a K G;have nnq:=Th A ex 3 i q a K G;refine⟨λl W lt=>?_,λf=>?_,λhh=>?_,X.fs⟩
   .obtain⟨y,o⟩:=p1 l W lt;obtain⟨v,u,B,O⟩:=X.stay l o lt;have es:=oI (bs:=bs) (rs:=rs) (ts:=ts) (Zq:=Z') (m:=3) (i:=i) O v;refine⟨es.trans y,?_⟩;have L2:=NJ (st':=q) B u Q;show Jf bs rs (ts i).rd q (ID bs rs ts Z' 3 i q)=_;rwa[es,jJ M L2]
   .rcases fu with ⟨v,u,B,O⟩|⟨v,u,B⟩
    .have es:=oI (bs:=bs) (rs:=rs) (ts:=ts) (Zq:=Z') (m:=3) (i:=i) u v;rw[es]at S;have:=QH M B O Q S<|f1 f;show SD _ (Jf bs rs (ts i).rd q<|ID bs rs ts Z' 3 i q);rw[es];exact this
    .intro l W;have g:=S;change LsS bs rs (ts i).rd q _ (Jm bs rs ts Z' i q) at g;rw[W]at g;obtain⟨x,h,xl⟩:=ZF g;rw[VW v,u]at h;cases h;lia
   .rcases fu with ⟨v,u,B,O⟩|⟨v,u,B⟩
    .have es:=oI (bs:=bs) (rs:=rs) (ts:=ts) (Zq:=Z') (m:=3) (i:=i) u v;have L3:=S;rw[es]at L3;obtain⟨y,x,o,R⟩:=X.halt _ L3 hh;refine⟨?_,x,by rwa[es],R⟩;show Jf bs rs (ts i).rd q (ID bs rs ts Z' 3 i q)=HD;rwa[es]
    .rw[B]at hh;cases hh
  .rw[HF w,C]at t;rw[t];exact stay
 .have t:=Vk (l:=Zq i) (q:=KG (ts i) ac f Y) (j:=j);rw[<- e,HF<|sZ,C]at t;rw[t];exact stay
end
section
variable {bs:tE}{rs:tZ}{ts:uE}{Zq Z':ZZ}{n:Nat}{ac:Ig}{D:Int}{N:Nat}
def Nd (T:TsOk n ts)(P:PZ n ts Zq D N)(ex:LA bs rs)(r:D<=ac.2.2)(s:N<300)(p:(tk bs rs ts Zq ac n).1=Z')(hz:∀i<n,∀st∈Zq i,HZ bs rs ts Zq D i st):∀i<n,∀st∈Z' i,HZ bs rs ts Z' ac.2.2 i st:=λi o st t=>by
 have M:=NA T P ex r s p hz i o;have k:∀j<(Zq i).length,(Z' i).getD j Hz=st->HZ bs rs ts Z' ac.2.2 i st:=λj b e=>by have:=(M j b).h;rwa[e]at this
 obtain⟨j,b⟩:=Bx t;have a:=(Ac.mp b).1;have m:(Z' i).getD j Hz=st:=by rw[Ak,b];rfl
 by_cases c:j<(Zq i).length
 .exact k j c m
 .rcases jV (bs:=bs) (rs:=rs) T o p with g|⟨g,e⟩|⟨f,Y,e⟩
  .rw[g]at a;exact absurd a c
  .rw[e,Vi<|Tg g]at a;exact absurd a c
  .have d:=Vk (l:=Zq i) (q:=KG (ts i) ac f Y) (j:=j);rw[<- e,m]at d;rw[e,Ae,AG]at a;rw[HI<|sZ]at d;rw[d];exact⟨(λz=>by cases z),λz h=>absurd h A9⟩
end
section
variable {o r:tJ}{ps:tu}{F m s:Int}{g:tU}{H H':Hp}{u c b:TS}{D:L2.Ends}{σ σ':L2.St}
theorem MC {o:Bool}:MD o r=Aa "over" ↔ o=HG:=by
 unfold MD;cases o with
 |true=>simp
 |false =>
  refine⟨λz=>?_,λz=>by cases z⟩;cases r with|none=>rw[HF Ud,HI Z]at z;exact absurd z Uk|some l=>rw[HF Ud,HF<|λq=>by cases q]at z;exact absurd z Uk
theorem oH:IW (ps++[(F,o)])=decide (oV o=V.non):=by unfold IW;rw[List.getLast?_concat];cases o <;>rfl
theorem QL {a:uC}(c:OS a){m:Nat}{ac:Ig}(b:a[m]?=HA ac)(d:0<=ac.2.2):((a.take m).getLastD dA).2.2<=ac.2.2:=by
 have hm:=(Ac.mp b).1;rw[List.getLastD_eq_getLast?];cases m with|zero=>exact d|succ m =>rw[List.getLast?_take,HF<|sZ,D9,Ad<|sZ];exact qwo c (BQ m) (Ad<|sZ) b
theorem VB {f d:Int}(s0:0<=s)(F:Mg g ps s m (HA f))(sd:s<=d):cn (IQ g ps) (s+1)+m<=cn (IQ g ps) (d+1)↔f<=d:=by
 have C:=LU<|IQ g ps;obtain⟨_,a,_⟩:=F;have st:=C.st f sZ;rw[a,HF Ud]at st;constructor
 .intro h;by_cases z:f<=d
  .exact z
  .have:=C.le (n:=d+1) (m:=f) sZ sZ;lia
 .intro h;have:=C.le (n:=f+1) (m:=d+1) sZ sZ;lia
structure Wq (g tf:tU)(ps:tu)(s m l day left:Int):Prop where
 hs:s<=day
 he:cn (IQ g ps) (day+1)=cn (IQ g ps) (s+1)+m-left
 lt:day<l
theorem qws {a:tU}{l day left left':Int}(k:0<=s)(W:Wq g a ps s m l day left)(L:LP g a ps s m (HA l))(e:left'=if IQ g ps (day+1)=HG then left else left-1):(left'<=0/\IQ a ps (day+1)=HH->day+1=l)/\(¬(left'<=0/\IQ a ps (day+1)=HH)->Wq g a ps s m l (day+1) left'):=by
 have C:=LU<|IQ g ps;have hs:=W.hs;have he:=W.he;have lt:=W.lt;have st:=C.st (day+1) sZ;have c:cn (IQ g ps) (day+1+1)=cn (IQ g ps) (s+1)+m-left':=by rw[st,e];split <;>lia
 rcases L with ⟨_,z⟩|⟨f,F,D1,i,j⟩
 .cases z
 have ac:=VB k F (d:=day+1) sZ;refine⟨λ⟨_,b⟩=>?_,λh=>⟨sZ,c,?_⟩⟩
 .have fd:f<=day+1:=ac.mp sZ;by_cases z:day+1<l
  .rw[j _ fd z]at b;cases b
  .lia
 .by_cases z:day+1=l
  .exfalso;refine h ⟨?_,by rwa[z]⟩;have:=ac.mpr sZ;lia
  .lia
theorem ZU (h:oV r=V.non):r=HD:=by
 cases r with|none=>rfl|some x=>cases h
theorem qwt (h:¬oV r=V.non):∃f,r=HA f:=by
 cases r with|none=>exact absurd rfl h|some x=>exact⟨x,Z⟩
theorem qyi {ts:List tW}(h:OP ts []=HG):ts=[]:=by
 cases ts with|nil=>rfl|cons _ _=>cases h
def Sh:Sp:=λvs H Q _=>∃(p:HC)(d:Int)(ps:tu),vs=[.ref p,.int d]/\AtQ H p ps/\Q (.bl<|Jg ps d) H
def Sj:Sp:=λvs H Q _=>∃(p:HC)(d:Int)(ps:tu),vs=[.ref p,.int d]/\AtQ H p ps/\ps.length<=1000/\(∀z∈ps,z.1<=d)/\∀(q:HC)(H':Hp),Same H H'->(q=p\/H q=HD)->AtQ H' q (KL ps d)->Q (.ref q) H'
def DaysAt (H:Hp)(p:HC)(wk:tL)(yr:uB)(rs:tZ):Prop:=∃pw py pr,H p=HA (.tup [.ref pw,.ref py,.ref pr])/\H pw=HA (.lst<|wk.map V.int)/\AtP H py yr/\At H pr rs
theorem DaysAt.same {p:HC}{wk:tL}{yr:uB}{rs:tZ}(h:DaysAt H p wk yr rs)(s:Same H H'):DaysAt H' p wk yr rs:=by obtain⟨l,j,e,k,c,⟨a,g,f⟩,⟨d,i,b⟩⟩:=h;exact HW l j e ⟨s _ _ k,s _ _ c,⟨a,s _ _ g,f.same s⟩,⟨d,s _ _ i,b.same s⟩⟩
theorem UM (i:Three)(u:Int):Li i u=if KM i=Aa "weeks" then 7*u else u:=by
 cases i
 .rw[HF (show ¬KM .a=Aa "weeks" by decide +kernel)];rfl
 .rw[HI (show KM .b=Aa "weeks" by decide +kernel)];rfl
 .rw[HF (show ¬KM .c=Aa "weeks" by decide +kernel)];rfl
theorem rR (bs:tE)(rs:tZ)(i:Three)(n:Int):kf bs rs i n=if KM i=Aa "court" then Jd bs rs n else HH:=by
 cases i
 .rw[HF (show ¬KM .a=Aa "court" by decide +kernel)];rfl
 .rw[HF (show ¬KM .b=Aa "court" by decide +kernel)];rfl
 .rw[HI (show KM .c=Aa "court" by decide +kernel)];rfl
def Sa:Sp:=λvs H Q _=>∃n:Int,vs=[.int n]/\Q (.int<|IV n) H
def S0:Sp:=λvs H Q _=>∃(n:Int)(pd:HC)(wk:tL)(yr:uB)(rs:tZ),vs=[.ref pd,.int n]/\DaysAt H pd wk yr rs/\(∀r∈rs,LV r)/\Q (.bl<|YB wk yr rs n) H
def Sb (a:Adr):Sp:=λvs H Q _=>∃(s u l:Int)(rl pq pd:HC)(ts:uE)(i:Nat)(ps:tu)(wk:tL)(yr:uB)(rs:tZ),vs=[.int s,.ref rl,.int u,.ref pq,.ref pd]/\RuleT a H rl ts i/\AtQ H pq ps/\DaysAt H pd wk yr rs/\(∀r∈rs,LV r)/\0<=s/\LP (kf (II wk yr) (ov rs) (ts i).rd.unit) (Jd (II wk yr)<|ov rs) ps s (Li (ts i).rd.unit u) (HA l)/\∀H',Same H H'->Q (.int l) H'
theorem JM {t:TS}(e:u=t)(h:t D σ H):u D σ H:=by rwa[e]
theorem Wp {a e d r:TS}(h:∀u2 u3 u4 u5 u6:TS,u6=r->u5=Ks b u6->u4=Ks d u5->u3=Ks e u4->u2=Ks c u3->Ks a u2 D σ H):Ks a (Ks c<|Ks e<|Ks d<|Ks b r) D σ H:=h _ _ _ _ _ rfl rfl rfl rfl rfl
theorem MV {a r:TS}(h:∀u2 u3 u4:TS,u4=r->u3=Ks c u4->u2=Ks b u3->Ks a u2 D σ H):Ks a (Ks b<|Ks c r) D σ H:=h _ _ _ rfl rfl rfl
theorem na4 {i:Nat}{v:V}(e:σ.set i (HA v)=σ')(h:u D σ' H):Ks (VS (tC v)<|Ja i) u D σ H:=by subst e;exact h
end
section
variable {rd:RD}{st:RS}{s r:tJ}{n k:Str}{d:Int}
abbrev Pe (rd:RD)(k:Str):Prop:=k=rd.owes\/rd.ends.contains k=HG
def Uw (o:st.over=HH)(e:Pe rd k):(IZ rd st s r n d k).1={st with ps:=KL st.ps d,over:=HG,rows:=st.rows++[(n,d,Aa "ends")]}:=by
 have a:Ik rd k=Aa "ends" := by unfold Ik;rw[HI e]
 unfold IZ;rw[HF,a]
 .unfold JQ;rw[HI Z]
 .rw[a,o];rintro (z|z)
  .exact absurd z Uk
  .cases z
def R9 (e:¬Pe rd k)(u:under s r d=HH):(IZ rd st s r n d k).1=st:=by
 unfold IZ;split
 .rfl
 .have:Ik rd k≠Aa "ends" := by
   unfold Ik
   rw[HF e]
   split
   .decide +kernel
   .split
    .decide +kernel
    .unfold LZ;split
     .decide +kernel
     .split
      .decide +kernel
      .split <;>decide +kernel
  unfold JQ
  rw[HF this,HI u]
def Ux (o:st.over=HH)(e:¬Pe rd k)(u:under s r d=HG)(h:rd.anew.contains k=HG):(IZ rd st s r n d k).1={st with day:=d,units:=rd.many,ps:=[],gr:=[],bv:=.non,rows:=st.rows++[(n,d,Aa "anew")]}:=by
 have a:Ik rd k=Aa "anew" := by unfold Ik;rw[HF e,HI h]
 unfold IZ;rw[HF,a]
 .unfold JQ;rw[HF Uk,HF (by rw[u];decide),HI Z]
 .rw[a,o];rintro (z|z)
  .exact absurd z Uk
  .cases z
def Nr (o:st.over=HH)(e:¬Pe rd k)(u:under s r d=HG)(h:rd.anew.contains k=HH){t:Str×Int×Int}(l:LY rd st.gr k=HA t):(IZ rd st s r n d k).1={st with units:=st.units+t.2.1,gr:=JT st.gr (.inr k)<|.int<|gv st.gr k+1,rows:=st.rows++[(n,d,Aa "longer")]}:=by
 have c:(rd.longer.map (·.1)).contains k=HG:=by have g:=CJ l;have b:=List.find?_some l;have f:t.1=k:=HK (Bool.and_eq_true_iff.mp b).1;exact B2.mpr<|AQ.mpr ⟨t,g,f⟩
 have a:Ik rd k=Aa "longer" := by unfold Ik;rw[HF e,HF (by rw[h];decide),HI c]
 unfold IZ;rw[HF,a]
 .unfold JQ;rw[HF Uk,HF (by rw[u];decide),HF Uk,HI Z,l]
 .rw[a,o];rintro (z|z)
  .exact absurd z Uk
  .cases z
theorem Nq (e:¬Pe rd k)(h:rd.anew.contains k=HH)(l:LY rd st.gr k=HD)(j:∀z,rd.still=HA z->(k≠z.1\/IW st.ps=HG)/\(k=z.1\/k≠z.2\/IW st.ps=HH)):(IZ rd st s r n d k).1=st:=by
 unfold IZ;split
 .rfl
 .rename_i a;cases u:under s r d with
  |false =>have:=R9 (st:=st) (n:=n) (s:=s) (r:=r) e u;unfold IZ at this;rwa[HF a]at this
  |true =>
   by_cases c:(rd.longer.map (·.1)).contains k=HG
   .have f:Ik rd k=Aa "longer" := by unfold Ik;rw[HF e,HF (by rw[h];decide),HI c]
    rw[f];unfold JQ;rw[HF Uk,HF (by rw[u];decide),HF Uk,HI Z,l]
   .have f:Ik rd k=LZ rd.still k:=by unfold Ik;rw[HF e,HF (by rw[h];decide),HF c]
    rw[f]at a |-;cases es:rd.still with
    |none=>rw[es]at a;exact absurd (.inl Z) a
    |some z =>
     rw[es]at a;obtain⟨o,i⟩:=j z es;unfold LZ at a |-;dsimp only at a |-;by_cases b:k=z.1
     .rw[HI b];unfold JQ;rw[HF Uk,HF (by rw[u];decide),HF Uk,HF Uk,HI Z,HI<|o.resolve_left λq=>q b]
     .rw[HF b]at a |-;by_cases g:k=z.2
      .rw[HI g];have m:IW st.ps=HH:=(i.resolve_left b).resolve_left λq=>q g;unfold JQ;rw[HF Uk,HF (by rw[u];decide),HF Uk,HF Uk,HF Uk,m];rfl
      .rw[HF g]at a;exact absurd (.inl Z) a
def Ql (o:st.over=HH)(e:¬Pe rd k)(u:under s r d=HG)(h:rd.anew.contains k=HH){z:Str×Str}(es:rd.still=HA z)(f:z.1∉rd.longer.map (·.1))(b:k=z.1)(c:IW st.ps=HH):(IZ rd st s r n d k).1={st with ps:=st.ps++[(d,HD)],rows:=st.rows++[(n,d,Aa "still")]}:=by
 have a:Ik rd k=Aa "still" := by unfold Ik;rw[HF e,HF (by rw[h];decide),HF<|λq=>f<|b ▸ B2.mp q,es];unfold LZ;dsimp only;rw[HI b]
 unfold IZ;rw[HF,a]
 .unfold JQ;rw[HF Uk,HF (by rw[u];decide),HF Uk,HF Uk,HI Z,HF (by rw[c];decide)]
 .rw[a,o];rintro (z|z)
  .exact absurd z Uk
  .cases z
def Uv (o:st.over=HH)(e:¬Pe rd k)(u:under s r d=HG)(h:rd.anew.contains k=HH){z:Str×Str}(es:rd.still=HA z)(g:z.2∉rd.longer.map (·.1))(f:z.1≠z.2)(a:k=z.2)(c:IW st.ps=HG):(IZ rd st s r n d k).1={st with ps:=KL st.ps d,rows:=st.rows++[(n,d,Aa "goes on")]}:=by
 have b:Ik rd k=Aa "goes on" := by unfold Ik;rw[HF e,HF (by rw[h];decide),HF<|λq=>g<|a ▸ B2.mp q,es];unfold LZ;dsimp only;rw[HF<|λq=>f<|q.symm.trans a,HI a]
 unfold IZ;rw[HF,b]
 .unfold JQ;rw[HF Uk,HF (by rw[u];decide),HF Uk,HF Uk,HF Uk,HI c]
 .rw[b,o];rintro (z|z)
  .exact absurd z Uk
  .cases z
end
section
variable {ts:uE}{J:Hp}{a:tW}{v:V}{i:Nat}{st st':RS}{d F:Int}{q b c pn:HC}{used:tG}{n:Str}{ps:tu}
def TieV (ts:uE)(J:Hp)(v:V)(base:tM)(bv:V):Prop:=(bv=.non/\v=.non) \/ ∃(t:HC)(b k:Nat),bv=.int (k:Int)/\base=HA b/\v=.ref t/\J t=HA (.tup [.str (ts b).name,.int (k:Int)])
theorem TieV.same {a:Hp}{bv:V}{base:tM}(h:TieV ts J v base bv)(s:Same J a):TieV ts a v base bv:=h.imp id<|by intro w';obtain⟨t,b,k,f,d,e,c⟩:=w';exact (HW t b k ⟨f,d,e,s _ _ c⟩)
def LRun (ts:uE)(l:tI)(J:Hp)(v:V)(i:Nat)(st:RS):Prop:=∃(x pu pp pr:HC)(tv:V)(used:tG),v=.ref x/\J x=HA (.tup [.str<|Js st,tv,.int st.day,.int st.units,.ref pu,.ref pp,.bl st.over,.ref pr])/\TieV ts J tv (ts i).base st.bv/\J pu=HA (.lst<|used.map V.str)/\(∀k,(used.count k:Int)=gv st.gr k)/\used.length<=st.rows.length/\AtQ J pp st.ps/\AtR J pr st.rows/\pu∉l/\pp∉l/\pr∉l
theorem LRun.same {l:tI}{a:Hp}(h:LRun ts l J v i st)(s:Same J a):LRun ts l a v i st:=by obtain⟨x,d,c,f,g,used,q,e,m,k,o,b,n,p,j⟩:=h;exact K9 x d c f g used ⟨q,s _ _ e,m.same s,s _ _ k,o,b,n.same s,p.same s,j⟩
theorem LRun.but {l:tI}{d:Hp}(h:LRun ts l J v i st)(B:∀c∈l,∃us,J c=HA (.lst us))(s:∀b o,b∉l->J b=HA o->d b=HA o):LRun ts l d v i st:=by have a:∀b t,J b=HA (.tup t)->d b=HA (.tup t):=λb t e=>s b _ (λz=>by obtain⟨us,N⟩:=B b z;rw[N]at e;cases e) e;obtain⟨x,q,p,w,y,used,O,r,F,D,K,n,⟨E,H,M⟩,⟨u,L,m⟩,f,j,g⟩:=h;refine K9 x q p w y used ⟨O,a _ _ r,F.imp id ?_,s _ _ f D,K,n,⟨E,s _ _ j H,Kt M a⟩,⟨u,s _ _ g L,Kt m a⟩,f,j,g⟩;intro w';obtain⟨t,b,k,G,I,C,A⟩:=w';exact HW t b k ⟨G,I,C,a _ _ A⟩
theorem qwu {l:tI}{a:HC}{d:V}(g:J q=HD)(m:TieV ts J d (ts i).base st.bv)(h:J b=HA (.lst<|used.map V.str))(p:∀k,(used.count k:Int)=gv st.gr k)(f:used.length<=st.rows.length)(n:AtQ J a st.ps)(t:AtR J c st.rows)(e:b∉l)(r:a∉l)(j:c∉l):LRun ts l (upd J q<|.tup [.str<|Js st,d,.int st.day,.int st.units,.ref b,.ref a,.bl st.over,.ref c]) (.ref q) i st:=by have s:=qx (o:=.tup [.str<|Js st,d,.int st.day,.int st.units,.ref b,.ref a,.bl st.over,.ref c]) g;exact K9 q b a c d used ⟨Z,qk,m.same s,s _ _ h,p,f,n.same s,t.same s,e,r,j⟩
theorem XB {i t l:HC}{rows:List R3}{w:Str}(h:J i=HA (.lst a))(tr:Tups J a (rows.map TV))(g:J t=HD)(j:upd J t (.tup [.str n,.int d,.str w]) l=HD)(f:upd (upd J t<|.tup [.str n,.int d,.str w]) l (.lst [.ref t]) pn=HD):Same J (upd (upd (upd J t<|.tup [.str n,.int d,.str w]) l<|.lst [.ref t]) pn<|.lst<|a++[.ref t])/\AtR (upd (upd (upd J t<|.tup [.str n,.int d,.str w]) l<|.lst [.ref t]) pn<|.lst<|a++[.ref t]) pn (rows++[(n,d,w)])/\J pn=HD:=by have c:=qx (o:=.tup [.str n,.int d,.str w]) g;have b:=qx (o:=.lst [V.ref t]) j;have e:=qx (o:=.lst<|a++[V.ref t]) f;refine⟨c.trans<|b.trans e,⟨_,qk,?_⟩,(c.trans b).free f⟩;rw[Aq];exact Vp (tr.same<|c.trans<|b.trans e)<|(b.trans e) _ _ qk
theorem Q2 {i t l:HC}(h:J i=HA (.lst a))(tr:Tups J a (ps.map K5))(g:J t=HD)(j:upd J t (.tup [.int d,.non]) l=HD)(f:upd (upd J t<|.tup [.int d,.non]) l (.lst [.ref t]) pn=HD):Same J (upd (upd (upd J t<|.tup [.int d,.non]) l<|.lst [.ref t]) pn<|.lst<|a++[.ref t])/\AtQ (upd (upd (upd J t<|.tup [.int d,.non]) l<|.lst [.ref t]) pn<|.lst<|a++[.ref t]) pn (ps++[(d,HD)])/\J pn=HD:=by have c:=qx (o:=.tup [.int d,.non]) g;have b:=qx (o:=.lst [V.ref t]) j;have e:=qx (o:=.lst<|a++[V.ref t]) f;refine⟨c.trans<|b.trans e,⟨_,qk,?_⟩,(c.trans b).free f⟩;rw[Aq];exact Vp (tr.same<|c.trans<|b.trans e)<|(b.trans e) _ _ qk
theorem Qv {gr:List (IC×V)}{a:Str}(h:∀k,(used.count k:Int)=gv gr k)(k:Str):((used++[a]).count k:Int)=gv (JT gr (.inr a)<|.int<|gv gr a+1) k:=by
 rw[List.count_append,List.count_singleton,Uj];by_cases c:k=a
 .subst c;rw[HI Z,<- h k];simp
 .rw[HF c,<- h k];simp[By c]
def S6:Sp:=λvs H Q _=>∃(x tsp:HC)(ts:uE)(i:Nat)(st:RS)(s r:tJ)(ll:tI),vs=[.ref x,.ref tsp]/\LRun ts ll H (.ref x) i st/\H tsp=HA (.tup [oV s,oV r])/\∀(q pp pr:HC)(H':Hp),Same H H'->H q=HD->AccAt H' q pp pr (Js st) st s r->pp∉ll->pr∉ll->Q (.ref q) H'
def Sd (a:Adr):Sp:=λvs H Q _=>∃(x rl qa tsp:HC)(ts:uE)(i:Nat)(st:RS)(s r:tJ)(ac:Ig)(c:Int)(ll:tI),vs=[.ref x,.ref rl,.ref qa,.ref tsp]/\LRun ts ll H (.ref x) i st/\(∀c∈ll,H c≠HD)/\RuleT a H rl ts i/\RdOk (ts i).rd/\H qa=HA (.tup<|KA ac)/\H tsp=HA (.tup [oV s,oV r])/\st.over=HH/\StOk st c/\st.rows.length<=100/\(∀z∈st.ps,z.1<=ac.2.2)/\(∀y,s=HA y->(r=HD↔IW st.ps=HG))/\(∀z,(ts i).rd.still=HA z->z.1≠z.2/\z.1∉(ts i).rd.longer.map (·.1)/\z.2∉(ts i).rd.longer.map (·.1)) /\
 ∀(x':HC)(H':Hp),Same H H'->LRun ts ll H' (.ref x') i (IZ (ts i).rd st s r ac.1 ac.2.2 ac.2.1).1->Q (.ref x') H'
theorem VN (a b c d e f g h:V):[a,b,c,d,e,f,g,h].length<=A4:=JJ (show 8<=100000 by decide)
theorem Vg {x:R3}(h:st.rows≠[])(e:st'.rows=st.rows++[x]):Js st'=Js st:=by
 unfold Js;rw[e];cases a:st.rows with|nil=>exact absurd a h|cons y l=>rfl
theorem Pw (ok:PsOk ps)(h:(F,HD)∈ps):IW ps=HG:=by
 rcases Bm ps with e|⟨qs,⟨G,o⟩,e⟩
 .rw[e]at h;cases h
 .rw[Bo]at e;subst e;cases o with
  |none=>rw[oH];rfl
  |some x =>
   rcases As.mp h with h|h
   .obtain⟨e,q,_⟩:=(Bg.mp ok.srt).2.2 _ h _<|Aj.mpr Z;cases q
   .cases Aj.mp h
def Yp (bs:tE)(rs:tZ)(ts:uE)(Zq:ZZ)(i:Nat):Prop:=∀b,b<=i->∀st∈Zq b,IW st.ps=HG->Jm bs rs ts Zq b st=HD
def eQ (n:Nat)(Zq:ZZ)(L:tG):Prop:=∀i<n,∀st∈Zq i,Js st∈L
theorem qta {rd:RD}{s r:tJ}{k:Str}(h:st.rows≠[]):Js (IZ rd st s r n d k).1=Js st:=by
 rcases Nn (rd:=rd) (st:=st) (s:=s) (r:=r) (n:=n) (k:=k) (d:=d) with e|e
 .rw[e]
 .exact Vg h e
end
section
variable {bs:tE}{rs:tZ}{ts:uE}{Zq Z':ZZ}{n:Nat}{ac:Ig}{D:Int}{N:Nat}
def qww (P:PZ n ts Zq D N)(ex:LA bs rs){i:Nat}{st:RS}{x:Int}(a:i<n)(b:st∈Zq i)(e:ID bs rs ts Zq 3 i st=HA x)(c:Jm bs rs ts Zq i st=HD):IW st.ps=HG:=by have L:LsS bs rs (ts i).rd st (ID bs rs ts Zq 3 i st) (Jm bs rs ts Zq i st):=RW P ex (m:=3) a (P.ok i a _ b)<|P.wf i a _ b;rw[c,e]at L;obtain⟨F,d⟩:=qs7 L;exact Pw (P.ok i a _ b).ps d
def QV (T:TsOk n ts)(P:PZ n ts Zq D N)(ex:LA bs rs)(f:D<=ac.2.2)(l:N<300)(e:(tk bs rs ts Zq ac n).1=Z')(hz:∀i<n,∀st∈Zq i,HZ bs rs ts Zq D i st){i:Nat}{st:RS}(c:i<n)(j:st∈Zq i)(h:IW st.ps=HG):Jm bs rs ts Z' i st=HD:=by
 have r:PZ n ts Z' ac.2.2 (N+1):=by rw[<- e];exact RV T P ex f l<|Al n
 have len:∀i,(Zq i).length<=(Z' i).length:=λi=>by have:=(Tn (bs:=bs) (rs:=rs) (ts:=ts) (Zq:=Zq) (ac:=ac) (m:=n) (i:=i)).2;rw[e]at this;rw[this];lia
 obtain⟨s,x,d,_⟩:=(hz i c st j).1 h;have wf:=P.wf i c st j;have q:ID bs rs ts Z' 3 i st=ID bs rs ts Zq 3 i st:=by
  rcases wf.1 with a|⟨k,a⟩
  .rw[VW a,VW a]
  .obtain⟨b,o,h2,h3,g⟩:=wf.2 _ a;rw[Bb]at g;rw[d];rw[XC T P c wf a o]at d;rw[XC T r c (wf.mono len) a o];exact((NA T P ex f l e hz b sZ k g).p x d<|sZ).2
 show Jf bs rs (ts i).rd st (ID bs rs ts Z' 3 i st)=HD;rwa[q]
def Nf (T:TsOk n ts)(P:PZ n ts Zq D N)(ex:LA bs rs)(g:D<=ac.2.2)(j:N<300)(hz:∀i<n,∀st∈Zq i,HZ bs rs ts Zq D i st){i:Nat}(k:i<n):Yp bs rs ts (tk bs rs ts Zq ac i).1 i:=λb _ st a h=>by
 have d:∀c<i,(tk bs rs ts Zq ac i).1 c=(tk bs rs ts Zq ac n).1 c:=λc f=>by rw[VU f,<- VU (m:=n) sZ]
 have es:=qwr (bs:=bs) (rs:=rs) (Y:=(tk bs rs ts Zq ac i).1) (Z':=(tk bs rs ts Zq ac n).1) T (show b<n by lia) (λc f=>d c<|sZ) 2 st;have e:Jm bs rs ts (tk bs rs ts Zq ac n).1 b st=HD:=by
  by_cases c:b=i
  .subst c;rw[Mh<|Al b]at a;exact QV T P ex g j rfl hz k a h
  .rw[d b<|sZ]at a;exact((Nd T P ex g j Z hz b sZ st a).1 h).1
 show Jf bs rs (ts b).rd st (ID bs rs ts (tk bs rs ts Zq ac i).1 3 b st)=HD;rwa[es]
def RF (Y:ZZ)(b:Nat)(x:Str):Prop:=Y b≠[]/\Js ((Y b).getD ((Y b).length-1) Hz)=x
theorem qwx (P:PZ n ts Zq D N){L:tG}(h:eQ n Zq L)(o:ac.1∉L):∀i,i<=n->∀b<n,((tk bs rs ts Zq ac i).2 b=HG↔RF (tk bs rs ts Zq ac i).1 b ac.1)
 |0,_,b,hb=>⟨(λz=>by cases z),by rintro ⟨t,a⟩;have k:=B4.mpr t;have e:(Zq b).getD ((Zq b).length-1) Hz∈Zq b:=K8 (by have:0<(Zq b).length:=k;lia);have a:Js ((Zq b).getD ((Zq b).length-1) Hz)=ac.1:=a;exact absurd (a ▸ h b hb _ e) o⟩
 |i+1,hi,b,hb=>by
  have f:=qwx P h o i sZ b hb;by_cases c:b=i
  .subst c;have p:=Mh (bs:=bs) (rs:=rs) (ts:=ts) (Zq:=Zq) (ac:=ac)<|Al b;have g:¬(tk bs rs ts Zq ac b).2 b=HG:=λz=>absurd ((Tn (bs:=bs) (rs:=rs) (ts:=ts) (Zq:=Zq) (ac:=ac) (m:=b) (i:=b)).1 z)<|BY b;rw[Pb];split
   .rename_i s;have d:=Tg s;have k:=B4.mpr d;refine⟨λz=>absurd z g,λw6a'=>?_⟩;obtain⟨_,a⟩:=w6a';refine absurd (f.mpr ⟨d,?_⟩) g;have a:Js ((put (tk bs rs ts Zq ac b).1 b (K6 bs rs ts (tk bs rs ts Zq ac b).1 b ac) b).getD ((put (tk bs rs ts Zq ac b).1 b (K6 bs rs ts (tk bs rs ts Zq ac b).1 b ac) b).length-1) Hz)=ac.1:=a;rw[JB]at a;unfold K6 at a;rw[Vi d,ZX d<|sZ,HI Z,qta]at a
    .exact a
    .have e:=K8 (l:=(tk bs rs ts Zq ac b).1 b) (j:=((tk bs rs ts Zq ac b).1 b).length-1) sZ;rw[p]at e |-;exact(P.ok b hb _ e).r0
   .split
    .refine⟨λ_=>⟨?_,?_⟩,λ_=>?_⟩
     .show put (tk bs rs ts Zq ac b).1 b _ b≠[];rw[JB];exact λz=>by cases (C9.mp z).2
     .show Js ((put (tk bs rs ts Zq ac b).1 b _ b).getD ((put (tk bs rs ts Zq ac b).1 b _ b).length-1) Hz)=ac.1;rw[JB,Vk,Ae,AG,HI<|sZ];rfl
     .show put _ b HG b=HG;rw[JB]
    .exact f
  .obtain⟨r,q⟩:=qwq (bs:=bs) (rs:=rs) (ts:=ts) (Zq:=Zq) (ac:=ac) c;unfold RF;rwa[r,q]
def M7 (T:TsOk n ts)(P:PZ n ts Zq D N)(k:(tk bs rs ts Zq ac n).1=Z'){L:tG}(d:eQ n Zq L):eQ n Z' (L++[ac.1]):=λi b st a=>by
 rcases jV (bs:=bs) (rs:=rs) T b k with c|⟨c,e⟩|⟨f,Y,e⟩
 .rw[c]at a;exact As.mpr<|.inl<|d i b st a
 .have h:=Tg c;have hp:=B4.mpr h;rw[e]at a;rcases As.mp a with a|a
  .exact As.mpr<|.inl<|d i b st<|List.dropLast_subset _ a
  .have g:=K8 (l:=Zq i) (j:=(Zq i).length-1) sZ;rw[Aj.mp a,qta (P.ok i b _ g).r0];exact As.mpr<|.inl<|d i b _ g
 .rw[e]at a;rcases As.mp a with a|a
  .exact As.mpr<|.inl<|d i b st a
  .rw[Aj.mp a];exact As.mpr<|.inr<|Aj.mpr Z
end
section
variable {n i:Nat}{p:tT}{ts:uE}{Y:ZZ}{H H':Hp}{us:tW}{q:RS}{x:V}
noncomputable def pl (n:Nat)(p:tT):tI:=(An n).map p
theorem Mn (h:i<n):p i∈pl n p:=AQ.mpr ⟨i,AE.mpr h,Z⟩
theorem Wn {c:HC}(h:c∈pl n p):∃i,i<n/\p i=c:=by obtain⟨i,b,a⟩:=AQ.mp h;exact⟨i,AE.mp b,a⟩
def LHeld (n:Nat)(ts:uE)(Y:ZZ)(p:tT)(H:Hp):Prop:=∀i<n,∃us:tW,H (p i)=HA (.lst us)/\us.length=(Y i).length/\∀j v,us[j]?=HA v->LRun ts (pl n p) H v i ((Y i).getD j Hz)
theorem LHeld.same (h:LHeld n ts Y p H)(s:Same H H'):LHeld n ts Y p H':=λi b=>by obtain⟨us,d,a,c⟩:=h i b;exact⟨us,s _ _ d,a,λj v e=>(c j v e).same s⟩
theorem LHeld.ls (h:LHeld n ts Y p H):∀c∈pl n p,∃us,H c=HA (.lst us):=λc a=>by obtain⟨i,b,rfl⟩:=Wn a;obtain⟨us,d,_⟩:=h i b;exact⟨us,d⟩
theorem LHeld.kp {o:HO}(a:i<n):∀b u,b∉pl n p->H b=HA u->upd H (p i) o b=HA u:=λb u c e=>by rw[qr (λz:b=p i=>c (by rw[z];exact Mn a))];exact e
theorem LHeld.set (h:LHeld n ts Y p H)(inj:∀j<n,∀j'<n,p j=p j'->j=j')(b:i<n){L:List RS}(len:us.length=L.length)(d:∀j v,us[j]?=HA v->LRun ts (pl n p) H v i (L.getD j Hz)):LHeld n ts (put Y i L) p (upd H (p i)<|.lst us):=by
 intro c a;by_cases z:c=i
 .subst z;exact⟨us,qk,by rw[JB];exact len,λj v e=>by rw[JB];exact(d j v e).but h.ls<|LHeld.kp b⟩
 .obtain⟨us',k,f,g⟩:=h c a;exact⟨us',by rw[qr<|λq=>z<|inj _ a _ b q];exact k,by rwa[Iv z],λj v e=>by rw[Iv z];exact(g j v e).but h.ls<|LHeld.kp b⟩
theorem LHeld.setL (h:LHeld n ts Y p H)(inj:∀j<n,∀j'<n,p j=p j'->j=j')(b:i<n)(f:H (p i)=HA (.lst us))(a:Y i≠[])(g:LRun ts (pl n p) H x i q):LHeld n ts (put Y i<|(Y i).dropLast++[q]) p (upd H (p i)<|.lst<|us.set ((Y i).length-1) x):=by
 obtain⟨_,c,d,k⟩:=h i b;rw[f]at c;cases c;have hp:=B4.mpr a;refine h.set inj b (by rwa[Ed,Vi a]) λj v e=>?_;have hj:j<us.length:=by have:=(Ac.mp e).1;rwa[Ed]at this
 rw[ZX a<|sZ];by_cases z:j=(Y i).length-1
 .rw[HI z];rw[List.getElem?_set,HI z.symm,HI<|sZ]at e;cases e;exact g
 .rw[HF z];rw[List.getElem?_set,HF<|By z]at e;exact k j v e
theorem LHeld.app (h:LHeld n ts Y p H)(inj:∀j<n,∀j'<n,p j=p j'->j=j')(b:i<n)(f:H (p i)=HA (.lst us))(g:LRun ts (pl n p) H x i q):LHeld n ts (put Y i<|Y i++[q]) p (upd H (p i)<|.lst<|us++[x]):=by
 obtain⟨_,c,a,k⟩:=h i b;rw[f]at c;cases c;refine h.set inj b (by rw[Ae,Ae,a];rfl) λj v e=>?_;rw[Vk];by_cases z:j=(Y i).length
 .rw[HI z];rw[z,<- a,Ci]at e;cases e;exact g
 .rw[HF z];have d:=(Ac.mp e).1;rw[Ae,AG]at d;rw[AB<|sZ]at e;exact k j v e
theorem UE (o:Option Str)(k:Str):Wl (KJ o) (.str k)=HG/\(decide (KJ o=V.str k)=decide (o=HA k)):=by
 cases o with
 |none=>exact⟨Z,by rw[HM sh,HM<|sh]⟩
 |some o =>
  refine⟨Z,?_⟩;show decide (V.str o=V.str k)=_;by_cases e:o=k
  .rw[HJ<|by rw[e],HJ<|by rw[e]]
  .rw[HM<|λz=>e<|V.str.inj z,HM<|λz=>e<|A8 z]
end
section
variable {bs:tE}{rs:tZ}{ts:uE}{Zq:ZZ}{ac:Ig}{i:Nat}
def gd (h:LB ((tk bs rs ts Zq ac i).1 i)=HG):(tk bs rs ts Zq ac<|i+1).1=put (tk bs rs ts Zq ac i).1 i (K6 bs rs ts (tk bs rs ts Zq ac i).1 i ac):=by rw[Pb,HI h]
def fx (h:LB ((tk bs rs ts Zq ac i).1 i)=HH)(o:Kn (ts i) ac.2.1 (tk bs rs ts Zq ac i).2=HG):(tk bs rs ts Zq ac<|i+1).1=put (tk bs rs ts Zq ac i).1 i ((tk bs rs ts Zq ac i).1 i++[KG (ts i) ac (tk bs rs ts Zq ac i).2 (tk bs rs ts Zq ac i).1]):=by rw[Pb,HF (by rw[h];decide),HI o]
def fo (h:LB ((tk bs rs ts Zq ac i).1 i)=HH)(o:Kn (ts i) ac.2.1 (tk bs rs ts Zq ac i).2=HH):(tk bs rs ts Zq ac<|i+1).1=(tk bs rs ts Zq ac i).1:=by rw[Pb,HF (by rw[h];decide),HF (by rw[o];decide)]
end
section
variable {a:Adr}{H H' J:Hp}{n i m:Nat}{ts:uE}{c e q d:HC}{yr:uB}{b:tZ}{us:tW}{v:V}{st:RS}
theorem V5 {p:tX->tX->Hp->Prop}{f:tX->tX->L2.St}{k:L2.St->Hp->Prop}{R:Prop}(m:(∀x y J,p x y J->k (f x y) J)->R)(l:∀x y J,p x y J->k (f x y) J):R:=m l
def LawT (a:Adr)(H:Hp)(n:Nat)(ts:uE)(pb py:HC)(wk:tL)(yr:uB)(rz:tZ):Prop:=DaysAt H py wk yr rz/\(∀r∈rz,LV r)/\∃kvb,H pb=HA (.dK kvb)/\∀i<n,∃rl,Ih kvb (.inr (ts i).name)=HA (.ref rl)/\RuleT a H rl ts i
theorem LawT.same {wk:tL}(h:LawT a H n ts c e wk yr b)(s:Same H H'):LawT a H' n ts c e wk yr b:=by obtain⟨p,f,d,k,g⟩:=h;exact⟨p.same s,f,d,s _ _ k,λi o=>by obtain⟨j,l,m⟩:=g i o;exact⟨j,l,m.same s⟩⟩
def Tb (a:Adr)(m:Nat):Sp:=λvs H Q _=>∃(pd pb py:HC)(n:Nat)(ts:uE)(Y:ZZ)(p:tT)(wk:tL)(yr:uB)(rz:tZ)(D:Int)(N i j:Nat),vs=[.ref pd,.str (ts i).name,.int (j:Int),.ref pb,.ref py]/\Rd H pd (.dK<|Im n ts p)/\LHeld n ts Y p H/\LawT a H n ts pb py wk yr rz/\TsOk n ts/\PZ n ts Y D N/\LA (II wk yr) (ov rz)/\Yp (II wk yr) (ov rz) ts Y i/\i<n/\i<m/\j<(Y i).length /\
 ∀(q:HC)(H':Hp),Same H H'->H q=HD->H' q=HA (.tup [oV<|ID (II wk yr) (ov rz) ts Y 3 i<|(Y i).getD j Hz,oV<|Jm (II wk yr) (ov rz) ts Y i<|(Y i).getD j Hz])->Q (.ref q) H'
def Sv (a:Adr):Sp:=λvs H Q _=>∃(pd pb py qa:HC)(n:Nat)(ts:uE)(Zq Y:ZZ)(p:tT)(wk:tL)(yr:uB)(rz:tZ)(N i:Nat)(ac:Ig)(B:Hp),vs=[.ref pd,.str (ts i).name,.ref pb,.ref py,.ref qa]/\Y=(tk (II wk yr) (ov rz) ts Zq ac i).1/\Same B H/\(∀j<n,B (p j)=HD)/\(∀j<n,∀j'<n,p j=p j'->j=j')/\H pd=HA (.dK<|Im n ts p)/\LHeld n ts Y p H/\LawT a B n ts pb py wk yr rz/\TsOk n ts/\PZ n ts Y ac.2.2 N/\N<=60/\LA (II wk yr) (ov rz)/\Yp (II wk yr) (ov rz) ts Y i/\(∀b<n,(tk (II wk yr) (ov rz) ts Zq ac i).2 b=HG↔RF Y b ac.1)/\(∀st∈Y i,∀z∈st.ps,z.1<=ac.2.2)/\((∀b,(ts i).base=HA b->(ts i).opens=HD)/\∀s,(ts i).rd.still=HA s->s.1≠s.2/\s.1∉(ts i).rd.longer.map (·.1)/\s.2∉(ts i).rd.longer.map (·.1))/\i<n/\H qa=HA (.tup<|KA ac) /\
 ∀H',(∀b o,b∉pl n p->H b=HA o->H' b=HA o)->LHeld n ts (tk (II wk yr) (ov rz) ts Zq ac<|i+1).1 p H'->Q .non H'
def KpL (H H':Hp):Prop:=∀b o,(∀kv,o ≠ .dK kv)->(∀t,o ≠ .tbl t)->H b=HA o->H' b=HA o
theorem KpL.l (k:KpL H H'){b:HC}(e:H b=HA (.lst us)):H' b=HA (.lst us):=k b _ sh sh e
theorem KpL.t (k:KpL H H'){b:HC}(e:H b=HA (.tup us)):H' b=HA (.tup us):=k b _ sh sh e
theorem KpL.tups (k:KpL H H'){ts:List tW}(t:Tups H us ts):Tups H' us ts:=Kt t λ_ _ e=>k.t e
theorem LRun.kl {l:tI}{a:Hp}(h:LRun ts l J v i st)(s:KpL J a):LRun ts l a v i st:=by obtain⟨x,g,f,n,o,used,G,j,y,r,C,e,⟨u,A,F⟩,⟨m,E,c⟩,d,D,w⟩:=h;refine K9 x g f n o used ⟨G,s.t j,y.imp id ?_,s.l r,C,e,⟨u,s.l A,s.tups F⟩,⟨m,s.l E,s.tups c⟩,d,D,w⟩;intro w';obtain⟨t,b,k,z,B,q,p⟩:=w';exact HW t b k ⟨z,B,q,s.t p⟩
theorem LRun.more {l:tI}(h:LRun ts l J v i st)(C:J c=HD):LRun ts (c::l) J v i st:=by
 obtain⟨x,q,p,t,u,used,F,r,A,d,B,o,⟨w,f,E⟩,⟨s,g,j⟩,k,D,y⟩:=h;have a:∀{b:HC}{us:tW},J b=HA (.lst us)->b∉l->b∉c::l:=λ{b us} e n m=>by
  rcases Ax.mp m with z|z
  .rw[z,C]at e;cases e
  .exact n z
 exact K9 x q p t u used ⟨F,r,A,d,B,o,⟨w,f,E⟩,⟨s,g,j⟩,a d k,a f D,a g y⟩
theorem LHeld.kl {Y:ZZ}{p:tT}(h:LHeld n ts Y p H)(s:KpL H H'):LHeld n ts Y p H':=λi b=>by obtain⟨us,d,a,c⟩:=h i b;exact⟨us,s.l d,a,λj v e=>(c j v e).kl s⟩
theorem RuleT.kl (h:RuleT a H c ts i)(z:KpL H H'):RuleT a H' c ts i:=by
 obtain⟨r,g,f,pl,w,s,u,us,v,b,k,j,o,d⟩:=h;refine Ic r g f pl w s u us ⟨z _ _ sh sh v,?_,z.l k,z.l j,z.l o,z.tups d⟩;cases e:(ts i).rd.still with
 |none=>rwa[e]at b
 |some q =>rw[e]at b;obtain⟨p,m,n⟩:=b;exact⟨p,m,z.t n⟩
theorem LawT.kl {b f:HC}{wk:tL}{c:tZ}(h:LawT a H n ts b f wk yr c)(z:KpL H H')(q:∀kv,H b=HA (.dK kv)->H' b=HA (.dK kv)):LawT a H' n ts b f wk yr c:=by obtain⟨⟨D,d,o,C,k,⟨g,w,s⟩,⟨m,A,j⟩⟩,y,e,r,p⟩:=h;exact⟨HW D d o ⟨z.t C,z.l k,⟨g,z.l w,z.tups s⟩,⟨m,z.l A,z.tups j⟩⟩,y,e,q _ r,λi B=>by obtain⟨v,u,x⟩:=p i B;exact⟨v,u,x.kl z⟩⟩
theorem AccAt.but {a:HC}{n:Str}{s r:tJ}{w:tW}(h:AccAt H q d a n st s r)(g:H c=HA (.lst w))(k:∀b o,b≠c->H b=HA o->H' b=HA o)(u:d≠c)(v:a≠c):AccAt H' q d a n st s r:=by have f:∀b t,H b=HA (.tup t)->H' b=HA (.tup t):=λb t e=>k b _ (λz=>by rw[z,g]at e;cases e) e;obtain⟨y,⟨i,l,p⟩,⟨j,m,x⟩⟩:=h;exact⟨f _ _ y,⟨i,k _ _ u l,Kt p f⟩,⟨j,k _ _ v m,Kt x f⟩⟩
theorem Ol {c:Int}(hm:m<=26):(Lg c m).Nodup:=by unfold Lg;rw[Ct,Ck,Ba];intro i j b a _ e;rw[Ar]at b a;rw[CI,CI]at e;have:=L0 sZ sZ e;lia
theorem QI {wk:tL}(a:PartsOk wk yr b):LA (II wk yr) (ov b):=λrd _ c s ok e=>by
 cases s with|none=>exact⟨HD,Z⟩|some d=>exact UR (qwc a rd.unit) (qwc a .c) (e d Z)<|X5 ok.u1 _
end
section
variable {names:tG}{T:uE}{rv:Bool}{n:Nat}
def S9 {a:Adr}{H:Hp}{us:tW}(g:∀k<n,TdOk names (T k) k)(u:n<=4)(z:names.length=26)(nd:names.Nodup)(p:∀j<n,∃b,us[j]?=HA (.ref b)/\RuleB a H b (T<|fR rv n j) (KS names (T<|fR rv n j).base)){l:tP}(e:GoodI (LO T rv n) n l)(o:l.length=n):∀i<n,∃j b,j<n/\nm (Jr names rv n) j=(Jy T rv n l i).name/\us[j]?=HA (.ref b)/\RuleT a H b (Jy T rv n l) i:=λi f=>by
 obtain⟨_,d⟩:=Os (rv:=rv) g u z nd e o;have q:l[i]?=HA (l.getD i 0):=by rw[Ak,Ad<|sZ];rfl
 have c:=e.lt _<|Au q;obtain⟨b,t,x,m,h,pl,w,s,y,r,v⟩:=p _ c;refine(HP (l.getD i 0) b ⟨c,by rw[Td c,(d i f).1],t,x,m,h,pl,w,s,y,r,?_⟩);rwa[(d i f).2]
def gg (g:∀k<n,TdOk names (T k) k){l:tP}(j:GoodI (LO T rv n) n l)(ll:l.length=n):∀i<n,(∀b,(Jy T rv n l i).base=HA b->(Jy T rv n l i).opens=HD)/\∀s,(Jy T rv n l i).rd.still=HA s->s.1≠s.2/\s.1∉(Jy T rv n l i).rd.longer.map (·.1)/\s.2∉(Jy T rv n l i).rd.longer.map (·.1):=λi _=>by
 have f:l[i]?=HA (l.getD i 0):=by rw[Ak,Ad<|sZ];rfl
 have d:=j.lt _<|Au f;have h:=g _<|Kf (rv:=rv) d;refine⟨λb e=>?_,h.ap⟩;cases a:(T<|fR rv n<|l.getD i 0).base with|none =>unfold Jy at e;rw[a]at e;cases e|some c=>exact h.o2 c a
end
section
variable {vs N:tG}{c x:Int}{rs:tZ}{ts:uE}{n m i j:Nat}{p:tT}{b a:uC}{J H:Hp}{ac:Ig}
theorem O1 {v:V}(h:vs.length=20):L2.start vs [v]=[HA v,HD,HD,HD,HD,HD,HD,HD,HD,HD,HD,HD,HD,HD,HD,HD,HD,HD,HD,HD]:=by unfold L2.start;rw[h];rfl
theorem TB {first:Int}(f0:0<=first){w:Str}(a:w=Aa "free" \/ w=Aa "open"):LV (first+c % 40,first+c % 40+c / 40 % 6,w):=by
 refine⟨?_,?_,?_,a⟩
 .show 0<=first+c % 40;lia
 .show first+c % 40<=first+c % 40+c / 40 % 6;lia
 .show first+c % 40+c / 40 % 6<first+c % 40+40;lia
def OL (bs:tE)(rs:tZ)(ts:uE)(n:Nat)(p:tT)(due:uC)(m:Nat)(J:Hp):Prop:=LHeld n ts (KB bs rs ts n<|due.take m) p J/\PZ n ts (KB bs rs ts n<|due.take m) ((due.take m).getLastD dA).2.2 m/\(∀i<n,∀st∈KB bs rs ts n (due.take m) i,HZ bs rs ts (KB bs rs ts n<|due.take m) ((due.take m).getLastD dA).2.2 i st)/\eQ n (KB bs rs ts n<|due.take m) ((due.take m).map (·.1))
theorem YA {bs:tE}(h:∀j<n,J (p j)=HA (.lst [])):OL bs rs ts n p b 0 J :=
 ⟨λi a=>⟨[],h i a,Z,λj v e=>by cases e⟩,⟨λi a st h=>absurd h A9,λi a st h=>absurd h A9,λi a=>⟨Al _,λst h=>absurd h A9⟩,AZ _⟩,λi a st h=>absurd h A9,λi a st h=>absurd h A9⟩
theorem qyk {bs:tE}{f:Hp}(h:OL bs rs ts n p a m J)(T:TsOk n ts)(ex:LA bs rs)(i:a[m]?=HA ac)(d:((a.take m).getLastD dA).2.2<=ac.2.2)(e:m<300)(h':LHeld n ts (tk bs rs ts (KB bs rs ts n<|a.take m) ac n).1 p f):OL bs rs ts n p a (m+1) f:=by
 obtain⟨_,b,k,j⟩:=h;have c:a.take (m+1)=a.take m++[ac]:=by rw[B1,i];rfl
 have l:KB bs rs ts n (a.take<|m+1)=(tk bs rs ts (KB bs rs ts n<|a.take m) ac n).1:=by rw[c,pF]
 have g:(a.take<|m+1).getLastD dA=ac:=by rw[c];simp
 unfold OL;rw[l,g];exact⟨h',RV T b ex d e<|Al n,Nd T b ex d e Z k,by rw[c,Aq];exact M7 T b Z j⟩
theorem md7 (x:Int):∃n:Nat,x % 7=(n:Int)/\n<=6:=⟨(x % 7).toNat,sZ,sZ⟩
theorem rN (x:Int):∃n:Nat,x % 3=(n:Int)/\n<=2:=⟨(x % 3).toNat,sZ,sZ⟩
theorem rbz (e:x=(n:Int))(h:n<=1000) : -2 ^ 62<=x/\x<2 ^ 62:=sZ
theorem ez (e:x=(n:Int)):x.toNat=n:=sZ
theorem YU (h:i<2):∃dv:Int,JN [V.int 1,V.int 977] (i:Int)=HA (.int dv)/\0<dv/\dv<1073741824:=by
 rcases (by lia:i=0\/i=1) with rfl|rfl
 .exact⟨1,Z,Ud,Ud⟩
 .exact⟨977,Z,Ud,Ud⟩
theorem V3 (c:Int):∃w:Str,JN [V.str<|Aa "free",V.str<|Aa "open"] (c / 240 % 2)=HA (.str w)/\(w=Aa "free" \/ w=Aa "open"):=by
 rcases (by lia:c / 240 % 2=0\/c / 240 % 2=1) with e|e
 .rw[e];exact⟨_,Z,.inl Z⟩
 .rw[e];exact⟨_,Z,.inr Z⟩
theorem X8 {k:Nat}(h1:1<=k)(h4:k<=4):∃m:Int,JN [V.int 16,.int 16,.int 10,.int 10] ((k:Int)-1)=HA (.int m)/\10<=m/\m<=16:=by
 rcases (by lia:k=1\/k=2\/k=3\/k=4) with e|e|e|e <;>rw[e]
 .exact⟨16,Z,Ud,Ud⟩
 .exact⟨16,Z,Ud,Ud⟩
 .exact⟨10,Z,Ud,Ud⟩
 .exact⟨10,Z,Ud,Ud⟩
theorem QG (L:Int){b:Int}(h1:10<=b)(h2:b<=16):∃a:Nat,(if (if 2<L then L else 2)<b then (if 2<L then L else 2) else b)=(a:Int)/\2<=a/\a<=16 :=
 ⟨(if (if 2<L then L else 2)<b then (if 2<L then L else 2) else b).toNat,by split <;>split <;>lia,by split <;>split <;>lia,by split <;>split <;>lia⟩
theorem V0 {a:Int}(x:Int)(c:0<=a)(h1:a<355):OkY [(a,a+x % 9)]:=⟨(by show 1<=4;decide),λr b=>by rw[Aj.mp b];exact⟨c,(by show a<=a+x % 9;lia),(by show a+x % 9<a+30;lia),(by show a+x % 9<364;lia)⟩⟩
theorem Ym {k:Nat}(h:m<=k)(hk:k<=1000):m<A4:=by rw[Bv];lia
theorem rO (h:j<i+1)(z:j≠i):j<i:=sZ
theorem X7 (nd:(a.map (·.1)).Nodup)(d:a[m]?=HA ac):ac.1∉(a.take m).map (·.1):=λz=>by obtain⟨c,b⟩:=Ac.mp d;rw[<- BM m a,Aq,BS c,AW,b]at nd;exact(Ey.mp nd).2.2 _ z _ Am rfl
theorem QN {b:HC}(c:∀i<n,∀j<n,(ts i).name=(ts j).name->i=j)(d:i<n):JT (Im i ts p) (.inr (ts i).name) (.ref b)=Im (i+1) ts (put p i b):=by
 have f:Ih (Im i ts p) (.inr (ts i).name)=HD:=ZW λw m=>by obtain⟨j,a,e⟩:=AQ.mp m;injection e with e1 _;have a:=AE.mp a;have:=c j sZ i d<|CL.inj e1;lia
 rw[XX _ f];unfold Im;rw[Bs,Aq];refine congr (HR _<|BL λj a=>by rw[Iv<|AD<|AE.mp a]) ?_;show _=[(_,V.ref<|put p i b i)];rw[JB]
def iY (x rl qa tsp:HC)(st:RS)(tv:V)(pu pp pr:HC)(an kd:Str)(d:Int)(a b c:tX):L2.St:=[HA<|.ref x,HA<|.ref rl,HA<|.ref qa,HA<|.ref tsp,HA<|.str<|Js st,HA tv,HA<|.int st.day,HA<|.int st.units,HA<|.ref pu,HA<|.ref pp,HA<|.bl st.over,HA<|.ref pr,HA<|.str an,HA<|.str kd,HA<|.int d,a,b,c]
theorem IP {CX:LQ}{P:AJ}{w:HQ}{K:Ag}{mg:Str->tK}{base:HX}{a:Str}{scope:IS}{f:HC}{b:HE}{A:AO}{outer:List Env}{s:Af}{E:XK}:(OR CX P w K mg base N a scope f b A outer s H E).nox.K=K:=rfl
theorem IE {X:Cx}{b:List HN}{t:TS}{a:L2.Ends}{σ:L2.St}{H:Hp}(p:PSs X b t)(h:let D:=a;t D σ H):∃t,PSs X b t/\t a σ H:=⟨t,p,h⟩
end
section
variable {X:Cx}{x f:Str}{pos pos':Pos}{e a b c:HS}{es:tN}{t:TA}{te ta tb:TE}{r:R2}
def aN (i:Nat)(a:PA X es t)(b:autoParam (X.N[i]?=HA x) uG)(hv:autoParam (Q9 X.env.scope x) uN._auto_1)(hd:autoParam ((x == ("__debug__" : Str))=HH) uI)(hcd:autoParam ((x == ("__classdict__" : Str))=HH) uI):PA X (.Name x pos::es) (L9 (Wm i) t):=qd (pv i b hv hd hcd) a qe
def aL (i:Nat)(a:autoParam (X.N[i]?=HA x) uG)(hv:autoParam (Q9 X.env.scope x) uN._auto_1)(hd:autoParam ((x == ("__debug__" : Str))=HH) uI)(hcd:autoParam ((x == ("__classdict__" : Str))=HH) uI):PA X [.Name x pos] (L9 (Wm i) SR):=qd (pv i a hv hd hcd) qg qe
def fV (i:Nat)(a:autoParam (X.N[i]?=HA x) uG)(hv:autoParam (Q9 X.env.scope x) uN._auto_1)(hd:autoParam ((x == ("__debug__" : Str))=HH) uI)(hcd:autoParam ((x == ("__classdict__" : Str))=HH) uI)(hb:autoParam (attributeBase (.Name x pos) f X.env (eval (.Name x pos) X.env)=eval (.Name x pos) X.env) uG):PE X (.Attribute (.Name x pos) f pos') (SV X.K (Wm i) f):=ZD (pv i a hv hd hcd) hb
def sI (i:Nat)(b:X.N.Nodup)(a:PE X e te)(c:autoParam (X.N[i]?=HA x) uG)(hx:autoParam (VD X.env.scope x) uR._auto_1)(hs:autoParam (swapsWith e (HA<|.Name x pos') pos.line X.env=pure HH) uG)(hf:autoParam (X.fn x=HG\/X.env.scope.names.lookup x=HA .local) uK):PS X (.Assign [.Name x pos'] e pos) (VS te<|Ja i):=qu b c hx a hs hf
def gI (i:Nat)(a:X.N.Nodup)(b:autoParam (X.N[i]?=HA x) uG)(hx:autoParam (VD X.env.scope x) uR._auto_1)(hf:autoParam (X.fn x=HG\/X.env.scope.names.lookup x=HA .local) uK):PG X (.Name x pos) (Ja i):=Lr a b hx hf
def pX (c:SB X r)(d:PE X a ta)(f:PE X b tb)(e:qvd b:=by exact λ_ _=>rfl):PE X (.Subscript a b pos) (VF r ta tb):=zp c d f e
def pC {op:CmpOp}(d:JH X (compareOp op) r)(c:PE X a ta)(e:PE X b tb)(h:autoParam (op ≠ .In) uI)(h2:autoParam (op ≠ .NotIn) uI):PT X (.Compare a [op] [b] pos) (jF<|VF r ta tb):=qt d c e<|LD _ h h2
def rT (a:PE X e te):PSs X [.Return (HA e) pos] (WB te):=qj<|qo a
def pD {k m:Nat}{f:HC}{fd:BC}{ps:tG}{sp:Sp}{st:HN}{p:Pos}(D:DefAt X.K X.mg x st ps f fd)(F:FnOk X.prog X.w X.K X.mg X.base Hw k f fd ps sp)(a:Room m X.A)(b:PA X (e::es) t)(c:autoParam (k<=m) uI)(hg:autoParam (Gl X x) uG)(hdb:autoParam ((x == ("__debug__" : Str))=HH) uI)(he:autoParam (starEach (e::es) X.env=(HH,eval e X.env)::starEach es X.env) uG)(hpl:autoParam ((backTo pos<|starEach es X.env).any (·.1)=HH) uG):PE X (.Call (.Name x p) (e::es) [] pos) (MB sp [] E0 t):=rJ D F (a.mono c) b hg hdb he hpl
end
def IA {K:Ag}{H:Hp}{a C d:HC}{fs:tY}{v:V}{f:Str}{b:tG}{P:V->Prop}(h:H a=HA (.ins C d fs))(c:Cls K C)(n:Kp K C b=HG)(l:fs.lookup f=HA v)(q:P v)(m:autoParam (f∈b) uI):∃a' C' dx' fs' v',V.ref a=.ref a'/\H a'=HA (.ins C' dx' fs')/\Cls K C'/\NoAttr K C' f/\fs'.lookup f=HA v'/\P v':=flv h c (qp n m) l q
open PySem.Spec PyProof.Rows in
theorem _root_.L2.Fun.ko {P:AJ}{w:HQ}{K:Ag}{mg:Str->tK}{base:HX}{x a:Str}{st:HN}{f:HC}{fd:BC}{N ps:tG}{k:Nat}{sp:Sp}(F:Fun K x a st f fd)(S:FnScope N ps (Iy st))
  (d:∀{b:HE}{A:AO}{outer:List Env}{s:Af}(H:Hp)(vs:tW)(Q:VK)(E:XK),Room k (A.deeper<|envOfC a (Iy st) s.heap.objs.size f b)->sp vs H Q E ->
   ∃t,PSs (OR Hw P w K mg base N a (Iy st) f b A outer s H E).nox (Jv st) t/\t {nx:=λ_ H'=>Q .non H',rt:=Q} (start N vs) H)
  (len:∀vs H Q E,sp vs H Q E->vs.length=ps.length:=by intro _ _ _ _ h;repeat (first | (obtain⟨rfl,_⟩:=h;rfl)|obtain⟨_,h⟩:=h)):FnOk P w K mg base Hw (k+1) f fd ps sp :=
 F.ok S len λ_ _ _ _ H vs Q E c h=>d H vs Q E c h
section
variable {P:AJ}{w:HQ}{K:Ag}{mg:Str->tK}{base:HX}{a:Adr}
set_option maxHeartbeats 4000000
def rC (T:Txt K mg a):FnOk P w K mg base Hw 1 a.U a.A9 (ap cP) (O9 a):=by
 refine T.gH.fn.ko qns λH _ Q E _ h=>?_;obtain⟨i,x,_,_,rfl,d,k⟩:=h;refine IE (qj<|Jb (pv 0) (pv 1) Z) ?_;intro _;dsimp only[IP];cases i with|a=>exact(HY<|Hv _ _ _ _ ⟨Z,d,T.gB,qp T.lC Ud,Ud,k⟩)|b=>exact(HY<|Hv _ _ _ _ ⟨Z,d,T.gD,qp T.hM Ud,Ud,k⟩)|c=>exact HY<|Hv _ _ _ _ ⟨Z,d,T.kO,qp T.kY Ud,Ud,k⟩
def Mz (T:Txt K mg a):FnOk P w K mg base Hw 3 a.AL a.BA (ap ZP) (Sx a):=by
 refine T.fU.fn.ko MY λH _ Q E e h=>?_;obtain⟨i,_,rfl,k⟩:=h;refine IE (qf (zb (pC JO (pv 0) zg) (rT<|Rm T.pA (rC T) (e.mono Ud) Z T.mU T.gH.bd .nil IT<|aL 1) IG)
  (qf (zb (pC JO (pv 0) zg) (rT<|Rm T.mN (rC T) (e.mono Ud) Z T.mB T.gH.bd .nil IT<|aL 1) IG)
  (rT<|Rm T.mS (rC T) (e.mono Ud) Z T.mT T.gH.bd .nil IT<|aL 1))) ?_
 intro _;cases i with|a=>exact(HL ⟨Z,Hx<|JU Uk<|HL ⟨Z,Hx<|JU Uk<|HL<|λx d nx nd f=>Hv .a x d _ ⟨Z,qk,Z,k x d _ (oY nx nd) nx qk⟩⟩⟩)|b=>exact(HL ⟨Z,Hx<|Je Z<|HL<|λx d nx nd f=>Hv .b x d _ ⟨Z,qk,Z,k x d _ (oY nx nd) nx qk⟩⟩)|c=>exact HL ⟨Z,Hx<|JU Uk<|HL ⟨Z,Hx<|Je Z<|HL<|λx d nx nd f=>Hv .c x d _ ⟨Z,qk,Z,k x d _ (oY nx nd) nx qk⟩⟩⟩
def Z6 (T:Txt K mg a):FnOk P w K mg base Hw 1 a.AM a.BB (ap Zs) (Yn λ_=>.bl HG):=by refine T.gE.fn.ko qxx λH _ Q E _ h=>?_;obtain⟨y,rfl,k⟩:=h;refine IE (rT<|Lc (zd Ki (by rfl) T.kE KR<|aN 0<|qd (KD (v:=.ty "int") Z T.gL Ze Z) qg qe)<|Lp<|ZE<|zd Ki (by rfl) T.kE KR<|aN 0<|qd (KD (v:=.ty "bool") Z T.bS qB Z) qg qe) ?_;intro _;dsimp only[IP];exact HL<|Hv _ _ _ _ ⟨Z,.int _,qQ,Hx<|Ii<|HL<|Hv _ _ _ _ ⟨Z,.int _,qV,IB Z k⟩⟩
def qjd (T:Txt K mg a):FnOk P w K mg base Hw 2 a.AN a.BD (ap cV) WR:=by
 refine T.bC.fn.ko qo1 λH _ Q E b h=>?_;obtain⟨f,l,m,rfl,e,d,c,k⟩:=h;refine IE (qf (zb (Kx<|PW.pt<|KC (zf<|pD T.gE (Z6 T) b<|aL 0)<|KW<|zf<|pD T.gE (Z6 T) b<|aL 1) (rT JV) IG)
  (rT<|qxm Kg Kg Kl qi (pv 0) (pv 1)<|qv IL (pv 0)<|pv 2)) ?_
 intro _;refine HL<|IB Z<|IB Z<|Ii<|HL<|IB Z<|IB Z<|Ia ?_;refine HL<|HV<|Hx<|Je e<|HL<|HV<|Hx<|Je d<|HY<|HV<|HV ?_;show Q (.bl<|decide (l<f+m)) H;rw[HJ c];exact k
def jU (T:Txt K mg a):FnOk P w K mg base Hw 1 a.AO a.BE (ap Yz) O6:=by
 refine T.gQ.fn.ko Vd λH _ Q E _ h=>?_;obtain⟨p,us,_,es,d,rfl,O,J,he,hl,S,k⟩:=h;refine IE (qf (sI 2 Vd.nd qi)
  (qf (sI 3 Vd.nd<|zd Ka (by rfl) T.kG KY<|aL 0)
  (qf (Ro Av (pC Kl (pv 2)<|pv 3) (qf (sI 4 Vd.nd<|qv JL (qv IL (pv 2)<|pv 3) qi)
  (qj<|zb (pC Kl (pX zq (pX zr (pv 0)<|pv 4) qi)<|pv 1) (qj<|sI 2 Vd.nd<|qv IL (pv 4) qi)<|qj<|sI 3 Vd.nd<|pv 4)))
  (rT<|pv 2)))) ?_
 intro _;dsimp only[IP];have N:=J.length.trans hl;refine HL<|HP _ _ ⟨Z,.inl ⟨_,SqL.of O,Z⟩,?_⟩;refine⟨λm σ' H'=>H'=H/\∃(lo b:Int)(v:tX),σ'=[HA<|.ref p,HA<|.int d,HA<|.int lo,HA<|.int b,v]/\m=(b-lo).toNat/\0<=lo/\lo<=b/\b<=es.length/\(∀(i:Nat)(e:Int),es[i]?=HA e->(i:Int)<lo->e<d)/\(∀(i:Nat)(e:Int),es[i]?=HA e->b<=(i:Int)->¬e<d), 
  ⟨_,Z,0,(us.length:Int),HD,Z,Z,AZ _,D8 _,Int.le_of_eq<|HR (λn:Nat=>(n:Int)) N,λi e _ z=>absurd z<|B6.mpr<|D8 i,λi e z c=>absurd (Dq.mp c)<|Nat.not_le.mpr<|N ▸ (Ac.mp z).1⟩,?_⟩
 intro m σ' H' w';obtain⟨rfl,lo,b,v,rfl,rfl,D,h1,B,R,M⟩:=w';refine HY<|HV<|IB Z ?_;refine IK (λc=>?_)<|λc=>?_
 .have u:lo<b:=HK c;refine⟨λσ2 I=>I=H'/\∃(l f:Int)(v:tX),σ2=[HA<|.ref p,HA<|.int d,HA<|.int l,HA<|.int f,v]/\f-l<b-lo/\0<=l/\l<=f/\f<=es.length/\(∀(i:Nat)(e:Int),es[i]?=HA e->(i:Int)<l->e<d)/\(∀(i:Nat)(e:Int),es[i]?=HA e->f<=(i:Int)->¬e<d),?_,?_⟩
  .intro σ2 I w';obtain⟨rfl,l,f,W,rfl,g0,g1,g2,g3,g4,g5⟩:=w';exact⟨_,V7 g0<|Int.sub_pos.mpr u,Z,l,f,W,Z,Z,g1,g2,g3,g4,g5⟩
  .refine(HY<|HV<|IJ ⟨Ud,Ud⟩ ?_);obtain⟨j,L,F,C⟩:=mid D u;have o:j<es.length:=DO.mp<|Bd C B;have A:es[j]?=HA (es[j]'o):=Ad _;obtain⟨t,X,Y⟩:=he j _ A;obtain⟨a,a1,a2⟩:=J.get X;dsimp only[];generalize (lo+b) / 2=mid at L |-;subst L;have G:∀{i:Nat}{e:Int},es[i]?=HA e->(i<j->e<es[j]'o)/\(j<i->es[j]'o<e):=λ{i e} z=>by obtain⟨_,U⟩:=Ac.mp z;subst U;exact⟨λq=>Ba.mp S i j _ _ q,λq=>Ba.mp S j i _ _ q⟩
   refine HY<|Ib O ((Jz a1))<|IH a2 Y<|HL<|HV<|IB Z ?_;refine IK (λe=>?_)<|λe=>?_
   .have r:=HK e;refine HL<|HV ⟨Z,(j:Int)+1,b,_,Z,Int.sub_lt_sub_left (Int.lt_add_one_of_le F) b,D8<|j+1,C,B,λi x g q=>?_,M⟩;by_cases z:i=j
    .subst z;rw[A]at g;cases g;exact r
    .exact CO ((G g).1<|Nat.lt_of_le_of_ne (Dq.mp<|Ea q) z) r
   .have r:¬es[j]'o<d:=λz=>e<|HJ z;refine HL ⟨Z,lo,(j:Int),_,Z,Int.sub_lt_sub_right C lo,D,F,Dq.mpr<|Bt o,R,λi x g q=>?_⟩;by_cases z:i=j
    .subst z;rw[A]at g;cases g;exact r
    .exact λy=>r<|CO ((G g).2<|Nat.lt_of_le_of_ne (Dq.mp q)<|By z) y
 .have u:¬lo<b:=λz=>c<|HJ z;have s:(lo.toNat:Int)=lo:=C5 D;have e:(IR es d:Nat)=lo.toNat:=jT (Dq.mp<|Bh (Int.le_of_eq s)<|Bh h1 B) (λi x g q=>R i x g<|Bd (DO.mpr q)<|Int.le_of_eq s) λi x g q=>M i x g<|Bh (B6.mp u)<|Bh (Int.le_of_eq s.symm)<|Dq.mpr q;refine IB Z ?_;show Q (.int lo) H';rw[<- s,<- e];exact k
def M0 (T:Txt K mg a):FnOk P w K mg base Hw 1 a.AP a.BF (ap ZO) Sy:=by
 refine T.m4.fn.ko Xb λH _ Q E _ h=>?_;obtain⟨W,_,g,p,rs,rfl,inj,sc,⟨us,S,N⟩,Y,k⟩:=h;refine IE (qf (sI 1 Xb.nd<|zh qg)
  (qf (JD Av Z (Jk<|pv 0) (Kw Z<|Ip (gI 2 Xb.nd)<|Ip (gI 3 Xb.nd)<|Ip (gI 4 Xb.nd) K0)<|qj<|zb (PW.pt<|KC (qy8 (pv 1)<|λ_=>rfl)<|KC (pC JO (pX zq (pX zr (pv 1)<|KN KQ qi) qi)<|pv 4)<|KW<|pC JO (qv IL (pX zq (pX zr (pv 1)<|KN KQ qi) qi) qi)<|pv 2) (qj<|XA (zj<|qd (pX zq (pX zr (pv 1)<|KN KQ qi) qi) (aN 3<|aL 4) zn)<|qy2 (pv 1) (KN KQ qi) qrr)<|qj<|qz<|Jo A0 A5 A6 KF (pv 1)<|qd (zj<|aN 2<|aN 3<|aL 4) qg zo)
  (rT<|pv 1))) ?_
 intro _;dsimp only[IP];refine⟨JZ,λq J=>?_⟩;have lu:=AtG.len N;refine(IB Z ⟨_,Z,⟨_,SqL.of<|qx J _ _ S⟩,KE (K:=K) (a:=p) (xs:=us) (λi σ H'=>Same H H'/\∃(q:HC)(F L I:tX),σ=[HA<|.ref p,HA<|.ref q,F,L,I]/\H q=HD/\AtG g H' q (jn<|rs.take i))
  ⟨qx J,q,HD,HD,HD,Z,J,[],qk,.nil⟩ (λi σ H' _ h=>SqL.of<|h.1 _ _ S) ?_ ?_⟩)
 .intro i x σ H' hx w';obtain⟨m,v,F,L,I,rfl,l,y,u,d⟩:=w';obtain⟨a,t,rfl,h1,X⟩:=N.get' hx;obtain⟨r,h3,rfl⟩:=NC h1;have M:y.length<=1000:=Az (BN<|AtG.len d)<|Az (NW<|rs.take i)<|Az (Ec _ _) Y;refine HP _ _ ⟨Z,SqT.of<|m _ _ X,Z,_,_,Z,_,_,Z,_,_,Z,Z,?_⟩;have js:rs.take (i+1)=rs.take i++[r]:=Mi h3;have n:=QP (rs.take i) r;rw[<- js]at n;apply use (p:=Kc (jn<|rs.take i) r=jn (rs.take i)++[r])
  .intro s;rcases Bm (jn<|rs.take i) with e|⟨ts,t,e⟩
   .have G:y=[]:=BW (by rw[AtG.len d,e];rfl);refine(IB Z ⟨HH,.inl ⟨_,SqL.of u,by rw[G];rfl⟩,Ia<|Ia ?_⟩);exact s (by rw[e];rfl)
   .rw[Bo]at e;rw[e]at d;obtain⟨O,b,G,hb⟩:∃(O:tW)(b:HC),y=O++[.ref b]/\H' b=HA (.tup<|PY g t):=by have C:=AtG.len d;rw[Ae,AG]at C;obtain⟨b,R,U⟩:=AtG.row d (i:=ts.length) (r:=t) (by simp);refine HP (y.take ts.length) b ⟨?_,U⟩;rw[<- Mi R,DN<|BN C]
    have c:=u;rw[G]at c d;refine(IB Z ⟨HG,.inl ⟨_,SqL.of c,by simp⟩,Ii<|IB Z<|IB Z<|Ib c (T1 _ _)<|IH hb Z<|IB Z ⟨sc _ _,IB Z ?_⟩⟩);by_cases B:t.2.2=r.2.2
    .refine Je (HR g B)<|IB Z<|IB Z<|Ib c (T1 _ _)<|IH hb Z<|HV<|IB Z ⟨Z,IB Z ?_⟩;by_cases A:t.2.1+1=r.1
     .refine Je (HR V.int A)<|IB Z<|IB Z<|Ib c (T1 _ _)<|IH hb Z<|IB Z<|IB Z ⟨Kk _ _ _,λq2 f=>IB Z<|IB Z<|Hv _ _ _ _ ⟨Z,Z,qx f _ _ c,jY _ _,?_⟩⟩;have j:=qx (o:=.tup [V.int t.1,V.int r.2.1,g r.2.2]) f;rw[MU];refine⟨JP (m.trans j) l,v,_,_,_,Z,l,_,qk,?_⟩;rw[n,e,Tw,HI ⟨B,A⟩,Aq];rw[Aq]at d;exact((d.same j).setLast<|qk (o:=.tup<|PY g (t.1,r.2.1,r.2.2))).upd<|j _ _ c
     .refine JU (λz=>A<|V.int.inj z) ?_;exact s (by rw[e,Tw,HF<|λz=>A z.2])
    .refine JU (λz=>B<|inj _ _ z)<|Ia ?_;exact s (by rw[e,Tw,HF<|λz=>B z.1])
  .intro ej;refine IB Z ⟨.inl ⟨Z,_,SqL.of u⟩,IB Z<|IB Z<|IB Z ⟨Kk _ _ _,λq2 f=>HW _ _ _ ⟨Z,Z,qx f _ _ u,KI<|Az M Ud,?_⟩⟩⟩;have j:=qx (o:=.tup [V.int r.1,V.int r.2.1,g r.2.2]) f;refine⟨JP (m.trans j) l,v,_,_,_,Z,l,_,qk,?_⟩;rw[n,ej,Aq];exact((d.same j).snoc<|qk (o:=.tup<|PY g r)).upd<|j _ _ u
 .intro σ H' w';obtain⟨m,v,F,L,I,rfl,l,D⟩:=w';rw[lu,Bc]at D;exact IB Z<|k v H' l m D
def quw (T:Txt K mg a):FnOk P w K mg base Hw 2 a.AQ a.BG (ap Z4) Su:=by
 refine T.dI.fn.ko Xo λH _ Q E hr h=>?_;obtain⟨p,rs,f,l,j,rfl,⟨us,c,A⟩,Y,_,hl,k⟩:=h;refine IE (qf (sI 4 Xo.nd<|pD T.gQ (jU T) hr<|aN 0<|aL 1)
  (qf (sI 5 Xo.nd<|pD T.gQ (jU T) hr<|aN 0<|qd (qv IL (pv 2) qi) qg zm)
  (qf (sI 6 Xo.nd<|Xa XM (pv 0) XI<|Vf<|pv 4)
  (qf (zb (PW.pt<|KC (pC Kl (pv 4)<|zd Ka (by rfl) T.kG KY<|aL 0)<|KW<|pC Kl (pX zq (pX zr (pv 0)<|pv 4) qi)<|pv 1) (qj<|qz<|Jo A0 A5 A6 KF (pv 6)<|qd (zj<|qd (pX zq (pX zr (pv 0)<|pv 4) qi) (qd (qv Jq (pv 1) qi) (qd (pX zq (pX zr (pv 0)<|pv 4) qi) qg zn) zm) zn) qg zo) IG)
  (qf (qz<|Jo A0 A5 A6 KF (pv 6)<|qd (zj<|aN 1<|aN 2<|aL 3) qg zo)
  (qf (zb (PW.pt<|KC (pC Kl (pv 5)<|zd Ka (by rfl) T.kG KY<|aL 0)<|KW<|pC Kg (pX zq (pX zr (pv 0)<|pv 5) qi)<|pv 2) (qf (qz<|Jo A0 A5 A6 KF (pv 6)<|qd (zj<|qd (qv IL (pv 2) qi) (qd (pX zq (pX zr (pv 0)<|pv 5) qi) (qd (pX zq (pX zr (pv 0)<|pv 5) qi) qg zn) zn) zm) qg zo)
  (qj<|W7 (i:=5) Xo.nd Z (C6 Z) qi jP)) IG)
  (rT<|qv Lo (pv 6)<|Xa XM (pv 0) (Vf<|pv 5) XI))))))) ?_
 intro _;dsimp only[IP];have u:=At.len A;have up:=qvi Y;have el:(rs.map Jx).length=(ends rs).length:=by rw[Ab,Ab]
 refine HY<|J0 _ _ _ _ _ ⟨Z,c,A,λi e h=>oM h,el,up,?_⟩;refine HY<|HV<|J0 _ _ _ _ _ ⟨Z,c,A,λi e h=>oM h,el,up,?_⟩;have hb:=Y0 (ends rs) f;rw[Ab]at hb;refine HY ⟨_,Z,_,_,Z,SqL.of c,λq hq=>?_⟩;rw[qsl us (IR (ends rs) f)<|u ▸ hb];have b:=qx (o:=.lst<|us.take<|IR (ends rs) f) hq;have J:=qE f Y;have v:(us.take<|IR (ends rs) f).length<=1000:=Az (Ec _ _)<|u ▸ hl;have U:Tups (upd H q<|.lst<|us.take<|IR (ends rs) f) (us.take<|IR (ends rs) f) ((rs.take<|IR (ends rs) f).map Jx):=by rw[List.map_take];exact(A.same b).take _
 have B:=qk (H:=H) (a:=q) (o:=.lst<|us.take<|IR (ends rs) f);generalize upd H q (.lst<|us.take<|IR (ends rs) f)=H0 at b U B |-;generalize us.take (IR (ends rs) f)=u0 at U B v;apply eU (p:=λ(n:Hp)=>Same H n/\∃g:tW,n q=HA (.lst g)/\Tups n g ((left rs f).map Jx)/\g.length<=1200)
 .intro C;refine HY<|HP _ _ ⟨Z,.inl ⟨_,SqL.of<|b _ _ c,Z⟩,HV<|IB Z ?_⟩;by_cases cb:IR (ends rs) f<rs.length
  .obtain⟨r1,hr1⟩:∃r1,rs[IR (ends rs) f]?=HA r1:=⟨_,Ad cb⟩;obtain⟨_,S,W⟩:=At.row A hr1;rw[hr1]at J;refine Je (US u cb)<|HY<|Ib (b _ _ c) (Jz S)<|IH (b _ _ W) Z<|HL<|HV<|IB Z ?_;by_cases cf:r1.1<f
   .refine Je cf<|HL ⟨.inl ⟨Z,_,SqL.of B⟩,HY<|Ib (b _ _ c) (Jz S)<|IH (b _ _ W) Z<|HL<|HV<|HY<|Ib (b _ _ c) (Jz S)<|IH (b _ _ W) Z ⟨Kk _ _ _,λs ae=>HW _ _ _ ⟨Z,Z,qx ae _ _ B,KI<|Az v Ud,?_⟩⟩⟩;have z1:=qx (o:=.tup [V.int r1.1,V.int<|f-1,V.str r1.2.2]) ae;have s1:Same H (upd (upd H0 s<|.tup [V.int r1.1,V.int<|f-1,V.str r1.2.2]) q<|.lst<|u0++[.ref s]):=JP (b.trans z1) hq;have G:=qk (H:=upd H0 s<|.tup [V.int r1.1,V.int<|f-1,V.str r1.2.2]) (a:=q) (o:=.lst<|u0++[.ref s]);have t1:Tups (upd (upd H0 s<|.tup [V.int r1.1,V.int<|f-1,V.str r1.2.2]) q<|.lst<|u0++[.ref s]) (u0++[.ref s]) ((left rs f).map Jx):=by rw[show left rs f=rs.take (IR (ends rs) f)++[((r1.1,f-1,r1.2.2):Rw)] by rw[J];exact HR _<|HI cf,Aq];exact((U.same z1).snoc<|qk (o:=.tup<|Jx (r1.1,f-1,r1.2.2))).upd<|z1 _ _ B
    generalize upd (upd H0 s<|.tup [V.int r1.1,V.int<|f-1,V.str r1.2.2]) q (.lst<|u0++[.ref s])=n at s1 G t1 |-;exact C n ⟨s1,_,G,t1,sn1 v⟩
   .refine JU cf ?_;exact C H0 ⟨b,_,B,by rw[show left rs f=rs.take (IR (ends rs) f) by rw[J];show _++(if r1.1<f then _ else [])=_;rw[HF cf,Br]];exact U,Az v Ud⟩
  .rw[AH<|DU.mp cb]at J;refine JU (λz=>cb<|DO.mp<|u ▸ z)<|Ia ?_;exact C H0 ⟨b,_,B,by rw[show left rs f=rs.take (IR (ends rs) f) by rw[J];exact Br _];exact U,Az v Ud⟩
 .intro n w';obtain⟨s1,g,G,t1,l1⟩:=w';refine HL ⟨.inl ⟨Z,_,SqL.of G⟩,Jw ⟨Kk _ _ _,λm af=>HW _ _ _ ⟨Z,Z,qx af _ _ G,KI<|Az l1 Ud,?_⟩⟩⟩;have z2:=qx (o:=.tup [V.int f,V.int l,V.str j]) af;have d:Same H (upd (upd n m<|.tup [V.int f,V.int l,V.str j]) q<|.lst<|g++[.ref m]):=JP (s1.trans z2) hq;have x:=qk (H:=upd n m<|.tup [V.int f,V.int l,V.str j]) (a:=q) (o:=.lst<|g++[.ref m]);have L:Tups (upd (upd n m<|.tup [V.int f,V.int l,V.str j]) q<|.lst<|g++[.ref m]) (g++[.ref m]) ((left rs f++[((f,l,j):Rw)]).map Jx):=by rw[Aq];exact((t1.same z2).snoc<|qk (o:=.tup<|Jx (f,l,j))).upd<|z2 _ _ G
  generalize upd (upd n m<|.tup [V.int f,V.int l,V.str j]) q (.lst<|g++[.ref m])=H2 at d x L |-;have O:(g++[V.ref m]).length<=1500:=iX l1;generalize g++[V.ref m]=u2 at x L O |-;apply eX (p:=λ(I:Hp)(N:Nat)=>Same H I/\∃(R:tW)(X:tZ),I q=HA (.lst R)/\Tups I R (X.map Jx)/\R.length<=2000/\over rs f l j=X++rs.drop N/\N<=rs.length)
  .intro y;refine HY<|HP _ _ ⟨Z,.inl ⟨_,SqL.of<|d _ _ c,Z⟩,HV<|IB Z ?_⟩;have t:=qL l Y;by_cases F:IR (ends rs) (l+1)<rs.length
   .obtain⟨r2,hr2⟩:∃r2,rs[IR (ends rs)<|l+1]?=HA r2:=⟨_,Ad F⟩;obtain⟨_,M,ad⟩:=At.row A hr2;rw[hr2]at t;dsimp only at t;refine Je (US u F)<|HY<|Ib (d _ _ c) (Jz M)<|IH (d _ _ ad) Z<|HL<|HV<|IB Z ?_;by_cases cl:r2.1<=l
    .refine Je cl<|HL ⟨.inl ⟨Z,_,SqL.of x⟩,HL<|HV<|HY<|Ib (d _ _ c) (Jz M)<|IH (d _ _ ad) Z<|HY<|Ib (d _ _ c) (Jz M)<|IH (d _ _ ad) Z ⟨Kk _ _ _,λr ai=>HW _ _ _ ⟨Z,Z,qx ai _ _ x,KI<|Az O Ud,?_⟩⟩⟩;have z3:=qx (o:=.tup [V.int<|l+1,V.int r2.2.1,V.str r2.2.2]) ai;have D:Same H (upd (upd H2 r<|.tup [V.int<|l+1,V.int r2.2.1,V.str r2.2.2]) q<|.lst<|u2++[.ref r]):=JP (d.trans z3) hq;have h3:=qk (H:=upd H2 r<|.tup [V.int<|l+1,V.int r2.2.1,V.str r2.2.2]) (a:=q) (o:=.lst<|u2++[.ref r]);have t3:Tups (upd (upd H2 r<|.tup [V.int<|l+1,V.int r2.2.1,V.str r2.2.2]) q<|.lst<|u2++[.ref r]) (u2++[.ref r]) (((left rs f++[(f,l,j)])++[((l+1,r2.2.1,r2.2.2):Rw)]).map Jx):=by rw[Aq];exact((L.same z3).snoc<|qk (o:=.tup<|Jx (l+1,r2.2.1,r2.2.2))).upd<|z3 _ _ x
     generalize upd (upd H2 r<|.tup [V.int<|l+1,V.int r2.2.1,V.str r2.2.2]) q (.lst<|u2++[.ref r])=I at D h3 t3 |-;rw[HI cl]at t;have ov:over rs f l j=((left rs f++[(f,l,j)])++[((l+1,r2.2.1,r2.2.2):Rw)])++rs.drop (IR (ends rs) (l+1)+1):=by unfold over;rw[t];simp
     have hN:IR (ends rs) (l+1)+1<=rs.length:=F;refine HL<|HV ?_;dsimp only[];rw[show ((IR (ends rs) (l+1):Nat):Int)+1=((IR (ends rs) (l+1)+1:Nat):Int) from Z];generalize IR (ends rs) (l+1)+1=N at ov hN |-;exact y I N ⟨D,_,_,h3,t3,sn2 O,ov,hN⟩
    .rw[HF cl]at t;refine JU cl ?_;exact y H2 (IR (ends rs)<|l+1) ⟨d,_,_,x,L,Az O Ud,by unfold over;rw[t];simp,Bt F⟩
   .rw[AH<|DU.mp F]at t;dsimp only at t;refine JU (λz=>F<|DO.mp<|u ▸ z)<|Ia ?_;have ag:=Y0 (ends rs)<|l+1;rw[Ab]at ag;exact y H2 (IR (ends rs)<|l+1) ⟨d,_,_,x,L,Az O Ud,by unfold over;rw[t,List.drop_of_length_le<|DU.mp F];simp,ag⟩
  .intro I N w';obtain⟨D,R,X,h3,t3,l3,ov,hN⟩:=w';refine Jw ⟨_,Z,_,_,Z,SqL.of<|D _ _ c,λ_ aj=>?_⟩;dsimp only[];rw[N5 us N<|u ▸ hN];have s5:=qx (o:=.lst<|us.drop N) aj;refine(Hv _ _ _ _ ⟨Z,Z,s5 _ _ h3,qk,JJ (by rw[Cg];exact Az (Nat.add_le_add l3<|Az (Nat.sub_le _ _)<|u ▸ hl) Ud),λq6 ah=>?_⟩);have s6:=qx (o:=.lst<|R++us.drop N) ah;refine k q6 _ (D.free<|s5.free ah) ((D.trans s5).trans s6) ⟨_,qk,?_⟩;have tt:=(t3.same<|s5.trans s6).app<|(A.same<|(D.trans s5).trans s6).drop N;rw[<- List.map_drop,<- Aq]at tt;rwa[ov]
def qyl (T:Txt K mg a):FnOk P w K mg base Hw 3 a.AR a.BH (ap Zr) iK:=by
 refine T.lK.fn.ko Vr λH _ Q E f h=>?_;obtain⟨p,rs,rfl,⟨us,y,C⟩,ok,v,k⟩:=h;refine IE (qf (sI 1 Vr.nd<|zh qg)
  (qf (JD Av Z (Jk<|pv 0) (Kw Z<|Ip (gI 2 Vr.nd)<|Ip (gI 3 Vr.nd)<|Ip (gI 4 Vr.nd) K0)<|qj<|sI 1 Vr.nd<|pD T.dI (quw T) f<|aN 1<|aN 2<|aN 3<|aL 4)
  (rT<|pD T.m4 (M0 T) f<|aL 1))) ?_
 intro _;dsimp only[IP];refine⟨JZ,λq s=>?_⟩;have J:=At.len C;refine(HL ⟨_,Z,⟨_,SqL.of<|qx s _ _ y⟩,KE (K:=K) (a:=p) (xs:=us) (λi σ H'=>Same H H'/\∃(q:HC)(j u n:tX),σ=[HA<|.ref p,HA<|.ref q,j,u,n]/\H q=HD/\At H' q (NP<|rs.take i))
  ⟨qx s,q,HD,HD,HD,Z,s,[],qk,.nil⟩ (λi σ H' _ h=>SqL.of<|h.1 _ _ y) ?_ ?_⟩)
 .intro i x σ H' G w';obtain⟨d,F,j,u,n,rfl,I,c⟩:=w';obtain⟨a,t,rfl,M,D⟩:=C.get' G;obtain⟨r,A,rfl⟩:=XH M;have g:=NM ok i;have L:=(NO g).1;have b:=jZ g;have f:=ok r<|Au A;refine HP _ _ ⟨Z,SqT.of<|d _ _ D,Z,_,_,Z,_,_,Z,_,_,Z,Z,?_⟩;refine UJ<|J0 _ _ _ _ _ ⟨Z,c,L,f,Az b<|Az (Ei 3<|Az (Ec _ _) v) Ud,λo B l m e=>?_⟩;refine⟨d.trans m,o,_,_,_,Z,d.free l,?_⟩;rwa[Mi A,NN]
 .intro σ H' w';obtain⟨d,F,j,u,n,rfl,I,c⟩:=w';rw[J,Bc]at c;have b:=jZ ok;exact HL ⟨_,_,V.str,_,_,Z,λ_ _ z=>V.str.inj z,λ_ _=>rfl,c,Az b<|Az (Ei 3 v) Ud,λo B l m e=>k o B (d.free l) (d.trans m) e⟩
def qf9 (T:Txt K mg a):FnOk P w K mg base Hw 1 a.P a.Z (ap eF) (Rf λu=>.int u):=by refine T.gS.fn.ko qki λH _ Q E _ h=>?_;obtain⟨x,u,rfl,k⟩:=h;refine IE (rT<|pv 1) ?_;intro _;exact HL k
def qoi (T:Txt K mg a):FnOk P w K mg base Hw 1 a.V a.AI (ap cO) (Rf λu=>.int<|7*u):=by refine T.l9.fn.ko qnt λH _ Q E _ h=>?_;obtain⟨x,u,rfl,k⟩:=h;refine IE (rT<|qv Jc (LG (v:=.int 7) Z T.pE.choose_spec ⟨_,Z⟩)<|pv 1) ?_;intro _;exact HL<|HV ⟨.inl ⟨Ud,Ud⟩,k⟩
def qhn (T:Txt K mg a):FnOk P w K mg base Hw 1 a.Q a.b (ap cY) (OX λf m=>.int<|f+m-1):=by refine T.gX.fn.ko qmj λH _ Q E _ h=>?_;obtain⟨x,u,v,rfl,k⟩:=h;refine IE (rT<|qv Jq (qv IL (pv 1)<|pv 2) qi) ?_;intro _;exact HY<|HV<|HV k
def qk0 (T:Txt K mg a):FnOk P w K mg base Hw 1 a.AS a.BI (ap aX) (Yn λy=>.int<|(3*y+14) / 17):=by refine T.bK.fn.ko qqu λH _ Q E _ h=>?_;obtain⟨y,rfl,k⟩:=h;refine IE (rT<|qv JL (qv IL (qv Jc qi<|pv 0) qi) qi) ?_;intro _;exact HL<|IJ (QE Ud Ud)<|HV<|IJ ⟨Ud,Ud⟩ k
def eA (T:Txt K mg a):FnOk P w K mg base Hw 2 a.d a.BJ (ap dF) (WT a):=by
 refine T.gA.fn.ko qex λH _ Q E f h=>?_;obtain⟨x,bs,y,rfl,g,k⟩:=h;refine IE (qf (sI 2 qex.nd<|qv Jq (pX zr (fV 0)<|LG (v:=.int 371) Z T.gU.choose_spec ⟨_,Z⟩)<|pX zr (fV 0)<|LG (v:=.int 364) Z T.bT.choose_spec ⟨_,Z⟩)
  (rT<|qv IL (qv Jc (pv 1)<|pX zr (fV 0)<|LG (v:=.int 364) Z T.bT.choose_spec ⟨_,Z⟩)<|qv Jc (pD T.bK (qk0 T) f<|aL 1)<|pv 2)) ?_
 intro _;dsimp only[IP];obtain⟨_,_,_,_,d,_,_,c,b⟩:=g;have i:JN ((Oh bs).map V.int) 371=HA (.int<|IU bs 371):=W3 (j:=371) (by rw[Ai,jQ bs (by rw[b];decide)];rfl) rfl;have e:JN ((Oh bs).map V.int) 364=HA (.int<|IU bs 364):=W3 (j:=364) (by rw[Ai,jQ bs (by rw[b];decide)];rfl) rfl;refine HL<|IA d T.kH T.kN Z<|Ib c i<|HL<|IA d T.kH T.kN Z<|Ib c e<|HV ?_;exact HY<|IA d T.kH T.kN Z<|Ib c e<|HV ⟨.inr<|opB b,HL<|IB Z<|IB Z<|HV ⟨.inr<|opD b,HV k⟩⟩
def qk1 (T:Txt K mg a):FnOk P w K mg base Hw 3 a.e a.BK (ap eE) (iD a):=by
 refine T.lU.fn.ko rH λH _ Q E f h=>?_;obtain⟨x,bs,m,rfl,l,u,n,k⟩:=h;refine IE (qf (sI 2 rH.nd<|qv Jc (LG (v:=.int 17) Z T.hU.choose_spec ⟨_,Z⟩)<|qv JL (pv 1)<|JG (pv 0) T.kH T.gP (eA T) (f.mono Ud) T.gA.bd .nil IT<|qd (LG (v:=.int 17) Z T.hU.choose_spec ⟨_,Z⟩) qg qe)
  (qf (Ro Av (pC Kg (JG (pv 0) T.kH T.gP (eA T) (f.mono Ud) T.gA.bd .nil IT<|qd (qv IL (pv 2) qi) qg zm)<|pv 1)<|qj<|W7 (i:=2) rH.nd Z (C6 Z) qi jP)
  (rT<|pv 2))) ?_
 intro _;have b:=l;obtain⟨_,_,_,_,p,_,_,_,g⟩:=l;have tb:=P3 g n;refine HY<|HW _ _ _ ⟨Z,p,Z,_,_,_,Z,b,HV ⟨⟨tb.1,tb.2⟩,HV ⟨.inl ⟨Ud,Ud⟩,?_⟩⟩⟩;have q0:0<=m / JS bs 17:=Int.ediv_nonneg u<|Do tb.1;have j:JS bs (17*(m / JS bs 17))<=m:=by rw[UC];exact Int.ediv_mul_le m<|Int.ne_of_gt tb.1
 dsimp only[];have o:0<=17*(m / JS bs 17):=by lia
 generalize 17*(m / JS bs 17)=y0 at j o |-;refine⟨λz σ' H'=>H'=H/\∃y:Int,σ'=[HA<|.ref x,HA<|.int m,HA<|.int y]/\z=(m-JS bs y).toNat/\0<=y/\JS bs y<=m,⟨_,Z,y0,Z,Z,o,j⟩,?_⟩;intro z σ' H' w';obtain⟨rfl,y,rfl,rfl,r,t⟩:=w';refine HL<|HW _ _ _ ⟨Z,p,Z,HL<|HV<|HW _ _ _ ⟨Z,b,HL<|HV<|Hx<|IK (λc=>?_)<|λc=>?_⟩⟩
 .have d:JS bs (y+1)<=m:=HK c;have lt:=UB g n y;exact⟨λσ2 e=>e=H'/\σ2=[HA<|.ref x,HA<|.int m,HA<|.int<|y+1],by rintro σ2 e ⟨s,q⟩;exact ⟨(m-JS bs (y+1)).toNat,sZ,s,y+1,q,Z,sZ,d⟩,HL<|HV ⟨Z,Z⟩⟩
 .have d:¬JS bs (y+1)<=m:=λz=>c<|HJ z;exact HL<|k y r t<|Ep.mp d
def qme (T:Txt K mg a):FnOk P w K mg base Hw 2 a.AT a.BL (ap aD) (Yn λy=>.int<|fw y):=by refine T.bL.fn.ko qse λH _ Q E b h=>?_;obtain⟨y,rfl,k⟩:=h;refine IE (rT<|qv IL (qv Jc qi<|pv 0)<|pD T.bK (qk0 T) b<|aL 0) ?_;intro _;exact HL<|IJ (QE Ud Ud)<|HL<|IB Z<|iic Z Z k
def qk2 (T:Txt K mg a):FnOk P w K mg base Hw 4 a.f a.BM (ap aW) (Sr a):=by
 refine T.bM.fn.ko qkj λH _ Q E c h=>?_;obtain⟨x,bs,m,rfl,f,t,r,k⟩:=h;refine IE (qf (sI 2 qkj.nd<|JG (pv 0) T.kH T.mO (qk1 T) (c.mono Ud) T.lU.bd .nil IT<|aL 1)
  (rT<|qv IL (qv Jc qi<|pD T.bL (qme T) c<|aL 2)<|pX zr (fV 0)<|qv Jq (pv 1)<|JG (pv 0) T.kH T.gP (eA T) (c.mono Ud) T.gA.bd .nil IT<|aL 2)) ?_
 intro _;dsimp only[IP];have b:=f;obtain⟨_,_,_,_,d,_,q,_,o⟩:=f;refine HL<|HW _ _ _ ⟨Z,d,Z,HL<|HW _ _ _ ⟨Z,b,t,r,λy i e p=>?_⟩⟩;obtain⟨w,s,l,n,g⟩:=T8 o i e p;exact(HL ⟨_,Z,HV ⟨.inl ⟨Ud,Ud⟩,HL<|IA d T.kH T.kN Z<|HY<|HW _ _ _ ⟨Z,d,Z,HL<|HW _ _ _ ⟨Z,b,HV<|Ib q (W3 (j:=(m-JS bs y).toNat) (by rw[Ai,s];rfl) (C5<|Int.sub_nonneg_of_le e).symm)<|HV<|k _ l n g⟩⟩⟩⟩)
def qtc (T:Txt K mg a):FnOk P w K mg base Hw 1 a.AU a.BN (ap ZN) (Yn λy=>.int<|yo y):=by refine T.bH.fn.ko MX λH _ Q E _ h=>?_;obtain⟨y,rfl,k⟩:=h;refine IE (rT<|qv JL (qv IL (qv Jc qi<|pv 0) qi) qi) ?_;intro _;exact HL<|IJ (QE Ud Ud)<|HV<|IJ ⟨Ud,Ud⟩ k
def qym (T:Txt K mg a):FnOk P w K mg base Hw 2 a.AV a.BO (ap Zp) qx3:=by
 refine T.hX.fn.ko qxy λH _ Q E b h=>?_;obtain⟨n,rfl,c,k⟩:=h;refine IE (qf (zb (Kx<|PW.pt<|KC (zf<|pD T.gE (Z6 T) b<|aL 0)<|KW<|pC Ry (pv 0) qi) (qj Vo) IG)
  (rT<|qv IL (qv Iw (pv 0) qi) qi)) ?_
 intro _;refine HL<|IB Z<|IB Z<|Ii<|HL<|HV<|Hx<|YJ c ?_;exact HL<|IJ (pos Ud)<|HV k
def M3 (T:Txt K mg a):FnOk P w K mg base Hw 3 a.AW a.BP (ap ZM) MQ:=by
 refine T.fF.fn.ko Zd λH _ Q E b h=>?_;obtain⟨n,rfl,d,k⟩:=h;refine IE (qf (sI 1 Zd.nd<|pD T.hX (qym T) b<|aL 0)
  (qf (sI 2 Zd.nd<|qv JL (pv 0) qi)
  (qf (sI 3 Zd.nd<|pD T.bH (qtc T) b<|aL 2)
  (rT<|zj<|aN 3<|qd (qv IL (qv Jq (pv 2)<|pD T.bL (qme T) b<|aL 3) qi) (aL 1) zm)))) ?_
 intro _;exact HL ⟨_,Z,d,HL<|IJ ⟨Ud,Ud⟩<|HL<|IB Z<|IB Z<|HY<|IB Z<|iic Z Z<|HV<|HL ⟨Kk _ _ _,λp c=>k p c⟩⟩
def qtd (T:Txt K mg a):FnOk P w K mg base Hw 4 a.AX a.BQ (ap aC) WX:=by
 refine T.dN.fn.ko ql8 λH _ Q E b h=>?_;obtain⟨n,rfl,f,k⟩:=h;refine IE (qf (sI 1 ql8.nd<|pD T.fF (M3 T) b<|aL 0)
  (rT<|qv Jq (qv IL (qv Jc qi<|qv Jq (pX zq (pv 1) qi) qi)<|pX zq (pv 1) qi) qi)) ?_
 intro _;dsimp only[IP];refine HL ⟨_,Z,f,λp c=>?_⟩;have d:=k _<|qx (o:=.tup [V.int<|yo<|n / 7,V.int<|n / 7-fw (yo<|n / 7)+1,V.int<|n % 7+1]) c;refine HL<|IH qk Z<|HV<|IJ (QE Ud Ud)<|HL<|IH qk Z<|HV<|HV ?_;have e:7*(n / 7-fw (yo<|n / 7)+1-1)+(n % 7+1)-1=IV n:=by unfold IV;lia
 show Q (.int<|7*(n / 7-fw (yo<|n / 7)+1-1)+(n % 7+1)-1) _;rwa[e]
def rE (T:Txt K mg a):FnOk P w K mg base Hw 5 a.g a.BR (ap cX) (Ss a):=by
 refine T.gJ.fn.ko qhm λH _ Q E b h=>?_;obtain⟨x,bs,n,rfl,d,g,k⟩:=h;refine IE (qf (sI 2 qhm.nd<|pD T.bH (qtc T) b<|qd (qv JL (pv 1) qi) qg zm)
  (rT<|qv IL (JG (pv 0) T.kH T.gP (eA T) (b.mono Ud) T.gA.bd .nil IT<|aL 2)<|pX zr (fV 0)<|pD T.dN (qtd T) b<|aL 1)) ?_
 intro _;dsimp only[IP];have c:=d;obtain⟨_,_,_,_,f,_,_,i,l⟩:=d;obtain⟨e,m⟩:=Nz g;refine HL<|IJ ⟨Ud,Ud⟩<|IB Z ?_;refine HL<|HW _ _ _ ⟨Z,f,Z,HL<|HW _ _ _ ⟨Z,c,HL<|IA f T.kH T.kN Z<|HL ⟨_,Z,g,λH' s=>?_⟩⟩⟩;exact(Ib (s _ _ i) (W3 (j:=(IV n).toNat) (by rw[Ai,jQ bs (by rw[l];exact Bt<|(Int.toNat_lt e).mpr m)];rfl) (C5 e).symm)<|HV<|k H' s)
def qk3 (T:Txt K mg a):FnOk P w K mg base Hw 6 a.h a.BS (ap aV) (O5 a):=by
 refine T.bA.fn.ko qX λH _ Q E l h=>?_;obtain⟨x,p,q,z,y,_,_,r,e,rfl,n,g,m,v,u,k⟩:=h;refine IE (qf (sI 3 qX.nd<|qv Jq (JG (fV 0) T.kH T.gR (rE T) (l.mono Ud) T.gJ.bd .nil IT<|aL 2)<|JG (fV 0) T.kH T.gR (rE T) (l.mono Ud) T.gJ.bd .nil IT<|qd (pX zq (pv 1) qi) qg zn)
  (qf (sI 4 qX.nd<|Rp (pC JO (pX zq (pv 1) qi) zg) (qv Jq (pv 2)<|pX zq (pv 1) qi) qi)
  (rT<|qv Jq (pv 4)<|pv 3))) ?_
 intro _;dsimp only[IP];have f:=g;obtain⟨_,_,_,_,o,_⟩:=g;refine HL<|IA n T.kD T.kI Z<|HW _ _ _ ⟨Z,o,Z,HL<|HW _ _ _ ⟨Z,f,u,λ_ b=>?_⟩⟩;refine HL<|IA (b _ _ n) T.kD T.kI Z<|HW _ _ _ ⟨Z,b _ _ o,Z,HL<|IH (b _ _ m) Z<|HW _ _ _ ⟨Z,f.same b,v,λs t=>?_⟩⟩;have i:=b.trans t;have j:=i _ _ m;refine HV<|HL<|IH j Z ⟨Z,IB Z ?_⟩;have d:=k s i;unfold Iq at d;by_cases c:r.2.2=Aa "open"
 .rw[HI c]at d;exact Je (HR V.str c)<|HY<|IH j Z<|HV<|HY<|HV d
 .rw[HF c]at d;exact JU (λz=>c<|V.str.inj z)<|HY<|HV d
def Vt (T:Txt K mg a):FnOk P w K mg base Hw 7 a.i a.BT (ap cU) (Sg a):=by
 refine T.kT.fn.ko cI λH _ Q E u h=>?_;obtain⟨x,bs,rs,n,rfl,L,ap,I,F,k⟩:=h;refine IE (qf (sI 2 cI.nd<|pD T.gQ (jU T) u<|qd (fV 0) (aL 1) KZ)
  (qf (sI 3 cI.nd<|qv IL (JG (fV 0) T.kH T.gR (rE T) (u.mono Ud) T.gJ.bd .nil IT<|aL 1)<|pX zr (fV 0)<|pv 2)
  (qf (zb (PW.pt<|KC (pC Kl (pv 2)<|zd Ka (by rfl) T.kG KY<|qd (fV 0) qg KZ)<|KW<|pC Kl (pX zq (pX zr (fV 0)<|pv 2) qi)<|pv 1) (qj<|W7 (i:=3) cI.nd Z (C6 Z) (JG (pv 0) T.kD T.fX (qk3 T) (u.mono Ud) T.bA.bd .nil IT<|qd (pX zr (fV 0)<|pv 2) (aL 1) zn) jP) IG)
  (rT<|pv 3)))) ?_
 intro _;dsimp only[IP];obtain⟨_,p,q,z,c,t,⟨_,j,l⟩,hz⟩:=L;have g:=Ti ap;have C:=At.len l;have v:=Y0 (ends rs) n;rw[Ab]at v;refine(HL<|IA c T.kD T.kI Z<|HL<|J0 _ _ _ _ _ ⟨Z,j,l,λi e h=>oM h,by rw[Ab,Ab],qvi g,?_⟩);have d:=t;obtain⟨_,_,_,_,M,_⟩:=t;refine HL<|IA c T.kD T.kI Z<|HW _ _ _ ⟨Z,M,Z,HL<|HW _ _ _ ⟨Z,d,F,λD f=>?_⟩⟩;have c:=f _ _ c;have j:=f _ _ j;have l:=l.same f;have hz:=f _ _ hz;have d:=d.same f;refine(HL<|IA c T.kD T.kI Z<|HL<|Ib hz (Jz (by rw[Ai,MT bs rs v];rfl))<|HV ?_);refine HY<|IA c T.kD T.kI Z<|HP _ _ ⟨Z,.inl ⟨_,SqL.of j,Z⟩,HV<|IB Z ?_⟩;by_cases o:IR (ends rs) n<rs.length
 .obtain⟨r,hr'⟩:∃r,rs[IR (ends rs) n]?=HA r:=⟨_,Ad o⟩;obtain⟨b,y,B⟩:=At.row l hr';refine Je (US C o)<|HL<|IA c T.kD T.kI Z<|HL<|Ib j (Jz y)<|IH B Z<|HL<|HV<|IB Z ?_;by_cases s:r.1<n
  .refine Je s<|HY<|HW _ _ _ ⟨Z,c,Z,HL<|IA c T.kD T.kI Z<|HL<|Ib j (Jz y)<|HL<|Ic _ _ _ _ _ _ _ _ ⟨_,Z,c,d,B,I r<|Au hr',F,λG J=>HV<|IB Z ?_⟩⟩;have A:=k G<|f.trans J;rwa[<- Ot g hr' s]at A
  .have m:=k D f;rw[<- Ov g hr' s]at m;exact JU s<|HL m
 .have m:=k D f;rw[<- Ou g (AH<|DU.mp o)]at m;exact JU (λz=>o<|DO.mp<|C ▸ z)<|Ia<|HL m
def qoj (T:Txt K mg a):FnOk P w K mg base Hw 8 a.j a.BU (ap Z3) (Sf a):=by
 refine T.bP.fn.ko aA λH _ Q E J h=>?_;obtain⟨x,bs,rs,m,rfl,hx,ap,v,hw,ho,h0,k⟩:=h;refine IE (qf (JD Av Z (ZQ Z T.gM<|qd (fV 0) qg KZ) (Kw Z<|Ip (gI 2 aA.nd)<|Ip (gI 3 aA.nd) K0) (qf (sI 4 aA.nd<|JG (pv 0) T.kD T.kX (Vt T) (J.mono Ud) T.kT.bd .nil IT<|qd (pX zq (pv 3) qi) qg zn)
  (qf (zb (pC Kl (pv 1)<|pv 4) (rT<|JG (fV 0) T.kH T.fZ (qk2 T) (J.mono Ud) T.bM.bd .nil IT<|qd (qv Jq (pv 1)<|pX zr (fV 0)<|pv 2) qg zm) IG)
  (qj<|zb (pC Kl (pv 1)<|JG (pv 0) T.kD T.kX (Vt T) (J.mono Ud) T.kT.bd .nil IT<|qd (qv IL (pX zq (pv 3) qi) qi) qg zm) (rT<|qv Jq (qv IL (pX zq (pv 3) qi)<|pv 1)<|pv 4) IG))))
  (rT<|JG (fV 0) T.kH T.fZ (qk2 T) (J.mono Ud) T.bM.bd .nil IT<|qd (qv Jq (pv 1)<|pX zr (fV 0)<|KN KQ qi) qg zm)) ?_
 intro _;dsimp only[IP];have O:=hx;obtain⟨_,p,q,z,l,R,⟨us,hq,hu⟩,hz⟩:=hx;have ad:=Ti ap;have lu:=At.len hu;have A:=R;obtain⟨_,_,_,_,p1,_,_,_,U⟩:=R;have C:=L7 U ap hw;refine(HL<|IA l T.kD T.kI Z<|HP _ _ ⟨Z,hq,Zt (K:=K) (a:=q) (xs:=us) (λi σ H'=>Same H H'/\Ie bs rs (lo rs i)<=m/\∃W Y v4:tX,σ=[HA<|.ref x,HA<|.int m,W,Y,v4]) ⟨Same.refl H,by rwa[show lo rs 0=0 from Z,oG v ap.ok],HD,HD,HD,Z⟩ (λi σ H' _ h=>SqL.of<|h.1 _ _ hq) ?_ ?_⟩)
 .rintro i y t σ H' hy ⟨g,L,W,Y,v4,rfl⟩ hn;obtain⟨b,_,rfl,g1,S⟩:=hu.get' hy;obtain⟨r,u,rfl⟩:=XH g1;have hi:i<rs.length:=(Ac.mp u).1;have I:=v r<|Au u;have rk:=ap.ok r<|Au u;have D:=g.trans<|qx (o:=.tup [V.int (i:Int),V.ref b]) hn;refine HP _ _ ⟨Z,SqT.of qk,Z,_,_,Z,_,_,Z,Z,?_⟩;generalize upd H' t _=H1 at D |-;refine HL<|HW _ _ _ ⟨Z,D _ _ l,Z,HL<|IH (D _ _ S) Z<|Hv _ _ _ _ ⟨Z,O.same D,ap,v,I,λH2 z2=>?_⟩⟩;have f:=D.trans z2;refine HY<|HV<|Hx<|IK (λc=>?_)<|λc=>?_
  .have c':m<Ie bs rs r.1:=HK c;obtain⟨G,j⟩:=qv3 U ap v (Bt hi) L λs M=>Bd c'<|C.le I<|qx9 ad u s M;exact(HL<|IA ((f _ _ l)) T.kD T.kI Z<|HW _ _ _ ⟨Z,f _ _ p1,Z,HY<|IA ((f _ _ l)) T.kD T.kI Z<|HL<|Ib (f _ _ hz) (Jz (by rw[Ai,MT bs rs<|Bt hi];rfl))<|HV<|HW _ _ _ ⟨Z,A.same f,G,ho,λd n F B=>k d H2 f n (j d n F B).1 (j d n F B).2⟩⟩)
  .have c':Ie bs rs r.1<=m:=B6.mp λz=>c<|HJ z;refine HY<|HW _ _ _ ⟨Z,f _ _ l,Z,HL<|IH (f _ _ S) Z<|HV<|Hv _ _ _ _ ⟨Z,O.same f,ap,v,Eo<|Bh I rk,λH3 z3=>?_⟩⟩;have X:=f.trans z3;refine HV<|Hx<|IK (λe=>?_)<|λe=>?_
   .obtain⟨G,j,u2⟩:=PP ap u (hw r<|Au u) c'<|HK e;exact HL<|IH (X _ _ S) Z<|HL<|HV<|HL<|HV<|k _ H3 X (Bh I G) j u2
   .exact⟨X,by rw[qv2 u];exact B6.mp λz=>e<|HJ z,_,_,_,Z⟩
 .intro σ H' w';obtain⟨g,L,W,Y,v4,rfl⟩:=w';rw[lu]at L;obtain⟨G,j⟩:=qv3 U ap v (Al _) L λs M=>by rw[List.drop_length]at M;cases M
  have el:(WY bs rs).map V.int=((An rs.length).map λk=>V.int ((rs.take k).map λr=>Iq bs r<|r.2.1+1).sum)++[V.int ((rs.take rs.length).map λr=>Iq bs r<|r.2.1+1).sum]:=by unfold WY;rw[Bs,Aq,Aq,Cc];rfl
  have N:=g _ _ hz;rw[el]at N;exact HL<|IA ((g _ _ l)) T.kD T.kI Z<|HW _ _ _ ⟨Z,g _ _ p1,Z,HY<|IA ((g _ _ l)) T.kD T.kI Z<|IB Z<|Ib N (T1 _ _)<|HV<|HW _ _ _ ⟨Z,A.same g,G,ho,λd n F B=>k d H' g n (j d n F B).1 (j d n F B).2⟩⟩
def qlw (T:Txt K mg a):FnOk P w K mg base Hw 9 a.W a.AJ (ap cZ) (oZ a):=by refine T.fJ.fn.ko qlj λH _ Q E e h=>?_;obtain⟨x,_,_,f,m,rfl,⟨_,_,i,b⟩,ok,j,_,k⟩:=h;refine IE (rT<|JG (fV 0) T.kD T.fT (qoj T) (e.mono Ud) T.bP.bd .nil IT<|qd (qv Jq (qv IL (JG (fV 0) T.kD T.kX (Vt T) (e.mono Ud) T.kT.bd .nil IT<|aL 1)<|pv 2) qi) qg zm) ?_;intro _;dsimp only[IP];obtain⟨_,_,_,_,g⟩:=b.ins;have q:=(L7 ok.hl ok.ap ok.wd).le (n:=0) (m:=f) (AZ _) j;rw[oG ok.nn ok.ap.ok]at q;refine(HL<|IA i T.kO T.kY Z<|HW _ _ _ ⟨Z,g,Z,HL<|IA i T.kO T.kY Z<|HW _ _ _ ⟨Z,g,Z,HL<|Hv _ _ _ _ ⟨Z,b,ok.ap,ok.nn,j,λ_ c=>HL<|HV<|HV<|Hv _ _ _ _ ⟨Z,b.same c,ok.ap,ok.nn,ok.wd,ok.op,sZ,λd o r s p l=>k d o (c.trans r) s p l⟩⟩⟩⟩)
def qez (T:Txt K mg a):FnOk P w K mg base Hw 1 a.R a.c (ap c5) (OX λf l=>.int (if l-f+1 > 0 then l-f+1 else 0)):=by refine T.gW.fn.ko qi6 λH _ Q E _ h=>?_;obtain⟨x,u,v,rfl,k⟩:=h;refine IE (rT<|zd (qH Z) (by rfl) T.gY oN<|qd qi (qd (qv IL (qv Jq (pv 2)<|pv 1) qi) qg zm) ql) ?_;intro _;exact HY<|HV<|HV<|HP _ _ ⟨Z,k⟩
def qil (T:Txt K mg a):FnOk P w K mg base Hw 8 a.X a.AK (ap eC) (MR a):=by
 refine T.bY.fn.ko qh8 λH _ Q E g h=>?_;obtain⟨x,_,_,f,l,rfl,⟨_,_,j,e⟩,ok,p,k⟩:=h;refine IE (qf (zb (pC Kl (pv 2)<|pv 1) (rT qi) IG)
  (rT<|qv Jq (JG (fV 0) T.kD T.kX (Vt T) (g.mono Ud) T.kT.bd .nil IT<|qd (qv IL (pv 2) qi) qg zm)<|JG (fV 0) T.kD T.kX (Vt T) (g.mono Ud) T.kT.bd .nil IT<|aL 1)) ?_
 intro _;dsimp only[IP];obtain⟨_,_,_,_,i⟩:=e.ins;refine HY<|HV<|Hx<|IK (λc=>?_)<|λc=>?_
 .have b:=k H<|Same.refl H;rwa[HI<|HK c]at b
 .have o:¬l<f:=λz=>c<|HJ z;refine(HL<|IA j T.kO T.kY Z<|HW _ _ _ ⟨Z,i,Z,HL<|HV<|Hv _ _ _ _ ⟨Z,e,ok.ap,ok.nn,sZ,λ_ d=>HL<|IA ((d _ _ j)) T.kO T.kY Z<|HW _ _ _ ⟨Z,d _ _ i,Z,HL<|Hv _ _ _ _ ⟨Z,e.same d,ok.ap,ok.nn,p,λm n=>HV ?_⟩⟩⟩⟩);have b:=k m<|d.trans n;rwa[HF o]at b
def qyn (T:Txt K mg a):FnOk P w K mg base Hw 10 a.AY a.BV (ap Zo) (PB a):=by
 refine T.lI.fn.ko Rt λH _ Q E n h=>?_;obtain⟨x,pq,i,st,u,bs,rs,ps,rfl,B,tok,hq,ok,s,u1,k⟩:=h;refine IE (qf (sI 4 Rt.nd<|oP (ι:=Three) (C:=JX a.F a.H a.G) (f:=JX a.P a.V a.P) (fd:=JX a.Z a.AI a.Z) (ps:=JX (["self","units"]:tG) (["self","units"]:tG) (["self","units"]:tG)) (sp:=JX (Rf λu=>.int u) (Rf λu=>.int<|7*u)<|Rf λu=>.int u) (k:=JX 1 1 1) (pv 0) (Kr T.gB T.gD T.kO) (Kr T.mR T.nV T.m8) (Kr (qf9 T) (qoi T)<|qf9 T) (Kr (n.mono Ud) (n.mono Ud)<|n.mono Ud) (Kr T.gS.bd T.l9.bd T.gS.bd) .nil IT<|aL 2)
  (qf (sI 5 Rt.nd<|qv IL (pv 1) qi)
  (qf (JD Av Z (Jk<|pv 3) (Kw Z<|Ip (gI 6 Rt.nd)<|Ip (gI 7 Rt.nd) K0) (qf (sI 8 Rt.nd<|oP (ι:=Three) (C:=JX a.F a.H a.G) (f:=JX a.R a.R a.X) (fd:=JX a.c a.c a.AK) (ps:=JX (["self","first","last"]:tG) (["self","first","last"]:tG) (["self","first","last"]:tG)) (sp:=JX (OX λf l=>.int (if l-f+1 > 0 then l-f+1 else 0)) (OX λf l=>.int (if l-f+1 > 0 then l-f+1 else 0))<|MR a) (k:=JX 1 1 8) (pv 0) (Kr T.gB T.gD T.kO) (Kr T.mH T.nF T.nC) (Kr (qez T) (qez T)<|qil T) (Kr (n.mono Ud) (n.mono Ud)<|n.mono Ud) (Kr T.gW.bd T.gW.bd T.bY.bd) .nil IT<|aN 5<|qd (qv Jq (pv 6) qi) qg zm)
  (qf (zb (pC Ry (pv 8)<|pv 4) (qj qrm) IG)
  (qf (zb (pC KP (pv 7) Io) (rT Io) IG)
  (qf (W7 (i:=4) Rt.nd Z (C6 Z) (pv 8) Ug)
  (qj<|sI 5 Rt.nd<|zd (qH Z) (by rfl) T.gY oN<|aN 5<|qd (qv IL (pv 7) qi) qg zm))))))
  (rT<|oP (ι:=Three) (C:=JX a.F a.H a.G) (f:=JX a.Q a.Q a.W) (fd:=JX a.b a.b a.AJ) (ps:=JX (["self","first","many"]:tG) (["self","first","many"]:tG) (["self","first","many"]:tG)) (sp:=JX (OX λf m=>.int<|f+m-1) (OX λf m=>.int<|f+m-1)<|oZ a) (k:=JX 1 1 9) (pv 0) (Kr T.gB T.gD T.kO) (Kr T.m5 T.nO T.nN) (Kr (qhn T) (qhn T)<|qlw T) (Kr (n.mono Ud) (n.mono Ud)<|n.mono Ud) (Kr T.gX.bd T.gX.bd T.fJ.bd) .nil IT<|aN 5<|aL 4)))) ?_
 intro _;dsimp only[IP];obtain⟨D,_,A,_⟩:=id B;obtain⟨us,G,ty⟩:=hq;have y:=rS tok i;have m1:=qss u1 i;have lu:us.length=ps.length:=by rw[ty.length,Ab]
 refine HL<|Hv i x D _ ⟨Z,A,Z,HL<|rQ<|HL<|HV<|IB Z ?_⟩;refine⟨_,Z,⟨_,SqL.of G⟩,KE (K:=K) (a:=pq) (xs:=us) (λj σ H'=>Same H H'/\∃(b L:Int)(X M O:tX),σ=[HA<|.ref x,HA<|.int st,HA<|.int u,HA<|.ref pq,HA<|.int L,HA<|.int b,X,M,O]/\Go (kf bs rs i) ps st (JX u (7*u) u i) j b L)
  ⟨Same.refl H,_,_,HD,HD,HD,Z,QW m1⟩ (λj σ H' _ h=>SqL.of<|h.1 _ _ G) ?_ ?_⟩
 .intro j v σ H' Y w';obtain⟨p,b,L,X,M,O,rfl,q⟩:=w';obtain⟨c,t,rfl,h1,N⟩:=ty.get' Y;obtain⟨⟨F,o⟩,R,rfl⟩:=oX h1;have N:=p _ _ N;have hb:=q.hb;refine HP _ _ ⟨Z,SqT.of N,Z,_,_,Z,_,_,Z,Z,?_⟩;refine(HL<|Hv i x D _ ⟨Z,p _ _ A,Z,HY<|HV<|kin (B.same p) tok sZ λ_ s2=>?_⟩);have r:=p.trans s2;refine HY<|HV<|Hx<|IK (λc=>?_)<|λc=>?_
  .have g:=Um y s ok q R<|HK c;exact(HL<|Hv i x D _ ⟨Z,r _ _ A,Z,HY<|NS (B.same r) tok (by have:=g.hb;lia) g.hL λd U W S J I=>k U (HA d) (r.trans W)<|qsq y s g S J I⟩)
  .have c':Qx (kb bs rs i) b (F-1)<L:=Ep.mp λz=>c<|HJ z;cases o with|none=>exact(HL ⟨Z,Hx<|Je Z<|k _ HD r<|QX y s ok q R c'⟩)|some e=>exact HL ⟨Z,Hx<|JU sh<|HY<|HV<|HY<|HV<|HP _ _ ⟨Z,r,_,_,_,_,_,Z,QY y s ok q R c'⟩⟩
 .intro σ H' w';obtain⟨p,b,L,X,M,O,rfl,q⟩:=w';rw[lu]at q;have g:=Uo (f:=kb bs rs i) q;exact(HL<|Hv i x D _ ⟨Z,p _ _ A,Z,HY<|NS (B.same p) tok (by have:=g.hb;lia) g.hL λd U W S J I=>k U (HA d) (p.trans W)<|qsq y s g S J I⟩)
def qho (T:Txt K mg a):FnOk P w K mg base Hw 9 a.k a.BW (ap cy) (O3 a):=by
 refine T.gT.fn.ko qmk λH _ Q E i h=>?_;obtain⟨x,bs,_,n,rfl,l,ap,e,o,A,r,k⟩:=h;refine IE (rT<|JG (pv 0) T.kD T.fT (qoj T) (i.mono Ud) T.bP.bd .nil IT<|qd (JG (pv 0) T.kD T.kX (Vt T) (i.mono Ud) T.kT.bd .nil IT<|aL 1) qg zl) ?_;intro _;have c:=l;obtain⟨_,p,q,z,f,_⟩:=l;refine HL<|HW _ _ _ ⟨Z,f,Z,HL<|HW _ _ _ ⟨Z,f,Z,HL<|Hv _ _ _ _ ⟨Z,c,ap,e,r,λ_ g=>?_⟩⟩⟩;obtain⟨dp,a1,a2,a3,p1,p2,p3,p4,hl⟩:∃dp a1 a2 a3,H p=HA (.ins a.D dp<|Xx a1 a2 a3)/\H a1=HA (.lst<|bs.map V.bl)/\H a2=HA (.lst<|(Lw bs).map V.int)/\H a3=HA (.lst<|(Oh bs).map V.int)/\bs.length=371:=by obtain⟨_,_,_,_,b,y,_⟩:=c;rw[f]at b;injection b with b;injection b with _ _ b;injection b with b _;injection b with _ b;injection b with b;subst b;exact y
 have j:=(L7 hl ap o).le (n:=0) (m:=n) (AZ _) r;rw[oG e ap.ok]at j;exact Hv _ _ _ _ ⟨Z,c.same g,ap,e,o,A,j,λd t v B u s=>k d t (g.trans v) B u s⟩
def qux (T:Txt K mg a):FnOk P w K mg base Hw 10 a.AZ a.BX (ap Z2) (S3 a):=by
 refine T.fM.fn.ko Xn λH _ Q E x h=>?_;obtain⟨tb,B,d,bs,rs,ps,rfl,p,tok,J,ok,u,k⟩:=h;refine IE (qf (sI 3 Xn.nd<|JG (pv 0) T.kD T.lQ (qho T) (x.mono Ud) T.gT.bd .nil IT<|aL 1)
  (qf (JD Av Z (Jk<|pv 2) (Kw Z<|Ip (gI 4 Xn.nd)<|Ip (gI 5 Xn.nd) K0) (qf (zb (pC Kl (pv 3)<|pv 4) (qj qrm) IG)
  (qf (zb (pC KP (pv 5) Io) (rT Io) IG)
  (qj<|zb (pC Kg (pv 3)<|pv 5) (qj<|sI 3 Xn.nd<|JG (pv 0) T.kD T.lQ (qho T) (x.mono Ud) T.gT.bd .nil IT<|qd (qv IL (pv 5) qi) qg zm) IG))))
  (rT<|pv 3))) ?_
 intro _;dsimp only[IP];obtain⟨_,_,_,_,y⟩:=p.ins;obtain⟨us,G,ty⟩:=J;have C:=L7 tok.hl tok.ap tok.wd;have L:us.length=ps.length:=by rw[ty.length,Ab]
 refine HL<|HW _ _ _ ⟨Z,y,Z,HL<|Hv _ _ _ _ ⟨Z,p,tok.ap,tok.nn,tok.wd,tok.op,u,λt _ b l n m=>?_⟩⟩;refine(HL ⟨_,Z,⟨_,SqL.of<|b _ _ G⟩,KE (K:=K) (a:=B) (xs:=us) (λj σ H'=>Same H H'/\∃(t:Int)(s r:tX),σ=[HA<|.ref tb,HA<|.int d,HA<|.ref B,HA<|.int t,s,r]/\Gd (Jd bs rs) ps d j t)
  ⟨b,t,HD,HD,Z,Qa C u l n m⟩ (λj σ H' _ h=>SqL.of<|h.1 _ _ G) ?_ ?_⟩)
 .clear l n m;intro j v σ H' A w';obtain⟨b,t,s,r,rfl,f⟩:=w';obtain⟨c,t,rfl,M,q⟩:=ty.get' A;obtain⟨⟨F,o⟩,g,rfl⟩:=oX M;have q:=b _ _ q;have hf:=f.hf;refine HP _ _ ⟨Z,SqT.of q,Z,_,_,Z,_,_,Z,Z,?_⟩;refine HY<|HV<|Hx<|IK (λc=>?_)<|λc=>?_
  .exact(HL<|k _ (HA _) b<|Ur ok f g<|HK c)
  .have D:F<=_:=B6.mp λz=>c<|HJ z;cases o with
   |none=>exact(HL ⟨Z,Hx<|Je Z<|k _ HD b<|Qc f g D⟩)
   |some e =>
    have e0:=(ok.ok _<|Au g).2 e rfl;refine HL ⟨Z,Hx<|JU sh<|HY<|HV<|Hx<|IK (λi=>?_)<|λi=>?_⟩
    .have i:=HK i;exact(HL<|HW _ _ _ ⟨Z,b _ _ y,Z,HL<|HV<|Hv _ _ _ _ ⟨Z,p.same b,tok.ap,tok.nn,tok.wd,tok.op,sZ,λ_ _ I l n m=>⟨b.trans I,_,_,_,Z,Qd C u f g D i l n m⟩⟩⟩)
    .exact⟨b,_,_,_,Z,Qb f g<|Ep.mp λz=>i<|HJ z⟩
 .intro σ H' w';obtain⟨b,t,s,r,rfl,f⟩:=w';rw[L]at f;exact HL<|k _ (HA t) b<|Us f
def qyo (T:Txt K mg a):FnOk P w K mg base Hw 11 a.Aa a.BY (ap Zn) (O8 a):=by
 refine T.lE.fn.ko qpx λH _ Q E d h=>?_;obtain⟨x,j,i,st,u,bs,rs,ps,rfl,l,tok,g,ok,s,o,k⟩:=h;refine IE (qf (sI 4 qpx.nd<|pD T.lI (qyn T) d<|aN 0<|aN 1<|aN 2<|aL 3)
  (qf (zb (pC KP (pv 4) Io) (rT Io) IG)
  (rT<|pD T.fM (qux T) d<|qd (fV 0) (aN 4<|aL 3) KZ))) ?_
 intro _;dsimp only[IP];obtain⟨_,tb,q,m⟩:=id l;refine UJ<|Ic x j i st u bs rs ps ⟨Z,l,tok,g,ok,s,o,λ_ t c b=>?_⟩;cases t with|none=>exact(HL ⟨Z,Hx<|Je Z<|k _ HD c<|.inl ⟨b,Z⟩⟩)|some f =>have f0:=b.1;exact(HL ⟨Z,Hx<|JU sh<|HL<|J0 _ _ _ _ _ ⟨Z,c _ _ q,Kr (p:=λi=>Cls K<|kC a i) T.gB T.gD T.kO i,Kr (p:=λi=>NoAttr K (kC a i)<|Aa "table") (qp T.lC Ud) (qp T.hM Ud) (qp T.kY Ud) i,Z,HY<|K9 tb j f bs rs ps ⟨Z,m.same c,tok,g.same c,ok,sZ,λ_ r n e=>k _ r (c.trans n)<|.inr ⟨f,b,e⟩⟩⟩⟩)
def qyp (T:Txt K mg a){cL v:HC}(hcl:a.Y.code=.ref cL)(LF:Lam.LamF mg base cL v):FnOk P w K mg base Hw 4 a.Ab a.Y (ap Po) (iO v):=by
 refine Lam.okT T.lP.fn hcl qxz (λvs H Q E h=>?_)<|λ_ ad A _ s H vs Q E hr h=>?_
 .obtain⟨_,_,_,rfl,_⟩:=h
  all_goals rfl
 .obtain⟨p,us,d,rfl,hp,X,hl,hL,k⟩:=h;refine IE (rT<|Lam.pe_sortLamT (N:=["act"]) (js:=[HD]) (XN:=["acts"]) (xs:=Iy Po) Z (hr.mono Ud) (by rfl) T.lA (aL 0) LF ad Z Z Uk Z Z Uk Z Z Z (λ_ _ _ _ _=>rfl)<|λ_ _ _ _ _ _=>zj<|qd (pX (ZS (K:=K) Z) (pv 0) qi) (qd (pX (ZS (K:=K) Z) (pv 0) qi) qg zn) zn) ?_;intro _;dsimp only[IP];have S:=X.length;rw[Ab]at S;refine(HL<|HP p us ⟨Z,SqL.of hp,sZ,hL,λU c' kp F L B G=>?_⟩);obtain⟨_,J⟩:=hL.tbl;have af:Tups U us (d.map KA):=Kt X λb t e=>kp b _ (λz=>by rw[z,J]at e;cases e) e;have nkP:B≠v:=λz=>by rw[z,F]at G;cases G
  refine⟨λi H'=>Same U H'/\∃m,H' B=HA (.lst m)/\Tups H' m ((d.take i).map λt=>Lam.encK<|Ju t),⟨qx G,[],qk,.nil⟩,λi x H' hx W=>?_,λH' W=>?_⟩
  .obtain⟨g,m,y,l⟩:=W;have I:i<d.length:=by have:=(Ac.mp hx).1;lia
   obtain⟨b,eb,qb⟩:=af.get (i:=i) (r:=KA d[i]) (by rw[Ai,Ad I];rfl);rw[hx]at eb;cases eb;have e3:=g _ _ qb;refine⟨g _ _ L,HL<|IH e3 Z<|HL<|IH e3 Z ⟨Ke _ _,λt R=>?_⟩⟩;obtain⟨st,et⟩:=IY (o:=.tup [V.int d[i].2.2,V.str d[i].1]) R;have lk:=l.length;rw[Ab,Bp]at lk;refine⟨m,st _ _ y,KI<|sZ,?_,_,qk,?_⟩
   .exact λb o e=>by rw[qr<|Iz e G];exact st _ _<|g _ _ e
   .rw[B1,Ad I,Aq];refine Vp (Kt l λc u e=>?_) ?_
    .rw[qr (λz=>by rw[z,y]at e;cases e)];exact st _ _ e
    .rw[qr (λz=>by rw[z,y]at R;cases R)];exact et
  .obtain⟨g,m,y,l⟩:=W;rw[S,Bc]at l;refine(HP m (d.map Ju) ⟨y,by rw[Cc];exact l,by rw[Ab];lia,λD q pp pw f=>?_⟩);have C:∀j∈D,j<d.length:=λj O=>by have:=AE.mp<|pp.mem_iff.mp O;lia
   have nqk:q≠B:=λz=>by rw[z,y]at f;cases f
   have s3:Same U (upd (upd H' B<|.lst []) q<|.lst<|D.map λi=>us.getD i V.non):=λb o e=>by rw[qr<|Iz (g _ _ e) f,qr<|Iz e G];exact g _ _ e
   have Y:∀b t,H b=HA (.tup t)->b≠v:=λb t e z=>by rw[z,J]at e;cases e
   have M:SameBut v H (upd (upd H' B<|.lst []) q<|.lst<|D.map λi=>us.getD i V.non):=λb o n e=>s3 _ _<|kp b o n e;have ae:H q=HD:=by
    by_cases z:q=v
    .rw[z]at f;rw[g _ _ F]at f;cases f
    .cases e:H q with
     |none=>rfl
     |some o=>rw[g _ _<|kp q o z e]at f;cases f
   refine k q _ _ (D.map λi=>d.getD i dA) ae M (Lam.LamAt.same (.inr ⟨c',F,L⟩) s3) ?_ ?_ qk ?_
   .have:=pp.map λi=>d.getD i dA;rwa[S,qt4]at this
   .rw[Ck]at pw |-;refine pw.imp_of_mem λ{i j} I O h=>?_;have ei:(d.map Ju).getD i Lam.kDf=Ju (d.getD i dA):=by simp[C i I]
    have ej:(d.map Ju).getD j Lam.kDf=Ju (d.getD j dA):=by simp[C j O]
    rwa[ei,ej]at h
   .exact qod (Kt X λb t e=>M b _ (Y b t e) e) D C
def qo6 (T:Txt K mg a):FnOk P w K mg base Hw 1 a.l a.BZ (ap cT) (PH a):=by refine T.dO.fn.ko qo2 λH _ Q E _ h=>?_;obtain⟨x,_,_,_,rfl,d,k⟩:=h;refine IE (rT<|T2 cW (by rfl) T.kL Le<|qd (fV 0) qg KZ) ?_;intro _;dsimp only[IP];obtain⟨_,_,_,_,e,b,_,_,_⟩:=d;exact HL<|IA e T.kP T.kW Z<|HP _ _ ⟨Z,.inl<|SqL.of b,λl c=>k l c⟩
def qre (T:Txt K mg a):FnOk P w K mg base Hw 1 a.m a.Ba (ap cG) (PD a):=by
 refine T.fN.fn.ko qqv λH _ Q E c h=>?_;obtain⟨x,nms,_,_,j,y,rfl,f,e,k⟩:=h;refine IE (qf (zb (qy1<|qxf (Ji c) (pv 1)<|fV 0) (qj Vo) IG)
  (rT<|K7 (Ji c) (fV 0) (pv 1)<|λ_ _=>rfl)) ?_
 intro _;dsimp only[IP];obtain⟨_,_,b,_,d,_,i,_,l⟩:=f;have g:DGet H b (.str<|nm nms j) (HA y):=l j y e ▸ DGet.k (k:=.inr<|nm nms j) i;exact HY<|IA d T.kP T.kW Z<|HP b _ ⟨Z,g,Hx<|Ia<|HL<|IA d T.kP T.kW Z<|HL<|HP b _ ⟨Z,g,k⟩⟩
def qte (T:Txt K mg a):FnOk P w K mg base Hw 1 a.n a.Bb (ap aB) (WU a):=by refine T.dE.fn.ko qsf λH _ Q E _ h=>?_;obtain⟨x,B,S,_,_,_,_,rfl,b,k⟩:=h;refine IE (rT<|fV 0) ?_;intro _;dsimp only[IP];obtain⟨_,_,_,_,_,_,_,_,rfl,R⟩:=id b;exact HL<|IA R.hx T.kA T.kB Z k
def qtf (T:Txt K mg a):FnOk P w K mg base Hw 2 a.Ac a.Bc (ap aU) (iN a):=by
 refine T.fY.fn.ko qsg λH _ Q E d h=>?_;obtain⟨l,_,b,rfl,c,_,e,k⟩:=h;refine IE (rT<|Lc (Kz Ta (zd Ka (by rfl) T.kG KY<|aL 0) qi<|LD _)<|Lp<|ZE<|Ml (pX zr (pv 0)<|KN KQ qi) T.kA T.mJ (qte T) (d.mono Ud) T.dE.bd .nil IT) ?_;intro _;dsimp only[IP];refine HL<|HP _ _ ⟨Z,.inl ⟨_,SqL.of c,Z⟩,HV ?_⟩;rcases e with ⟨rfl,rfl⟩|⟨ys,y,B,S,rd,st,bs,rs,rfl,R,rfl⟩
 .exact⟨_,Z,Ia k⟩
 .obtain⟨dy,rly,cny,pry,ppy,pgy,ury,upy,eS,Y⟩:=id R;have hn:((ys++[V.ref y]).length:Int)=(ys.length:Int)+1:=by rw[Ae];rfl
  refine⟨_,Z,?_⟩;rw[HI<|HJ<|sZ];exact HL ⟨_,Z,Ib c (Pj _ _)<|HW _ _ _ ⟨Z,Y.hx,Z,y,B,S,rd,st,bs,rs,Z,R,_,Z,k⟩⟩
theorem qk4 (T:Txt K mg a):FnOk P w K mg base Hw 1 a.o a.Bd (ap eD) (WS a):=by
 refine T.dU.fn.ko qkl λH _ Q E _ h=>?_;obtain⟨_,d,rd,rfl,m,k⟩:=h;refine IE (qf (zb (pC KP (fV 0) Io) (rT zg) IG)
  (qf (zb (pC JO (pv 1)<|pX zq (fV 0) qi) (rT zg) IG)
  (rT<|Rp (pC JO (pv 1)<|pX zq (fV 0) qi) zg zg))) ?_
 intro _;dsimp only[IP];obtain⟨_,_,_,_,_,_,_,_,_,_,_,j,g,_,_,_,_⟩:=m;cases e:rd.still with
 |none =>rw[e]at g k;cases g;exact(HL<|IA j T.k7 T.k8 Z ⟨Z,Hx<|Je Z k⟩)
 |some z =>
  obtain⟨i,f⟩:=z;rw[e]at g k;obtain⟨p,rfl,l⟩:=g;refine HL<|IA j T.k7 T.k8 Z ⟨Z,Hx<|JU sh<|HY<|IA j T.k7 T.k8 Z<|IH l Z ⟨Z,Hx<|IK (λc=>?_)<|λc=>?_⟩⟩
  .have c:=V.str.inj<|HK c;rw[show LZ (HA (i,f)) d=Aa "still" by unfold LZ;simp only;rw[HI c]]at k;exact k
  .have c:¬d=i:=λq=>c<|HJ<|HR V.str q;refine HY<|IA j T.k7 T.k8 Z<|IH l Z ⟨Z,Hx<|IK (λb=>?_)<|λb=>?_⟩
   .have b:=V.str.inj<|HK b;rw[show LZ (HA (i,f)) d=Aa "goes on" by unfold LZ;simp only;rw[HF c,HI b]]at k;exact k
   .have b:¬d=f:=λq=>b<|HJ<|HR V.str q;rw[show LZ (HA (i,f)) d=Aa "" by unfold LZ;simp only;rw[HF c,HF b]]at k;exact k
def quy (T:Txt K mg a):FnOk P w K mg base Hw 2 a.p a.Be (ap Xk) (Sl a):=by
 refine T.lB.fn.ko quc λH _ Q E M h=>?_;obtain⟨U,e,rd,rfl,x,ok,k⟩:=h;refine IE (qf (zb (PW.pt<|Kh (pC JO (pv 1)<|fV 0)<|Ku<|qt Oe (pv 1) (fV 0) (by with_unfolding_all rfl)) (rT zg) IG)
  (qf (zb (qt Oe (pv 1) (fV 0) (by with_unfolding_all rfl)) (rT zg) IG)
  (qf (zb (qt Oe (pv 1) (Tr (N:=["row"]) (js:=[HD]) (XN:=["self","kind"]) (xs:=Iy Xk) Z Z Z Uk (Jk<|fV 0) (λ_ _ _ _ _ _=>Lr (i:=0) (show Ct (["row"]:tG) from by decide +kernel) Z (C6 Z)<|CG Z) (λ_ _ _ _ _ _=>Tu)<|λ_ _ _ _ _ _=>pX (ZS (K:=K) Z) (pv 0) qi) (by with_unfolding_all rfl)) (rT zg) IG)
  (rT<|JG (pv 0) T.k7 T.nT (qk4 T) (M.mono Ud) T.dU.bd .nil IT<|aL 1)))) ?_
 intro _;dsimp only[IP];have I:=x;obtain⟨_,_,_,_,_,_,_,_,_,_,us,s,_,W,R,J,B⟩:=id x;apply use (p:=¬(e=rd.owes\/rd.ends.contains e=HG))
 .intro S;have A:e=rd.owes\/rd.ends.contains e=HG->Q (.str<|Aa "ends") H:=λz=>by have:=k H<|Same.refl H;unfold Ik at this;rwa[HI z]at this
  refine HY<|IA s T.k7 T.k8 Z ⟨Z,Hx<|IK (λc=>Ii<|A<|.inl<|V.str.inj<|HK c)<|λc=>HY<|IA s T.k7 T.k8 Z<|HP _ _ ⟨Z,.inl<|SqL.of W,Z,Rq _,IB Z ?_⟩⟩;show if Ko (.str e) (rd.ends.map V.str)=HG then _ else _;rw[Rn];exact IK (λd=>A<|.inr d) (λd=>S λz=>by
   rcases z with z|z
   .exact c<|HJ<|HR V.str z
   .exact d z)
 .intro F;refine HY<|IA s T.k7 T.k8 Z<|HP _ _ ⟨Z,.inl<|SqL.of R,Z,Rq _,IB Z ?_⟩;show if Ko (.str e) (rd.anew.map V.str)=HG then _ else _;rw[Rn];refine IK (λd=>?_)<|λd=>?_
  .have:=k H<|Same.refl H;unfold Ik at this;rwa[HF F,HI d]at this
  .have Y:us.length=rd.longer.length:=by rw[B.length,Ab]
   have hll:=ok.l;refine HY<|IA s T.k7 T.k8 Z ⟨_,Z,⟨_,SqL.of J⟩,?_⟩;let f:V->V:=λv=>match v with
    |.ref b=>match H b with
     |some (.tup [.str y,.int _,.int _])=>.str y
     |_=>.non
    |_=>.non
   refine Z5 f (λσ'=>∃v,σ'=[v]) (Xp (K:=K)<|SqL.of J) (JJ<|sZ) ⟨HD,Z⟩ (λv σ' _ _ L sm s4 q=>?_) Rl λ_ G=>?_
   .obtain⟨v0,rfl⟩:=s4;obtain⟨j,O⟩:=Bx L;obtain⟨b,t,rfl,g,u⟩:=B.get' O;rw[Ai]at g;cases m:rd.longer[j]? with
    |none=>rw[m]at g;cases g
    |some r =>
     rw[m]at g;cases g;have X:f (.ref b)=.str r.1:=by show (match H b with|some (.tup [.str y,.int _,.int _])=>V.str y|_=>.non)=_;rw[u];rfl
     have q:=q [HA<|.ref b] ⟨_,Z⟩;rw[X]at q;exact HL<|IH (sm _ _ u) Z q
   have C:us.map f=(rd.longer.map (·.1)).map V.str:=by
    refine Cm λj=>?_;rw[Ai,Ai,Ai];cases m:rd.longer[j]? with
    |none=>rw[AH (by rw[Y];exact Dv.mp m)];rfl
    |some r =>obtain⟨b,g,u⟩:=B.get (i:=j) (r:=RO r) (by rw[Ai,m];rfl);rw[g];show HA (match H b with|some (.tup [.str y,.int _,.int _])=>V.str y|_=>.non)=_;rw[u];rfl
   have n:=qx (o:=.lst<|us.map f) G;refine(HP _ _ ⟨Z,.inl<|SqL.of qk,Z,by rw[C];exact Rq _,IB Z ?_⟩);show if Ko (.str e) (us.map f)=HG then _ else _;rw[C,Rn];rw[C]at n;refine IK (λD=>?_)<|λD=>?_
   .have:=k _ n;unfold Ik at this;rwa[HF F,HF d,HI D]at this
   .have:=k _ n;unfold Ik at this;rw[HF F,HF d,HF D]at this;exact HL<|HW _ _ _ ⟨Z,n _ _ s,Z,HL<|HW U e rd ⟨Z,I.same n,this⟩⟩
def qje (T:Txt K mg a):FnOk P w K mg base Hw 1 a.q a.Bf (ap cS) (iP a):=by
 refine T.bG.fn.ko qo3 λH vs Q E _ h=>?_;obtain⟨x,B,S,_,st,_,_,rfl,i,k⟩:=h;refine IE (rT<|Lc (Kz Ta (zd Ka (by rfl) T.kG KY<|qd (fV 0) qg KZ) qi<|LD _)<|Lp<|Kz KP (pX zq (pX zr (fV 0)<|KN KQ qi) qi) Io<|LD _) ?_;intro _;dsimp only[IP];obtain⟨_,_,_,_,_,_,_,f,rfl,R⟩:=id i;refine HL<|IA R.hx T.kA T.kB Z<|HP _ _ ⟨Z,.inl ⟨_,SqL.of R.hp,Z⟩,HV<|IB Z ?_⟩;rcases Bm st.ps with e|⟨qs,p,e⟩
 .have g:f=[]:=BW (by rw[R.tp.length,Ab,e];rfl);rw[e]at k;subst g;exact Ia k
 .rw[Bo]at e;obtain⟨F,o⟩:=p;have tp:=R.tp;rw[e]at tp k;obtain⟨vs,c,b,d,_⟩:=Xi tp;rw[XR]at k;refine Je (by rw[b,Ae,AG];lia)<|HL<|IA R.hx T.kA T.kB Z ⟨_,Z,Ib R.hp ((b ▸ Pj vs _))<|IH d Z ⟨Z,k⟩⟩
theorem qp8 (T:Txt K mg a):FnOk P w K mg base Hw 2 a.r a.Bg (ap Zl) (iR a):=by
 refine T.bD.fn.ko qpy λH vs Q E I h=>?_;obtain⟨x,B,S,rd,st,bs,rs,c,d,rfl,t,ok,k⟩:=h;refine IE (qf (zb (Kx<|zf<|Ml (pv 0) T.kA T.dG (qje T) (I.mono Ud) T.bG.bd .nil IT) (rT JV) IG)
  (qf (sI 2 qpy.nd<|pX zq (Mp A0 PySem.F.slot_list_pop PySem.F.type_list_pop UN<|fV 0) qi)
  (qf (zb (pC Kl (pv 2)<|pv 1) (qj<|qz<|Jo A0 A5 A6 KF (fV 0)<|qd (zj<|aN 2<|qd (qv Jq (pv 1) qi) qg zm) qg zo) IG)
  (rT JV)))) ?_
 intro _;dsimp only[IP];obtain⟨D,rl,cn,s,i,v,A,G,rfl,R⟩:=id t;refine HL<|HW _ _ _ ⟨Z,R.hx,Z,x,B,_,rd,st,bs,rs,Z,t,IB Z ?_⟩;cases j:IW st.ps with
 |false =>rw[j,Pi j]at k;exact Ii (k H (KeepS.of<|Same.refl H) t)
 |true =>
  obtain⟨l,F,e⟩:=Re j;have tp:=R.tp;rw[e]at tp;obtain⟨vs,_,p,r,C⟩:=Xi tp;rw[j,e,To]at k;refine Ia<|HL<|IA R.hx T.kA T.kB Z ⟨.inl ⟨Z,_,SqL.of R.hp⟩,_,_,_,Z,Z,R.hp,p ▸ QM vs _,?_⟩;have M:G.dropLast=vs:=by rw[p,List.dropLast_concat]
  rw[M];have f:=R.setP (up':=vs) (ps':=l) C;have u:KeepS [x,s,i,v] H (upd H i<|.lst vs):=Tv (by simp);have q:=(qr (o:=.lst vs) (λz=>by rw[z,R.hp]at r;cases r)).trans r;generalize upd H i _=H1 at f u q |-;refine IH q Z<|HY<|HV<|Hx<|IK (λg=>?_)<|λg=>?_
  .have g:=HK g;rw[HI g]at k;refine HL<|IA f.hx T.kA T.kB Z ⟨.inl ⟨Z,_,SqL.of f.hp⟩,HY<|HV ⟨Ke _ _,λL y=>?_⟩⟩;dsimp only[];obtain⟨m,J⟩:=IY (o:=.tup<|K5 (F,HA<|d-1)) y;have ll:=ok.pl;have lr:=ok.rl;have lq:l.length+1=st.ps.length:=by rw[e,Ae];rfl
   have lv:vs.length=l.length:=by rw[C.length,Ab]
   refine(HW _ _ _ ⟨Z,Z,m _ _ f.hp,KI<|sZ,?_⟩);have R2:=(f.same m).setP (up':=vs++[.ref L]) (ps':=l++[(F,HA<|d-1)]) (by rw[Aq];exact(f.tp.same m).snoc J);exact k _ (λb o n e=>Tv (by simp) b o n<|m _ _<|u b o n e)<|Ic D rl cn s i v A _ ⟨Z,R2⟩
  .have g:¬F<d:=λz=>g<|HJ z;rw[HF g,Br]at k;exact k _ u<|Ic D rl cn s i v A vs ⟨Z,f⟩
def qtg (T:Txt K mg a):FnOk P w K mg base Hw 3 a.s a.Bh (ap aS) (iS a):=by
 refine T.lV.fn.ko qsh λH _ Q E t h=>?_;obtain⟨x,B,S,rd,st,bs,rs,c,d,rfl,q,ok,k⟩:=h;refine IE (qf (qz<|JG (pv 0) T.kA T.lJ (qp8 T) (t.mono Ud) T.bD.bd .nil IT<|aL 1)
  (qf (Jb (pv 0) JV Z)
  (rT JV))) ?_
 intro _;dsimp only[IP];obtain⟨_,_,_,j,i,l,_,_,rfl,R⟩:=id q;refine HL<|HW _ _ _ ⟨Z,R.hx,Z,HL<|Ic x B _ rd st bs rs c ⟨d,Z,q,ok,λ_ y u=>?_⟩⟩;obtain⟨m,g,f,_,_,_,s,r,v,p⟩:=u;cases v;refine(HL<|Hv _ _ _ _ ⟨Z,p.hx,T.kA,qp T.kB Ud,(show 9<1000 by decide),?_⟩);rw[show Ij (Aa "over") (.bl HG) (RL (.ref g) (.ref f) (.ref j) (.bl st.over) (.int st.day) st.bv (.int st.units) (.ref i)<|.ref l)=RL (.ref g) (.ref f) (.ref j) (.bl HG) (.int st.day) st.bv (.int st.units) (.ref i) (.ref l) by with_unfolding_all rfl];exact k _ (λb o n e=>Tv (by simp) b o n<|y b o n e)<|Ic m g f j i l s r ⟨Z,p.setF (o':=HG) (u':=st.units)⟩
def qok (T:Txt K mg a):FnOk P w K mg base Hw 11 a.J a.T (ap Pq) (VP a 0):=by refine T.gC.fn.ko qjb λH _ Q E _ h=>?_;obtain⟨x,B,S,_,_,_,_,s,rfl,d,b,k⟩:=h;refine IE (rT<|Rp (pC KP (fV 0) Io) (fV 0) qrx) ?_;intro _;dsimp only[IP];obtain⟨_,_,_,_,_,_,_,_,rfl,R⟩:=id d;obtain⟨c,rfl⟩:=b;exact HL<|IA R.hx T.kA T.kB Z ⟨Z,Hx<|Je c<|HL<|IA R.hx T.kA T.kB Z<|k H<|Same.refl H⟩
def cH (T:Txt K mg a){i e:Nat}(n:11<=e)(p:FnOk P w K mg base Hw e a.J a.T (ap Pq) (VP a i)):FnOk P w K mg base Hw (e+1) a.I a.S (ap Pr) (VO a i):=by
 refine T.gK.fn.ko qkm λH _ Q E g h=>?_;obtain⟨x,B,S,rd,st,bs,rs,c,s,rfl,j,tok,ok,f,k⟩:=h;refine IE (qf (sI 1 qkm.nd<|Ml (pv 0) T.kA T.gZ p (g.mono<|Al _) T.gC.bd .nil IT)
  (qf (zb (pC KP (pv 1) Io) (rT Io) IG)
  (rT<|rJ T.lE (qyo T) (g.mono n)<|qd (fV 0) (aN 1<|qd (fV 0) (qd (fV 0) qg KZ) KZ) KZ))) ?_
 intro _;dsimp only[IP];obtain⟨_,_,cn,_,m,_,_,l,rfl,R⟩:=id j;refine HL<|HW _ _ _ ⟨Z,R.hx,Z,x,B,_,rd,st,bs,rs,s,Z,j,f,λo b=>?_⟩;have R:=R.same b;cases s with|none=>exact(HL ⟨Z,Hx<|Je Z<|k o HD b Z⟩)|some d =>refine HL ⟨Z,Hx<|JU sh ?_⟩;exact HL<|IA R.hx T.kA T.kB Z<|HY<|IA R.hx T.kA T.kB Z<|HL<|IA R.hx T.kA T.kB Z<|Ic cn m rd.unit d st.units bs rs st.ps ⟨Z,R.kd.same R.sm,tok,⟨l,R.hp,R.tp⟩,ok.ps,XF f ok.d0,ok.u1,λH' r s lst=>k H' r (b.trans s) lst⟩
def qo7 (T:Txt K mg a):FnOk P w K mg base Hw 12 a.I a.S (ap Pr) (VO a 0):=cH T Ud<|qok T
def qZ (T:Txt K mg a){g f:Nat}(G:FnOk P w K mg base Hw f a.I a.S (ap Pr) (VO a g)):FnOk P w K mg base Hw (f+1) a.J a.T (ap Pq) (VP a<|g+1):=by
 refine T.gC.fn.ko qjb λH _ Q E r h=>?_;obtain⟨x,B,S,_,_,_,_,s,rfl,u,q,k⟩:=h;refine IE (rT<|Rp (pC KP (fV 0) Io) (fV 0)<|Ml (fV 0) T.kA T.bO G (r.mono<|Al _) T.gK.bd .nil IT) ?_;intro _;dsimp only[IP];obtain⟨_,_,_,_,_,_,_,_,rfl,R⟩:=id u;rcases q with ⟨b,rfl⟩|⟨y,t,n,l,st',c,j,D,C,b,d,v,i,m,o⟩
 .exact(HL<|IA R.hx T.kA T.kB Z ⟨Z,Hx<|Je b<|HL<|IA R.hx T.kA T.kB Z<|k H<|Same.refl H⟩)
 .obtain⟨dy,rly,cny,pry,ppy,pgy,ury,upy,eS,Y⟩:=id d;refine(HL<|IA R.hx T.kA T.kB Z ⟨Z,Hx<|JU (by rw[b];exact sh)<|HL<|IA R.hx T.kA T.kB Z<|HW _ _ _ ⟨b,Y.hx,Z,y,t,n,l,st',c,j,D,C,(by rw[b];rfl),d,v,i,m,λF _ p A=>?_⟩⟩);obtain rfl:=XS (λx e=>XF (e ▸ m) i.d0) A o;exact k F p
def qol (T:Txt K mg a):FnOk P w K mg base Hw 13 a.J a.T (ap Pq) (VP a 1):=qZ T<|qo7 T
def qo8 (T:Txt K mg a):FnOk P w K mg base Hw 14 a.I a.S (ap Pr) (VO a 1):=cH T Ud<|qol T
def qom (T:Txt K mg a):FnOk P w K mg base Hw 15 a.J a.T (ap Pq) (VP a 2):=qZ T<|qo8 T
def qo9 (T:Txt K mg a):FnOk P w K mg base Hw 16 a.I a.S (ap Pr) (VO a 2):=cH T Ud<|qom T
def qY (T:Txt K mg a):FnOk P w K mg base Hw 17 a.J a.T (ap Pq) (VP a 3):=qZ T<|qo9 T
def qjf (T:Txt K mg a):FnOk P w K mg base Hw 18 a.I a.S (ap Pr) (VO a 3):=cH T Ud<|qY T
theorem qmn (T:Txt K mg a):FnOk P w K mg base Hw 19 a.t a.Bi (ap ck) (iH a):=by
 refine T.dZ.fn.ko rF λH _ Q E m h=>?_;obtain⟨x,B,S,rd,st,bs,rs,c,d,s,r,rfl,i,tok,ok,g,lst,k⟩:=h;refine IE (qf (sI 2 rF.nd<|Ml (pv 0) T.kA T.gZ (qY T) (m.mono Ud) T.gC.bd .nil IT)
  (qf (zb (PW.pt<|Kh (pC KP (pv 2) Io)<|Ku<|pC Kg (pv 1)<|pv 2) (rT JV) IG)
  (qf (sI 3 rF.nd<|Ml (pv 0) T.kA T.bO (qjf T) (m.mono Ud) T.gK.bd .nil IT)
  (rT<|Rv (Kz KP (pv 3) Io<|LD _)<|Lp<|Kz Kg (pv 1) (pv 3)<|LD _)))) ?_
 intro _;obtain⟨_,_,_,_,_,_,_,_,rfl,R⟩:=id i;have u:∀z,s=HA z->0<=z:=λz e=>XF (e ▸ g) ok.d0;refine HL<|HW _ _ _ ⟨Z,R.hx,Z,x,B,_,rd,st,bs,rs,s,Z,i,g,λn b=>?_⟩;have R:=R.same b;cases s with
 |none=>exact(HL ⟨Z,Hx<|Je Z<|Ii<|k n b⟩)
 |some z =>
  refine HL ⟨Z,Hx<|JU sh<|HY<|HV<|Hx<|IK (λf=>?_)<|λf=>?_⟩
  .have f:=HK f;have e:under (HA z) r d=HH:=by unfold under;simp only;rw[HM<|sZ];rfl
   rw[e]at k;exact k n b
  .have f:¬d<=z:=λq=>f<|HJ q;refine HL<|HW _ _ _ ⟨Z,R.hx,Z,x,B,_,rd,st,bs,rs,c,_,Z,i.same b,tok,ok,g.same b,λo p t j=>?_⟩;obtain rfl:=XS u j lst;have k:=k o<|b.trans t;cases p with
   |none =>
    have e:under (HA z) HD d=HG:=by unfold under;simp only;rw[HJ<|sZ];rfl
    rw[e]at k;exact(HL ⟨Z,Hx<|Je Z k⟩)
   |some l =>
    have e:under (HA z) (HA l) d=decide (d<=l):=by unfold under;simp only;rw[HJ<|sZ];rfl
    rw[e]at k;exact HL ⟨Z,Hx<|JU sh<|HY<|HV k⟩
def qmf (T:Txt K mg a):FnOk P w K mg base Hw 1 a.u a.Bj (ap aR) (Sk a):=by
 refine T.bQ.fn.ko qsi λH _ Q E _ h=>?_;obtain⟨x,i,c,cn,b,ov,f,_,d,rd,rfl,hx,ad,ae,u,k⟩:=h;refine IE (qf (Jb (pv 0) (pv 1) Z)
  (qf (Jb (pv 0) (pv 2) Z)
  (qf (Jb (pv 0) (ZD (fV 0) Z) Z)
  (qf (Jb (pv 0) (zh qg) Z)
  (qj<|Jb (pv 0) Pl Z))))) ?_
 intro _;dsimp only[IP];obtain⟨_,_,_,_,_,_,_,_,_,_,_,R,_⟩:=ae;rcases ad with rfl|⟨dy,D,un,n,l,rfl⟩
 .have b0:SameBut x H H:=λ_ _ _ e=>e;have x0:H x=HA (.ins a.A i<|ON (.ref c) cn b ov):=hx;have g0:=R;refine(HY<|Hv _ _ _ _ ⟨Z,x0,T.kA,qp T.kB Ud,(show 4<1000 by decide),?_⟩);rw[show Ij (Aa "day") (.int d) (ON (.ref c) cn b ov)=(VL (.ref c) cn b ov<|.int d) by with_unfolding_all rfl];have U:SameBut x H (upd H x<|.ins a.A i<|VL (.ref c) cn b ov<|.int d):=b0.set;have Y:=qk (H:=H) (a:=x) (o:=.ins a.A i<|VL (.ref c) cn b ov<|.int d);have X:=(qr (o:=.ins a.A i<|VL (.ref c) cn b ov<|.int d) u).trans g0;generalize upd H x _=H1 at U Y X |-;refine(HY<|Hv _ _ _ _ ⟨Z,Y,T.kA,qp T.kB Ud,(show 5<1000 by decide),?_⟩);rw[show Ij (Aa "base") f (VL (.ref c) cn b ov<|.int d)=(VJ (.ref c) cn b ov (.int d) f) by with_unfolding_all rfl];have O:SameBut x H (upd H1 x<|.ins a.A i<|VJ (.ref c) cn b ov (.int d) f):=U.set;have G:=qk (H:=H1) (a:=x) (o:=.ins a.A i<|VJ (.ref c) cn b ov (.int d) f);have M:=(qr (o:=.ins a.A i<|VJ (.ref c) cn b ov (.int d) f) u).trans X;generalize upd H1 x _=H2 at O G M |-;refine(HL<|IA G T.kA T.kB Z<|IA M T.k7 T.k8 Z<|HL<|Hv _ _ _ _ ⟨Z,G,T.kA,qp T.kB Ud,(show 6<1000 by decide),?_⟩);rw[show Ij (Aa "units") (.int rd.many) (VJ (.ref c) cn b ov (.int d) f)=(VI (.ref c) cn b ov (.int d) f<|.int rd.many) by with_unfolding_all rfl];have I:SameBut x H (upd H2 x<|.ins a.A i<|VI (.ref c) cn b ov (.int d) f<|.int rd.many):=O.set;have F:=qk (H:=H2) (a:=x) (o:=.ins a.A i<|VI (.ref c) cn b ov (.int d) f<|.int rd.many);have g3:=(qr (o:=.ins a.A i<|VI (.ref c) cn b ov (.int d) f<|.int rd.many) u).trans M;generalize upd H2 x _=H3 at I F g3 |-;refine⟨JZ,λj s=>?_⟩;obtain⟨N,g⟩:=IY (o:=.lst []) s;have A:=N _ _ F;have q:j≠x:=λz=>by rw[z,F]at s;cases s
  have W:H j=HD:=I.free q s;have C:=I.trans<|SameBut.of N;generalize upd H3 j _=J3 at N g A C  |-;refine(HL<|Hv _ _ _ _ ⟨Z,A,T.kA,qp T.kB Ud,(show 7<1000 by decide),?_⟩);rw[show Ij (Aa "pauses") (.ref j) (VI (.ref c) cn b ov (.int d) f<|.int rd.many)=(VH (.ref c) cn b ov (.int d) f (.int rd.many)<|.ref j) by with_unfolding_all rfl];have L:SameBut x H (upd J3 x<|.ins a.A i<|VH (.ref c) cn b ov (.int d) f (.int rd.many)<|.ref j):=C.set;have J:=qk (H:=J3) (a:=x) (o:=.ins a.A i<|VH (.ref c) cn b ov (.int d) f (.int rd.many)<|.ref j);have g:=(qr (o:=.ins a.A i<|VH (.ref c) cn b ov (.int d) f (.int rd.many)<|.ref j) q).trans g;generalize upd J3 x _=H4 at L J g |-;refine λm r=>?_;obtain⟨v,p⟩:=IY (o:=.dK []) r;have B:=v _ _ J;have t:m≠x:=λz=>by rw[z,J]at r;cases r
  have V:H m=HD:=L.free t r;have y:=L.trans<|SameBut.of v;have g:=v _ _ g;generalize upd H4 m _=J4 at v p B y g |-;refine(HL<|Hv _ _ _ _ ⟨Z,B,T.kA,qp T.kB Ud,(show 8<1000 by decide),?_⟩);rw[show Ij (Aa "grants") (.ref m) (VH (.ref c) cn b ov (.int d) f (.int rd.many)<|.ref j)=(JW (.ref c) cn b ov (.int d) f (.int rd.many) (.ref j)<|.ref m) by with_unfolding_all rfl];have b5:SameBut x H (upd J4 x<|.ins a.A i<|JW (.ref c) cn b ov (.int d) f (.int rd.many) (.ref j)<|.ref m):=y.set;have S:=qk (H:=J4) (a:=x) (o:=.ins a.A i<|JW (.ref c) cn b ov (.int d) f (.int rd.many) (.ref j)<|.ref m);have g:=(qr (o:=.ins a.A i<|JW (.ref c) cn b ov (.int d) f (.int rd.many) (.ref j)<|.ref m) q).trans g;have p:=(qr (o:=.ins a.A i<|JW (.ref c) cn b ov (.int d) f (.int rd.many) (.ref j)<|.ref m) t).trans p;generalize upd J4 x _=H5 at b5 S g p |-;exact k H5 j m b5 W V S g p
 .have b0:SameBut x H H:=λ_ _ _ e=>e;have x0:H x=HA (.ins a.A i<|JW (.ref c) cn b ov dy D un n l):=hx;have g0:=R;refine(HY<|Hv _ _ _ _ ⟨Z,x0,T.kA,qp T.kB Ud,(show 9<1000 by decide),?_⟩);rw[show Ij (Aa "day") (.int d) (JW (.ref c) cn b ov dy D un n l)=(JW (.ref c) cn b ov (.int d) D un n l) by with_unfolding_all rfl];have U:SameBut x H (upd H x<|.ins a.A i<|JW (.ref c) cn b ov (.int d) D un n l):=b0.set;have Y:=qk (H:=H) (a:=x) (o:=.ins a.A i<|JW (.ref c) cn b ov (.int d) D un n l);have X:=(qr (o:=.ins a.A i<|JW (.ref c) cn b ov (.int d) D un n l) u).trans g0;generalize upd H x _=H1 at U Y X |-;refine(HY<|Hv _ _ _ _ ⟨Z,Y,T.kA,qp T.kB Ud,(show 9<1000 by decide),?_⟩);rw[show Ij (Aa "base") f (JW (.ref c) cn b ov (.int d) D un n l)=(JW (.ref c) cn b ov (.int d) f un n l) by with_unfolding_all rfl];have O:SameBut x H (upd H1 x<|.ins a.A i<|JW (.ref c) cn b ov (.int d) f un n l):=U.set;have G:=qk (H:=H1) (a:=x) (o:=.ins a.A i<|JW (.ref c) cn b ov (.int d) f un n l);have M:=(qr (o:=.ins a.A i<|JW (.ref c) cn b ov (.int d) f un n l) u).trans X;generalize upd H1 x _=H2 at O G M |-;refine(HL<|IA G T.kA T.kB Z<|IA M T.k7 T.k8 Z<|HL<|Hv _ _ _ _ ⟨Z,G,T.kA,qp T.kB Ud,(show 9<1000 by decide),?_⟩);rw[show Ij (Aa "units") (.int rd.many) (JW (.ref c) cn b ov (.int d) f un n l)=(JW (.ref c) cn b ov (.int d) f (.int rd.many) n l) by with_unfolding_all rfl];have I:SameBut x H (upd H2 x<|.ins a.A i<|JW (.ref c) cn b ov (.int d) f (.int rd.many) n l):=O.set;have F:=qk (H:=H2) (a:=x) (o:=.ins a.A i<|JW (.ref c) cn b ov (.int d) f (.int rd.many) n l);have g3:=(qr (o:=.ins a.A i<|JW (.ref c) cn b ov (.int d) f (.int rd.many) n l) u).trans M;generalize upd H2 x _=H3 at I F g3 |-;refine⟨JZ,λj s=>?_⟩;obtain⟨N,g⟩:=IY (o:=.lst []) s;have A:=N _ _ F;have q:j≠x:=λz=>by rw[z,F]at s;cases s
  have W:H j=HD:=I.free q s;have C:=I.trans<|SameBut.of N;generalize upd H3 j _=J3 at N g A C  |-;refine(HL<|Hv _ _ _ _ ⟨Z,A,T.kA,qp T.kB Ud,(show 9<1000 by decide),?_⟩);rw[show Ij (Aa "pauses") (.ref j) (JW (.ref c) cn b ov (.int d) f (.int rd.many) n l)=(JW (.ref c) cn b ov (.int d) f (.int rd.many) (.ref j) l) by with_unfolding_all rfl];have L:SameBut x H (upd J3 x<|.ins a.A i<|JW (.ref c) cn b ov (.int d) f (.int rd.many) (.ref j) l):=C.set;have J:=qk (H:=J3) (a:=x) (o:=.ins a.A i<|JW (.ref c) cn b ov (.int d) f (.int rd.many) (.ref j) l);have g:=(qr (o:=.ins a.A i<|JW (.ref c) cn b ov (.int d) f (.int rd.many) (.ref j) l) q).trans g;generalize upd J3 x _=H4 at L J g |-;refine λm r=>?_;obtain⟨v,p⟩:=IY (o:=.dK []) r;have B:=v _ _ J;have t:m≠x:=λz=>by rw[z,J]at r;cases r
  have V:H m=HD:=L.free t r;have y:=L.trans<|SameBut.of v;have g:=v _ _ g;generalize upd H4 m _=J4 at v p B y g |-;refine(HL<|Hv _ _ _ _ ⟨Z,B,T.kA,qp T.kB Ud,(show 9<1000 by decide),?_⟩);rw[show Ij (Aa "grants") (.ref m) (JW (.ref c) cn b ov (.int d) f (.int rd.many) (.ref j) l)=(JW (.ref c) cn b ov (.int d) f (.int rd.many) (.ref j)<|.ref m) by with_unfolding_all rfl];have b5:SameBut x H (upd J4 x<|.ins a.A i<|JW (.ref c) cn b ov (.int d) f (.int rd.many) (.ref j)<|.ref m):=y.set;have S:=qk (H:=J4) (a:=x) (o:=.ins a.A i<|JW (.ref c) cn b ov (.int d) f (.int rd.many) (.ref j)<|.ref m);have g:=(qr (o:=.ins a.A i<|JW (.ref c) cn b ov (.int d) f (.int rd.many) (.ref j)<|.ref m) q).trans g;have p:=(qr (o:=.ins a.A i<|JW (.ref c) cn b ov (.int d) f (.int rd.many) (.ref j)<|.ref m) t).trans p;generalize upd J4 x _=H5 at b5 S g p |-;exact k H5 j m b5 W V S g p
def qon (T:Txt K mg a):FnOk P w K mg base Hw 2 a.v a.Bk (ap cN) (iV a):=by
 refine T.dX.fn.ko qnu λH _ Q E hr h=>?_;obtain⟨x,B,S,rd,st,_,_,d,rfl,D,k⟩:=h;refine IE (qf (qz<|JG (pv 0) T.kA T.dC (qmf T) (hr.mono Ud) T.bQ.bd .nil IT<|aN 1<|qd Io qg ql)
  (rT JV)) ?_
 intro _;obtain⟨v,rl,cn,l,_,_,A,_,rfl,R⟩:=id D;have t:rl≠x:=λz=>by obtain⟨_,_,_,_,_,_,_,_,_,_,_,i,_⟩:=R.rl;rw[z,R.bx]at i;cases i
 refine HL<|HW _ _ _ ⟨Z,R.hx,Z,HL<|Ic x v rl (.ref cn) (.ref l) (.bl st.over) .non _<|HP d rd ⟨Z,R.hx,.inr<|J0 _ _ _ _ _ Z,R.rl.same R.sm,t,λy g p j f m F u s=>?_⟩⟩;have q:=By<|Pg R.hx R.hr;have r:l≠g:=λz=>by rw[<- z,R.hr]at f;cases f
 have C:Same B y:=λb o e=>j b o (Iz e R.bx)<|R.sm b o e;refine k y [x,l,g,p] (λb o n e=>j b o (λz=>n (by rw[z];simp)) e) (λb c=>?_)<|Ic v rl cn l g p A [] ⟨Z,r,F,j _ _ q R.hr,Zc j R.hx R.tr,u,.nil,s,R.rl,R.kd,C,R.bx,R.br,R.sm.free f,R.sm.free m⟩;rcases Ax.mp c with z|c
 .exact .inl (by rw[z];simp)
 .rcases Ax.mp c with z|c
  .exact .inl (by rw[z];simp)
  .rcases Ax.mp c with z|c
   .exact .inr (by rwa[z])
   .exact .inr (by rwa[Aj.mp c])
theorem qpa (T:Txt K mg a):FnOk P w K mg base Hw 1 a.w a.Bl (ap cR) (iM a):=by
 refine T.fK.fn.ko Xt λH _ Q E L h=>?_;obtain⟨x,B,S,rd,st,_,_,c,d,rfl,Y,ok,kn,k⟩:=h;refine IE (qf (sI 2 Xt.nd<|Mo (Ji L) (fV 0) (pv 1) qi ⟨Z,Z,Z,Z⟩)
  (qf (JD Av Z (Jk<|ZD (fV 0) Z) (Kw Z<|Ip (gI 3 Xt.nd)<|Ip (gI 4 Xt.nd)<|Ip (gI 5 Xt.nd) K0) (qj (zb (PW.pt<|KC (pC JO (pv 3)<|pv 1)<|KW<|pC Kl (pv 2)<|pv 5) (qf (Pk (Ji L) (fV 0) (pv 1) (qv IL (pv 2) qi) Z)
  (qf (qw8 (pv 0) (pv 4) Ui)
  (rT JV))) IG)))
  (rT JV))) ?_
 intro _;dsimp only[IP];obtain⟨dx,rl,cn,u,s,f,U,X,rfl,R⟩:=id Y;obtain⟨_,_,_,pl,_,_,_,_,_,_,us,O,_,_,_,J,G⟩:=R.rl.same R.sm;refine HL<|IA R.hx T.kA T.kB Z ⟨f,Z,.inl ⟨_,.inl R.hg⟩,HL ⟨_,DGet.k (k:=.inr d) R.hg,?_⟩⟩;rw[Ul ok.gi d];refine HL<|IA R.hx T.kA T.kB Z<|IA O T.k7 T.k8 Z ⟨_,Z,⟨_,SqL.of J⟩,KE (K:=K) (a:=pl) (xs:=us) (λi σ H'=>H'=H/\(∃C D A:tX,σ=[HA<|.ref x,HA<|.str d,HA<|.int<|gv st.gr d,C,D,A])/\((rd.longer.take i).find? λt=>decide (t.1=d) && decide (gv st.gr d<t.2.2))=HD) ⟨Z,HW HD HD HD Z,Z⟩ (λi σ H' _ h=>SqL.of<|h.1 ▸ J) ?_ ?_⟩
 .intro i v σ H' hx w';obtain⟨rfl,⟨C,D,A,rfl⟩,l⟩:=w';obtain⟨b,t,rfl,m,N⟩:=G.get' hx;rw[Ai]at m;cases p:rd.longer[i]? with
  |none=>rw[p]at m;cases m
  |some z =>
   rw[p]at m;cases m;obtain⟨F,r,I⟩:=z;refine HP _ _ ⟨Z,SqT.of N,Z,_,_,Z,_,_,Z,_,_,Z,Z,?_⟩;refine HY ⟨Z,Hx<|IK (λj=>?_)<|λj=>Ia ?_⟩
   .have j:=V.str.inj<|HK j;refine HY<|HV<|Hx<|IK (λg=>?_)<|λg=>?_
    .have g:=HK g;have ef:=qv8 l p (by simp only;rw[HJ j,HJ g];rfl);have lg:=ok.gl;have lr:=ok.rl;refine(HL<|HV<|HL<|IA R.hx T.kA T.kB Z<|HL<|HP f _ ⟨Z,DPut.k (k:=.inr d) R.hg (by rw[Bv];lia),?_⟩);dsimp only[];have y:=R.setG (gr':=JT st.gr (.inr d)<|.int<|gv st.gr d+1);have M:KeepS [x,u,s,f] H' (upd H' f<|.dK<|JT st.gr (.inr d)<|.int<|gv st.gr d+1):=Tv (by simp);generalize upd H' f _=H1 at y M |-;refine(HL<|J0 _ _ _ _ (_) ⟨Z,y.hx,T.kA,qp T.kB Ud,Z,HL<|HV<|HP _ _ ⟨y.hx,(show 9<1000 by decide),?_⟩⟩);rw[show Ij (Aa "units") (V.int<|st.units+r) (RL (.ref rl) (.ref cn) (.ref u) (.bl st.over) (.int st.day) st.bv (.int st.units) (.ref s)<|.ref f)=RL (.ref rl) (.ref cn) (.ref u) (.bl st.over) (.int st.day) st.bv (.int<|st.units+r) (.ref s) (.ref f) by with_unfolding_all rfl];exact k _ (F,r,I) (λb o n e=>Tv (by simp) b o n<|M b o n e) ef<|Ic dx rl cn u s f U X ⟨Z,y.setF (o':=st.over) (u':=st.units+r)⟩
    .have g:¬gv st.gr d<I:=λq=>g<|HJ q;exact⟨Z,HW _ _ _ Z,ZK l p (by simp only;rw[HM g,BI])⟩
   .have j:¬F=d:=λq=>j<|HJ<|HR V.str q;exact⟨Z,HW _ _ _ Z,ZK l p (by simp only;rw[HM j,Cy])⟩
 .intro σ H' w';obtain⟨rfl,⟨C,D,A,rfl⟩,l⟩:=w';have W:us.length=rd.longer.length:=by rw[G.length,Ab]
  rw[W,Bc]at l;exact kn l
theorem qyq (T:Txt K mg a):FnOk P w K mg base Hw 2 a.x a.Bm (ap Zk) (iQ a):=by
 refine T.dW.fn.ko qx0 λH _ Q E p h=>?_;obtain⟨x,B,S,rd,st,bs,rs,c,d,rfl,l,ok,s,k⟩:=h;refine IE (qf (zb (zf<|Ml (pv 0) T.kA T.dG (qje T) (p.mono Ud) T.bG.bd .nil IT) (rT JV) IG)
  (qf (qz<|Jo A0 A5 A6 KF (fV 0)<|qd (zj<|aN 1<|qd Io qg ql) qg zo)
  (rT JV))) ?_
 intro _;dsimp only[IP];obtain⟨y,rl,cn,r,m,u,q,i,rfl,R⟩:=id l;refine HL<|HW _ _ _ ⟨Z,R.hx,Z,x,B,_,rd,st,bs,rs,Z,l,IB Z ?_⟩;cases g:IW st.ps with
 |true=>exact Ii (s g)
 |false =>
  refine Ia<|HL<|IA R.hx T.kA T.kB Z ⟨.inl ⟨Z,_,SqL.of R.hp⟩,HL ⟨Ke _ _,λv j=>?_⟩⟩;obtain⟨f,t⟩:=IY (o:=.tup<|K5 (d,HD)) j;have ll:=ok.pl;have lr:=ok.rl;have lv:i.length=st.ps.length:=by rw[R.tp.length,Ab]
  refine(HW _ _ _ ⟨Z,Z,f _ _ R.hp,KI<|sZ,?_⟩);have R2:=(R.same f).setP (up':=i++[.ref v]) (ps':=st.ps++[(d,HD)]) (by rw[Aq];exact(R.tp.same f).snoc t);exact k _ (λb o n e=>Tv (by simp) b o n<|f _ _ e) g<|Ic y rl cn r m u q _ ⟨Z,R2⟩
theorem quz (T:Txt K mg a):FnOk P w K mg base Hw 20 a.y a.Bn (ap Z1) (iF a):=by
 refine T.dQ.fn.ko qud λH _ Q E A h=>?_;obtain⟨x,B,S,rd,st,bs,rs,c,d,F,k1,s,r,rfl,D,tok,ok,M,lst,k⟩:=h;refine IE (qf (zb (pC JO (pv 1) zg) (rT<|JG (pv 0) T.kA T.m9 (qtg T) (A.mono Ud) T.lV.bd .nil IT<|aL 2) IG)
  (qf (zb (Kx<|zf<|JG (pv 0) T.kA T.mC (qmn T) (A.mono Ud) T.dZ.bd .nil IT<|aL 2) (rT JV) IG)
  (qf (zb (pC JO (pv 1) zg) (rT<|JG (pv 0) T.kA T.mK (qon T) (A.mono Ud) T.dX.bd .nil IT<|aL 2) IG)
  (qf (zb (pC JO (pv 1) zg) (rT<|JG (pv 0) T.kA T.mY (qpa T) (A.mono Ud) T.fK.bd .nil IT<|aL 3) IG)
  (rT<|Rp (pC JO (pv 1) zg) (JG (pv 0) T.kA T.mF (qyq T) (A.mono Ud) T.dW.bd .nil IT<|aL 2)<|JG (pv 0) T.kA T.lJ (qp8 T) (A.mono Ud) T.bD.bd .nil IT<|aL 2))))) ?_
 intro _;obtain⟨_,_,_,N,L,Y,_,_,rfl,R⟩:=id D;refine HL ⟨Z,Hx<|IK (λf=>?_)<|λf=>?_⟩
 .have f:=V.str.inj<|HK f;exact(HL<|HW _ _ _ ⟨Z,R.hx,Z,HL<|Ic x B _ rd st bs rs c ⟨d,Z,D,ok,λC K1 U=>(k C _ K1 Fresh.refl).2 _ (by unfold JQ;rw[HI f]) U⟩⟩)
 .have f:¬F=Aa "ends" := λq=>f<|HJ<|HR V.str q;refine HL<|HW _ _ _ ⟨Z,R.hx,Z,HL<|Ic x B _ rd st bs rs c<|HW d s r ⟨Z,D,tok,ok,M,lst,λC m=>?_⟩⟩;have l:=D.same m;have R:=R.same m;cases I:under s r d with
  |false=>exact(Hx<|Ii<|(k C _ (KeepS.of m) Fresh.refl).1 (by unfold JQ;rw[HF f,HI I]) l)
  |true =>
   have j:¬under s r d=HH:=λz=>by rw[I]at z;cases z
   refine Hx<|Ia<|HL ⟨Z,Hx<|IK (λg=>?_)<|λg=>?_⟩
   .have g:=V.str.inj<|HK g;exact(HL<|HW _ _ _ ⟨Z,R.hx,Z,HL<|Ic x B _ rd st bs rs d ⟨Z,l,λp S2 y W R2=>(k p S2 (λb o n e=>y b o n<|m _ _ e)<|λb O=>(W b O).imp id λz=>m.free z).2 _ (by unfold JQ;rw[HF f,HF j,HI g]) R2⟩⟩)
   .have g:¬F=Aa "anew" := λq=>g<|HJ<|HR V.str q;refine HL ⟨Z,Hx<|IK (λi=>?_)<|λi=>?_⟩
    .have i:=V.str.inj<|HK i;refine HL<|HW _ _ _ ⟨Z,R.hx,Z,HL<|Ic x B _ rd st bs rs c ⟨k1,Z,l,ok,λJ=>?_,λp t y X R2=>?_⟩⟩
     .exact(k C _ (KeepS.of m) Fresh.refl).1 (by unfold JQ;rw[HF f,HF j,HF g,HI i,J]) l
     .exact(k p _ (λb o n e=>y b o n<|m _ _ e) Fresh.refl).2 _ (by unfold JQ;rw[HF f,HF j,HF g,HI i,X]) R2
    .have i:¬F=Aa "longer" := λq=>i<|HJ<|HR V.str q;refine HL ⟨Z,Hx<|IK (λu=>?_)<|λu=>?_⟩
     .have u:=V.str.inj<|HK u;refine HL<|HW _ _ _ ⟨Z,R.hx,Z,HL<|Ic x B _ rd st bs rs c ⟨d,Z,l,ok,λv=>?_,λp y v R2=>?_⟩⟩
      .exact(k C _ (KeepS.of m) Fresh.refl).1 (by unfold JQ;rw[HF f,HF j,HF g,HF i,HI u,HI v]) l
      .exact(k p _ (λb o n e=>y b o n<|m _ _ e) Fresh.refl).2 _ (by unfold JQ;rw[HF f,HF j,HF g,HF i,HI u,v,HF Ud]) R2
     .have u:¬F=Aa "still" := λq=>u<|HJ<|HR V.str q;refine HL<|HW _ _ _ ⟨Z,R.hx,Z,HL<|Ic x B _ rd st bs rs c ⟨d,Z,l,ok,λp y R2=>?_⟩⟩;have G:KeepS [x,N,L,Y] H p:=λb o n e=>y b o n<|m _ _ e;cases v:IW st.ps with|true=>exact(k p _ G Fresh.refl).2 _ (by unfold JQ;rw[HF f,HF j,HF g,HF i,HF u,HI v]) R2|false =>rw[Pi v]at R2;exact(k p _ G Fresh.refl).1 (by unfold JQ;rw[HF f,HF j,HF g,HF i,HF u,v,HF Ud]) R2
def qyr (T:Txt K mg a):FnOk P w K mg base Hw 21 a.z a.Bo (ap Zj) (iT a):=by
 refine T.lZ.fn.ko qpz λH _ Q E hr h=>?_;obtain⟨x,B,S,rd,st,bs,rs,c,d,n,f,s,r,rfl,hR,tok,ae,ok,hB,lst,k⟩:=h;refine IE (qf (sI 4 qpz.nd<|JG (fV 0) T.k7 T.nH (quy T) (hr.mono Ud) T.lB.bd .nil IT<|aL 3)
  (qf (zb (PW.pt<|Kh (pC JO (pv 4) zg)<|Kh (zf<|fV 0)<|Ku<|Kx<|zf<|JG (pv 0) T.kA T.mG (quz T) (hr.mono Ud) T.dQ.bd .nil IT<|aN 4<|aN 2<|aL 3) (rT JV) IG)
  (qf (qz<|Jo A0 A5 A6 KF (fV 0)<|qd (zj<|aN 1<|aN 2<|aL 4) qg zo)
  (rT JV)))) ?_
 intro _;dsimp only[IP];obtain⟨_,rl,_,C,A,D,_,_,rfl,R⟩:=id hR;have j:=R.rl.same R.sm;obtain⟨_,_,_,_,_,_,_,_,_,_,_,h1,_⟩:=id j;refine HL<|IA R.hx T.kA T.kB Z<|HW _ _ _ ⟨Z,h1,Z,HL<|HW rl f rd ⟨Z,j,ae,λU g=>?_⟩⟩;have u:=hR.same g;have X:=R.same g;have N:∀H' y,KeepS [x,C,A,D] H H'->Fresh H [x,C,A,D] y->RunAt a B H' x y rd st bs rs->IZ rd st s r n d f=(st,HH)->Q (.bl HH) H':=λH' y K' F' R' e=>by have:=k H' y K' F';rw[e]at this;exact this R'
 refine HL ⟨Z,Hx<|IK (λi=>Ii ?_)<|λi=>?_⟩
 .have i:=V.str.inj<|HK i;exact N U _ (KeepS.of g) Fresh.refl u (by unfold IZ;rw[HI<|.inl i])
 .have i:¬Ik rd f=Aa "" := λq=>i<|HJ<|HR V.str q;refine HL<|IA X.hx T.kA T.kB Z<|Hx<|IK (λL=>Ii ?_)<|λL=>?_
  .exact N U _ (KeepS.of g) Fresh.refl u (by unfold IZ;rw[HI<|.inr L])
  .have I:¬(Ik rd f=Aa "" \/ st.over=HG):=λz=>z.elim i L;refine HL<|HW _ _ _ ⟨Z,X.hx,Z,Jw<|Ic x B _ rd st bs rs c<|J0 d _ f s r ⟨Z,u,tok,ok,hB.same g,lst,λH2 S2 Y F2=>⟨λen R2=>?_,λt es R2=>?_⟩⟩⟩
   .exact(Hx<|Ii<|N H2 S2 (λb o n e=>Y b o n<|g _ _ e) (λb M=>(F2 b M).imp id λz=>g.free z) R2 (by unfold IZ;rw[HF I,en]))
   .have k:=k;have ef:IZ rd st s r n d f=({t with rows:=t.rows++[(n,d,Ik rd f)]},HG):=by unfold IZ;rw[HF I,es]
    rw[ef]at k;obtain⟨O,W,ad,p,m,v,G,ah,rfl,l⟩:=R2;refine Hx<|Ia<|HL<|IA l.hx T.kA T.kB Z ⟨.inl ⟨Z,_,SqL.of l.hr⟩,Jw ⟨Kk _ _ _,λq3 af=>?_⟩⟩;obtain⟨F,e3⟩:=IY (o:=.tup<|TV (n,d,Ik rd f)) af;have lr:t.rows.length<=400:=by rw[qI es];exact ok.rl
    have lv:G.length=t.rows.length:=by rw[l.tr.length,Ab]
    refine(HW _ _ _ ⟨Z,Z,F _ _ l.hr,KI<|sZ,?_⟩);have X3:=(l.same F).setR (ur':=G++[.ref q3]) (rows':=t.rows++[(n,d,Ik rd f)]) (by rw[Aq];exact(l.tr.same F).snoc e3);have J:Fresh H [x,C,A,D] [x,p,m,v]:=λb M=>(F2 b M).imp id λz=>g.free z;have ag:KeepS [x,C,A,D] H H2:=λb o n e=>Y b o n<|g _ _ e;refine k _ [x,p,m,v] (ag.trans J<|λb o n e=>Tv (by simp) b o n<|F _ _ e) J<|Ic O W ad p m v _ ah ⟨Z,X3⟩
def qys (T:Txt K mg a):FnOk P w K mg base Hw 4 a.AA a.Bp (ap Oa) (MN a):=by
 refine T.dR.fn.ok qx1 (λvs H Q E h=>?_)<|λ_ A _ s H vs Q E hr h=>?_
 .obtain⟨_,_,_,_,_,_,_,_,_,_,_,rfl,_⟩:=h
  all_goals rfl
 .obtain⟨x,g,c,tb,n,d,rd,bs,rs,r,bb,rfl,hx,sb,t,v,ak,k⟩:=h;refine IE (qf (Jb (pv 0) (pv 1) Z)
   (qf (Jb (pv 0) (pD T.fU (Mz T) hr<|qd (fV 1) (aL 2) KZ) Z)
   (qf (Jb (pv 0) (zh<|qd (zj<|aN 3<|aN 4<|qd zg qg ql) qg zo) Z)
   (qf (Jb (pv 0) JV Z)
   (qj<|qz<|JG (pv 0) T.kA T.dC (qmf T) (hr.mono Ud) T.bQ.bd .nil IT<|aN 4<|aL 5))))) ?_
  intro _;dsimp only[IP];have am:=v.same sb;have htb0:=ak.same sb;obtain⟨bj,pe,pa,pl,vn,vw,vp,vb,av,py,us,p,_⟩:=id am;have aj:c≠x:=λz=>by obtain⟨bj,pe,pa,pl,vn,vw,vp,vb,av,py,us,p,_⟩:=id v;rw[z,t]at p;cases p
  refine(HY<|Hv _ _ _ _ ⟨Z,hx,T.kA,qp T.kB Ud,(show 0<1000 by decide),?_⟩);rw[show Ij (Aa "rule") (.ref c) []=(TF<|.ref c) by with_unfolding_all rfl];have z1:Same r (upd H x<|.ins a.A g<|TF<|.ref c):=JP sb t;have y1:SameBut x H (upd H x<|.ins a.A g<|TF<|.ref c):=SameBut.set<|λ_ _ _ e=>e;have x1:=qk (H:=H) (a:=x) (o:=.ins a.A g<|TF<|.ref c);have g1:=(qr (o:=.ins a.A g<|TF<|.ref c) aj).trans p;generalize upd H x _=H1 at z1 y1 x1 g1 |-;refine HL<|IA g1 T.k7 T.k8 Z<|HL<|HP rd.unit tb ⟨Z,λcn y X s2 B bc=>?_⟩;have x2:=s2 _ _ x1;have z2:=z1.trans s2;have y2:=y1.trans<|SameBut.of s2;have l:cn≠x:=λz=>by rw[z,x1]at B;cases B
  refine(HL<|Hv _ _ _ _ ⟨Z,x2,T.kA,qp T.kB Ud,(show 1<1000 by decide),?_⟩);rw[show Ij (Aa "counting") (.ref cn) (TF<|.ref c)=(TC (.ref c)<|.ref cn) by with_unfolding_all rfl];have z3:Same r (upd X x<|.ins a.A g<|TC (.ref c)<|.ref cn):=JP z2 t;have y3:SameBut x H (upd X x<|.ins a.A g<|TC (.ref c)<|.ref cn):=y2.set;have x3:=qk (H:=X) (a:=x) (o:=.ins a.A g<|TC (.ref c)<|.ref cn);have S:=(qr (o:=.ins a.A g<|TC (.ref c)<|.ref cn) l).trans bc;generalize upd X x _=H3 at z3 y3 x3 S |-;refine HY ⟨Kk _ _ _,λq1 ay=>?_⟩;obtain⟨s4,F⟩:=IY (o:=.tup [V.str n,V.int d,V.str<|Aa "begins"]) ay;generalize upd H3 q1 _=H4 at s4 F |-;refine⟨Mf _,λf N=>?_⟩;obtain⟨s5,e5⟩:=IY (o:=.lst [V.ref q1]) N;have bf:=(z3.trans s4).free N;generalize upd H4 f _=H5 at s5 e5 |-;have C:=s4.trans s5;have x5:=C _ _ x3;have aq:=C _ _ S;have F:=s5 _ _ F;have z5:=z3.trans C;have y5:=y3.trans<|SameBut.of C;have q:f≠x:=By<|Pg x5 e5;have R:q1≠x:=λz=>by rw[z,x5]at F;cases F
  refine(HL<|Hv _ _ _ _ ⟨Z,x5,T.kA,qp T.kB Ud,(show 2<1000 by decide),?_⟩);rw[show Ij (Aa "rows") (.ref f) (TC (.ref c)<|.ref cn)=(PR (.ref c) (.ref cn)<|.ref f) by with_unfolding_all rfl];have z6:Same r (upd H5 x<|.ins a.A g<|PR (.ref c) (.ref cn)<|.ref f):=JP z5 t;have y6:SameBut x H (upd H5 x<|.ins a.A g<|PR (.ref c) (.ref cn)<|.ref f):=y5.set;have x6:=qk (H:=H5) (a:=x) (o:=.ins a.A g<|PR (.ref c) (.ref cn)<|.ref f);have J:=(qr (o:=.ins a.A g<|PR (.ref c) (.ref cn)<|.ref f) l).trans aq;have ad:=(qr (o:=.ins a.A g<|PR (.ref c) (.ref cn)<|.ref f) q).trans e5;have ah:=(qr (o:=.ins a.A g<|PR (.ref c) (.ref cn)<|.ref f) R).trans F;generalize upd H5 x _=H6 at z6 y6 x6 J ad ah |-;refine(HL<|Hv _ _ _ _ ⟨Z,x6,T.kA,qp T.kB Ud,(show 3<1000 by decide),?_⟩);rw[show Ij (Aa "over") (.bl HH) (PR (.ref c) (.ref cn)<|.ref f)=(ON (.ref c) (.ref cn) (.ref f)<|.bl HH) by with_unfolding_all rfl];have G:Same r (upd H6 x<|.ins a.A g<|ON (.ref c) (.ref cn) (.ref f)<|.bl HH):=JP z6 t;have W:SameBut x H (upd H6 x<|.ins a.A g<|ON (.ref c) (.ref cn) (.ref f)<|.bl HH):=y6.set;have O:=qk (H:=H6) (a:=x) (o:=.ins a.A g<|ON (.ref c) (.ref cn) (.ref f)<|.bl HH);have I:=(qr (o:=.ins a.A g<|ON (.ref c) (.ref cn) (.ref f)<|.bl HH) l).trans J;have L:=(qr (o:=.ins a.A g<|ON (.ref c) (.ref cn) (.ref f)<|.bl HH) q).trans ad;have al:=(qr (o:=.ins a.A g<|ON (.ref c) (.ref cn) (.ref f)<|.bl HH) R).trans ah;generalize upd H6 x _=H7 at G W O I L al |-;refine HL<|HW _ _ _ ⟨Z,O,Z,HY<|Ic x g c (.ref cn) (.ref f) (.bl HH) bb _<|HP d rd ⟨Z,O,.inl Z,v.same G,aj,λH8 D M U m u x8 ae af=>?_⟩⟩;have z8:Same r H8:=λb o e=>U b o (Iz e t)<|G b o e;have j:=U _ _ l I;have ag:=U _ _ q L;have bh:=U _ _ R al;have aw:f≠D:=λz=>by rw[<- z,L]at m;cases m
  have y8:=W.trans U;have fr:=Mr t bf (G.free m)<|G.free u;have ax:r cn=HD:=z1.free B;have ai:cn∉[x,f,D,M]:=λi=>by
   rcases Ax.mp i with z|i
   .exact l z
   .rcases Ax.mp i with z|i
    .rw[z,ag]at j;cases j
    .rcases Ax.mp i with z|i
     .rw[z,ae]at j;cases j
     .rw[Aj.mp i,af]at j;cases j
  have au:H f=HD:=(y3.trans<|SameBut.of s4).free q N;have ao:H D=HD:=W.free (λz=>by rw[z,O]at m;cases m) m;have ar:H M=HD:=W.free (λz=>by rw[z,O]at u;cases u) u;have sB:=qx (o:=.ins (kC a rd.unit) y<|R5 tb) ax;have Y:∀b∈[x,f,D,M],upd r cn (.ins (kC a rd.unit) y<|R5 tb) b=HD:=λb i=>by rw[qr (λz:b=cn=>ai (by rwa[<- z]))];exact fr b i
  refine k H8 [x,f,D,M] cn (.ins (kC a rd.unit) y<|R5 tb) y8 (λb i=>?_) (by simp) (y1.free l B) ai (Ic g c cn f D M [V.ref q1] [] ⟨Z,aw,x8,ag,.cons bh .nil,ae,.nil,af,v.same sB,HP y tb ⟨qk,ak.same sB⟩,λb o e=>?_,Y _<|by simp,Y _<|by simp,Y _<|by simp,Y _<|by simp⟩)
  .rcases Ax.mp i with z|i
   .exact .inl z
   .rcases Ax.mp i with z|i
    .exact .inr (by rwa[z])
    .rcases Ax.mp i with z|i
     .exact .inr (by rwa[z])
     .exact .inr (by rwa[Aj.mp i])
  .by_cases z:b=cn
   .rw[z,qk]at e;rwa[z,j]
   .rw[qr z]at e;exact z8 b o e
def UH (T:Txt K mg a):FnOk P w K mg base Hw 22 a.Ad a.Bq (ap Yt) (Se a):=by
 refine T.fG.fn.ko Ri λH _ Q E F h=>?_;obtain⟨bk,tb,t,aa,B,n,N,ts,Zq,x,S,p,bs,rs,D,ac,rfl,G,hb,cw,tok,ex,af,bt,W,ah,hD,hN,k⟩:=h;refine IE (qf (sI 4 Ri.nd<|pX zq (pv 3) qi)
  (qf (sI 5 Ri.nd<|pX zq (pv 3) qi)
  (qf (sI 6 Ri.nd<|pX zq (pv 3) qi)
  (qf (sI 7 Ri.nd Pl)
  (qf (aE Av Z (pv 2) (gI 8 Ri.nd) (qf (sI 9 Ri.nd<|JG (pv 0) T.kP T.n9 (qre T) (F.mono Ud) T.fN.bd .nil IT<|aL 8)
  (qj<|zb (zf<|pD T.fY (qtf T) F<|qd (K7 (Ji F) (pv 2) (pv 8)<|λ_ _=>rfl) qg zn) (qj<|qz<|JG (pX zr (K7 (Ji F) (pv 2) (pv 8)<|λ_ _=>rfl)<|KN KQ qi) T.kA T.mV (qyr T) (F.mono Ud) T.lZ.bd .nil IT<|aN 4<|aN 6<|aL 5)<|qj<|zb (PW.pt<|Kh (pC JO (pv 5)<|fV 9)<|Ku<|qy1<|Py (Ji F) (fV 9)<|pv 7) (qj<|Pk (Ji F) (pv 7) (pv 8) (Rm T.mW (qys T) (F.mono Ud) Z T.nQ T.dR.bd .nil IT<|aN 9<|aN 1<|aN 4<|aN 6<|qd (qxw (Ji F) (pv 7) (fV 9) ⟨Z,Z,Z,Z⟩) qg zl) Z) IG)))
  (qj<|aE Av Z (pv 7) (gI 8 Ri.nd)<|qj<|qz<|Jo A0 A5 A6 KF (K7 (Ji F) (pv 2) (pv 8)<|λ_ _=>rfl)<|qd (K7 (Ji F) (pv 7) (pv 8)<|λ_ _=>rfl) qg zn)))))) ?_
 intro _;dsimp only[IP];have af:=W.sm _ _ af;refine HL<|IH af Z<|HL<|IH af Z<|HL<|IH af Z<|λr nb=>?_;have n4:=G.n4;have s1:=qx (o:=.dK []) nb;have al:=s1 _ _ bt;have ad:r≠t:=λz=>by rw[z,bt]at nb;cases nb
 have W1:=W.more (o:=.dK []) nb<|sh;have ar:=qk (H:=H) (a:=r) (o:=.dK []);generalize upd H r _=H1 at s1 al W1 ar |-;refine HL<|HP t _ ⟨Z,al,λo=>⟨λi σ' H'=>∃(A:Hp)(g:tV)(S':Nat->Nat->tI),i<=n/\Same B A/\H' t=HA (.frz o<|.dK<|Im n ts p)/\WH a A H' n ts (tk bs rs ts Zq ac i).1 g S' p (λi=>(Zq i).length) [r,t] bs rs/\H' r=HA (.dK<|KU ts (λj=>g j (Zq j).length) (tk bs rs ts Zq ac i).2 i)/\∃U M:tX,σ'=[HA<|.ref bk,HA<|.ref tb,HA<|.ref t,HA<|.ref aa,HA<|.str ac.1,HA<|.str ac.2.1,HA<|.int ac.2.2,HA<|.ref r,U,M],?_,?_,?_,?_⟩⟩
 .refine(HW B x S ⟨AR _,Same.refl B,qk,W1.but (by simp) sh,?_,HD,HD,Z⟩);rw[qr ad,ar];rfl
 .intro i σ' H' w';obtain⟨_,_,_,_,_,h,_⟩:=w';exact h
 .intro i kv σ' H' C w';obtain⟨A,g,S',hin,sB,ae,v,s,U,M,rfl⟩:=w';obtain⟨d,rfl⟩:=jI C;have eY:=Mh (bs:=bs) (rs:=rs) (ts:=ts) (Zq:=Zq) (ac:=ac)<|Al i;have I:=RV (bs:=bs) (rs:=rs) (ac:=ac) G ah ex hD hN (m:=i)<|Bt d;have J:=λb=>Tn (bs:=bs) (rs:=rs) (ts:=ts) (Zq:=Zq) (ac:=ac) (m:=i) (i:=b);have t1:=λc=>SM (bs:=bs) (rs:=rs) (ts:=ts) (Zq:=Zq) (ac:=ac) (i:=i) c;have t2:=λc=>SN (bs:=bs) (rs:=rs) (ts:=ts) (Zq:=Zq) (ac:=ac) (i:=i) c;have t3:=λc=>V8 (bs:=bs) (rs:=rs) (ts:=ts) (Zq:=Zq) (ac:=ac) (i:=i) c;generalize tk bs rs ts Zq ac i=YF at v s eY I J t1 t2 t3;obtain⟨Y,f⟩:=YF;dsimp only at v s eY I J t1 t2 t3;have fi:f i=HH:=by
   cases e:f i with|false=>rfl|true=>have:=(J i).1 e;lia
  obtain⟨nms,us,bu,ca⟩:=hb.same sB;obtain⟨j,rl,e1,e2,aw⟩:=ca i d;have ay:=bu.same v.sm;have c8:=aw.same v.sm;obtain⟨_,_,_,_,df,_⟩:=id ay;refine(HL<|HW _ _ _ ⟨Z,df,Z,HL<|K9 bk nms _ us j (.ref rl) ⟨(by rw[e1];rfl),ay,e2,?_⟩⟩);have ai:DGet H' t (kV<|.inr (ts i).name) (HA<|.ref<|p i):=.inl<|HP _ (.inr (ts i).name) ⟨.inr ⟨o,ae⟩,Z,(Ph G.nn d).symm⟩;have hl:=v.hl i d;have lz:=(ah.rl i d).1;have lY:(Y i).length=(Zq i).length:=by rw[eY]
  refine(HY<|HP t _ ⟨Z,ai,p i,_,LB<|Zq i,Z,hl,(by rw[Ab,Ar];lia),?_,_,Z,?_⟩)
  .by_cases z:Zq i=[]
   .rw[z];exact .inl ⟨Z,Z⟩
   .have hp:=B4.mpr z;refine .inr (Ic _ _ A _ _ _ bs rs ⟨qs1 hp<|g i,v.R i d ((Zq i).length-1)<|sZ,?_⟩);rw[qwn z,eY]
  refine IK (λc=>?_)<|λc=>?_
  .have z:=Tg c;have hp:=B4.mpr z;have cx:Y i≠[]:=by rwa[eY]
   have t1:=t1 c;have mm:=K8 (l:=Y i) (j:=(Y i).length-1) sZ;have R0:=v.R i d ((Y i).length-1) sZ;obtain⟨_,_,_,_,_,_,_,_,_,X1⟩:=id R0;have bf:=I.wf i d _ mm;have bh:=I.ok i d _ mm;have hB:=qwk v I ex tok 3 i _ d sZ bf;refine(HY<|HP t _ ⟨Z,ai,_,Z,Ib hl ((by rw[qs1 hp];exact Pj _ _))<|HW _ _ _ ⟨Z,(by rw[<- lY];exact X1.hx),Z,Jw<|Ic _ A _ _ _ bs rs ac.2.2<|J0 ac.2.2 ac.1 ac.2.1 _ _ ⟨(by rw[<- lY];rfl),R0,tok,G.rd i d,bh.bv _,hB,(RW I ex d bh bf).bv _,λH2 S2 K2 F2 R2=>?_⟩⟩⟩);rw[Qj (LX g (ts i).base) XQ]at R2;have W2:=v.felt d cx K2 F2 R2;have eb:=v.eB r (by simp);have ed:=v.eB t (by simp);refine(HW A g _ ⟨d,sB,K2 _ _ (ed.2.2.2 i d _<|sZ) ae,(by rwa[t1]),?_,_,_,Z⟩);rw[t1];show H2 r=HA (.dK<|KU ts (λj=>g j (Zq j).length) f<|i+1);rw[OG fi λ_ _=>rfl];exact K2 _ _ (eb.2.2.2 i d _<|sZ) s
  .have bq:∀b,f b=HG->(Y b).length=(Zq b).length+1:=λb e=>by rw[(J b).2,HI e]
   obtain⟨ob,gN,av,c7⟩:=QC (ac:=ac) (x:=g) G.nn d (G.ba i d) bq s;obtain⟨_,_,_,_,_,_,_,_,ak,_⟩:=id c8;have ax:=UF (ts i).opens ac.2.1;apply use (p:=Kn (ts i) ac.2.1 f=HG)
   .intro au;have no:Kn (ts i) ac.2.1 f=HH->∃(A:Hp)(g:tV)(S':Nat->Nat->tI),i+1<=n/\Same B A/\H' t=HA (.frz o<|.dK<|Im n ts p)/\WH a A H' n ts (tk bs rs ts Zq ac<|i+1).1 g S' p (λi=>(Zq i).length) [r,t] bs rs/\H' r=HA (.dK<|KU ts (λj=>g j (Zq j).length) (tk bs rs ts Zq ac<|i+1).2<|i+1)/\∃U M:tX,[HA<|.ref bk,HA<|.ref tb,HA<|.ref t,HA<|.ref aa,HA<|.str ac.1,HA<|.str ac.2.1,HA<|.int ac.2.2,HA<|.ref r,HA<|.str (ts i).name,HA<|.ref rl]=[HA<|.ref bk,HA<|.ref tb,HA<|.ref t,HA<|.ref aa,HA<|.str ac.1,HA<|.str ac.2.1,HA<|.int ac.2.2,HA<|.ref r,U,M]:=λe=>by rw[t3 c e];exact(HW A g S' ⟨d,sB,ae,v,by rwa[OG fi λ_ _=>rfl],_,_,Z⟩)
    refine HY<|IA ak T.k7 T.k8 Z ⟨ax.1,_,Z,?_⟩;rw[ax.2];refine IK (λc1=>Ii<|au ?_)<|λc1=>HL<|IA ak T.k7 T.k8 Z<|HL<|HP r ob ⟨Z,gN,_,Z,?_⟩
    .unfold Kn;rw[c1];rfl
    .rw[av];have eo:Kn (ts i) ac.2.1 f=fB (ts i).base f:=by
      unfold Kn;cases e:decide ((ts i).opens=HA ac.2.1) with|true=>exact absurd e c1|false=>exact Dx _
     rw[<- eo];refine IK (λc2=>au c2)<|λc2=>no ?_;cases e:Kn (ts i) ac.2.1 f with|false=>rfl|true=>exact absurd e c2
   .intro bw;have t2:=t2 c bw;refine Vv ⟨r,Z,.inl ⟨_,.inl s⟩,HL<|IA ak T.k7 T.k8 Z ⟨ob,gN,λy dy ny aq _=>?_⟩⟩;have keep:Same H' (upd (upd H' dy<|.own y) y<|.ins a.A dy []):=λb u e=>by rwa[qr<|Iz e ny,qr<|Iz e aq]
    refine(Ic y dy rl tb ac.1 ac.2.2 ((ts i).rd) bs<|HW rs A _ ⟨Z,qk,v.sm.trans keep,v.sm.free ny,aw.at,cw.same sB,λH2 S2 _ _ b2 f2 _ bc cq R2=>⟨Z,HY<|HP r _ ⟨Z,DPut.k (k:=.inr (ts i).name) ((b2.made ny aq) _ _ s) (by have:=Q0 (ts:=ts) (y:=λj=>g j (Zq j).length) (f:=f) (m:=i);rw[Bv];lia),?_⟩⟩⟩);have s2:Same H' H2:=b2.made ny aq;rw[c7]at R2;have bz:=QB (ac:=ac) (G.ba i d) bq;have W2:=v.begun I.wf d s2 (λb cg=>?_) (keep.free bc) cq bz R2
    .have X:=W2.but (c:=r) (by simp) (o:=.dK<|JT (KU ts (λj=>g j (Zq j).length) f i) (.inr (ts i).name)<|.ref y)<|sh;refine(HW _ _ _ ⟨d,sB.trans<|qx<|v.sm.free<|keep.free bc,?_,(by rwa[t2]),?_,_,_,Z⟩)
     .rw[qr<|By ad];exact s2 _ _ ae
     .rw[qk,t2];have e3:Ih (KU ts (λj=>g j (Zq j).length) f i) (.inr (ts i).name)=HD:=by rw[ZV G.nn (Bt d) d,HF<|λz=>absurd z.1<|BY _]
      rw[XX _ e3];show HA (HO.dK _)=HA (HO.dK<|KU ts (λj=>Pu g i (Y i).length y j (Zq j).length) (put f i HG)<|i+1);rw[Qz (y:=λj=>g j (Zq j).length)<|λj hj=>Kv<|.inl<|AD hj];show _=HA (HO.dK<|_++[(_,V.ref<|Pu g i (Y i).length y i (Zq i).length)]);rw[lY,Ln]
    .rcases f2 b cg with z|z
     .rwa[z]
     .exact keep.free z
 .intro σ' H' w';obtain⟨A,g,S',_,sB,ae,v,s,U,M,rfl⟩:=w';rw[XD]at v s;have I:=RV (bs:=bs) (rs:=rs) (ac:=ac) G ah ex hD hN (m:=n)<|Al n;have J:=λb=>Tn (bs:=bs) (rs:=rs) (ts:=ts) (Zq:=Zq) (ac:=ac) (m:=n) (i:=b);generalize tk bs rs ts Zq ac n=YF at v s I J k;obtain⟨Y,f⟩:=YF;dsimp only at v s I J k;have W2:=v.but (c:=t) (by simp) (o:=.dK<|Im n ts p)<|sh;have ao:upd H' t (.dK<|Im n ts p) r=HA (.dK<|KU ts (λj=>g j (Zq j).length) f n):=by rwa[qr ad]
  have aj:=qk (H:=H') (a:=t) (o:=.dK<|Im n ts p);generalize upd H' t _=H2 at W2 ao aj |-;obtain⟨gl,egl⟩:∃gl,gl=(An n).filter f:=⟨_,Z⟩;have am:∀i,i∈gl↔i<n/\f i=HG:=λi=>by rw[egl,Cb,AE]
  have dc:gl.Nodup:=by rw[egl];exact Dr.filter _
  have bj:KU ts (λj=>g j (Zq j).length) f n=gl.map λi=>(.inr (ts i).name,.ref<|g i (Zq i).length):=by rw[egl];rfl
  refine HL<|HP r _ ⟨Z,ao,λo2=>⟨λm σ' H'=>H' t=HA (.dK<|Im n ts p)/\H' r=HA (.frz o2<|.dK<|KU ts (λj=>g j (Zq j).length) f n)/\WH a A H' n ts Y g S' p (λi=>(Zq i).length+if i∈gl.take m then 1 else 0) [r,t] bs rs/\∃U M:tX,σ'=[HA<|.ref bk,HA<|.ref tb,HA<|.ref t,HA<|.ref aa,HA<|.str ac.1,HA<|.str ac.2.1,HA<|.int ac.2.2,HA<|.ref r,U,M],?_,?_,?_,?_⟩⟩
  .refine⟨by rwa[qr<|By ad],qk,?_,_,_,Z⟩;have:=W2.but (c:=r) (by simp) (o:=.frz o2<|.dK<|KU ts (λj=>g j (Zq j).length) f n)<|sh;rw[show (λi=>(Zq i).length+if i∈gl.take 0 then 1 else 0)=λi=>(Zq i).length from funext λi=>by rw[Dl,HF A9];rfl];exact this
  .intro m σ' H3 w';obtain⟨_,h,_⟩:=w';exact h
  .intro m kv σ' H3 C w';obtain⟨O,ag,X,U,M,rfl⟩:=w';rw[bj,Ai]at C;cases eg:gl[m]? with
   |none=>rw[eg]at C;cases C
   |some i =>
   rw[eg]at C;cases C;obtain⟨d,fi⟩:=(am i).mp<|Au eg;have nt:i∉gl.take m:=λz=>by obtain⟨j,hj⟩:=Bx z;have lt:=(Ac.mp hj).1;rw[Bp]at lt;rw[List.getElem?_take,HI<|sZ]at hj;have:=(EA sZ dc).mp<|hj.trans eg.symm;lia
   have lY:(Y i).length=(Zq i).length+1:=by rw[(J i).2,HI fi]
   have hl:=X.hl i d;have lz:=(ah.rl i d).1;rw[HF nt,Nat.add_zero]at hl;have ai:DGet H3 t (kV<|.inr (ts i).name) (HA<|.ref<|p i):=.inl<|HP _ (.inr (ts i).name) ⟨.inl O,Z,(Ph G.nn d).symm⟩;have cz:DGet H3 r (kV<|.inr (ts i).name) (HA<|.ref<|g i (Zq i).length):=.inl (HP _ (.inr (ts i).name) ⟨.inr ⟨o2,ag⟩,Z,by rw[ZV G.nn (Al n) d,HI ⟨d,fi⟩]⟩);refine(HY<|HP t _ ⟨Z,ai,.inl ⟨Z,_,SqL.of hl⟩,HY<|HP r _ ⟨Z,cz,_,_,_,Z,Z,hl,KI (by rw[Ab,Ar];lia),?_⟩⟩);have W4:=X.listed d (by rw[HF nt,lY];lia);rw[HF nt,Nat.add_zero,Bs,Aq]at W4;have cp:=X.eB t (by simp);have c9:=X.eB r (by simp);refine⟨by rwa[qr<|cp.2.2.1 i d],by rwa[qr<|c9.2.2.1 i d],?_,_,_,Z⟩;rw[show (λL=>(Zq L).length+if L∈gl.take (m+1) then 1 else 0)=put (λL=>(Zq L).length+if L∈gl.take m then 1 else 0) i ((Zq i).length+1) from funext λL=>by
    rw[B1,eg];by_cases z:L=i
    .subst z;rw[JB,HI<|by simp]
    .rw[Iv z];have:L∈gl.take m++(HA i).toList↔L∈gl.take m:=by simp[z]
     by_cases w:L∈gl.take m
     .rw[HI w,HI<|this.mpr w]
     .rw[HF w,HF<|λq=>w<|this.mp q]]
   exact W4
  .intro σ' H3 w';obtain⟨O,ag,X,U,M,rfl⟩:=w';rw[bj,Ab,Bc]at X;have W4:=(X.but (c:=r) (by simp) (o:=.dK<|KU ts (λj=>g j (Zq j).length) f n)<|sh).less (E':=[t]) (by simp);rw[show (λi=>(Zq i).length+if i∈gl then 1 else 0)=λi=>(Y i).length from funext λi=>by
    rw[(J i).2];by_cases z:f i=HG
    .rw[HI z,HI<|(am i).mpr ⟨(J i).1 z,z⟩]
    .rw[HF z,HF<|λq=>z ((am i).mp q).2]]at W4
   exact k _ A g S' sB (by rwa[qr<|By ad]) W4
def qoo (T:Txt K mg a):FnOk P w K mg base Hw 1 a.AB a.Br (ap cM) (iI a):=by
 refine T.bX.fn.ko qnv λH _ Q E _ h=>?_;obtain⟨x,B,S,_,_,_,_,r,rfl,b,k⟩:=h;refine IE (qf (zb (zf<|fV 0) (rT zg) IG)
  (rT<|Rp (pC KP (pv 1) Io) zg zg)) ?_
 intro _;dsimp only[IP];obtain⟨_,_,_,_,_,_,_,_,rfl,R⟩:=id b;unfold MD at k;refine HL<|IA R.hx T.kA T.kB Z<|Hx<|IK (λc=>?_)<|λc=>?_
 .rwa[HI c]at k
 .rw[HF c]at k;cases r with|none =>rw[HI Z]at k;exact(HL ⟨Z,Hx<|Je Z k⟩)|some l =>rw[HF<|sh]at k;exact HL ⟨Z,Hx<|JU sh k⟩
def qrf (T:Txt K mg a):FnOk P w K mg base Hw 19 a.AC a.Bs (ap cF) (iW a):=by
 refine T.fC.fn.ko qU λH _ Q E hr h=>?_;obtain⟨x,B,S,rd,st,bs,rs,c,s,r,n,w0,d0,_,rfl,m,tok,ok,A,lst,I,k⟩:=h;refine IE (qf (sI 1 qU.nd<|Ml (pv 0) T.kA T.gZ (qY T) (hr.mono Ud) T.gC.bd .nil IT)
  (qf (sI 2 qU.nd<|Ml (pv 0) T.kA T.bO (qjf T) (hr.mono Ud) T.gK.bd .nil IT)
  (rT<|zj<|qd (pX zq (pX zr (fV 0) qi) qi) (qd (JG (pv 0) T.kA T.mL (qoo T) (hr.mono Ud) T.bX.bd .nil IT<|aL 2) (aN 1<|qd (fV 0) (qd (T2 cW (by rfl) T.kL Le<|qd (fV 0) qg KZ) (aN 2<|qd (T2 cW (by rfl) T.kL Le<|qd (fV 0) qg KZ) qg zl) zl) KZ) zl) zn))) ?_
 intro _;dsimp only[IP];obtain⟨_,_,_,_,_,_,J,G,rfl,R⟩:=id m;have s0:∀z,s=HA z->0<=z:=λz e=>XF (e ▸ A) ok.d0;refine HL<|HW _ _ _ ⟨Z,R.hx,Z,x,B,_,rd,st,bs,rs,s,Z,m,A,λ_ l=>?_⟩;have Y:=R.same l;refine HL<|HW _ _ _ ⟨Z,Y.hx,Z,x,B,_,rd,st,bs,rs,c,s,Z,m.same l,tok,ok,A.same l,λH1 y b C=>?_⟩;obtain rfl:=XS s0 C lst;have b:=l.trans b;have d:=R.same b;have W:=m.same b;have tr:=d.tr;rw[I]at tr;obtain⟨_,U,L⟩:=tr.get (i:=0) (r:=TV (n,d0,w0)) rfl;refine HL<|IA d.hx T.kA T.kB Z<|Ib d.hr ((Jz (j:=0) U))<|IH L Z<|HL<|HW _ _ _ ⟨Z,d.hx,Z,HL<|Ic x B _ rd st bs rs y ⟨Z,W,HY<|IA d.hx T.kA T.kB Z<|HL<|IA d.hx T.kA T.kB Z<|HP _ _ ⟨Z,.inl<|SqL.of d.hp,λD t=>?_⟩⟩⟩;obtain⟨g,M⟩:=IY (o:=.lst G) t;have n4:=b.free t;generalize upd H1 D _=H4 at g M |-;have p:=d.same g;refine HY<|IA p.hx T.kA T.kB Z<|HP _ _ ⟨Z,.inl<|SqL.of p.hr,λv u=>?_⟩;obtain⟨F,O⟩:=IY (o:=.lst J) u;have n6:=(b.trans g).free u;generalize upd H4 v _=H6 at F O |-;refine⟨YT _ _ _ _ _ _ _,λq N=>?_⟩;have X:=qx (o:=.tup [V.str n,V.str<|MD st.over y,oV s,V.int st.units,V.ref D,oV y,V.ref v]) N;have f:=F.trans X;exact k q D v _ (b.trans<|g.trans f) ((b.trans<|g.trans F).free N) n4 n6 ⟨qk,⟨G,f _ _ M,p.tp.same f⟩,⟨J,X _ _ O,p.tr.same f⟩⟩
def qyt (T:Txt K mg a){cL Pt:HC}(hcl:a.Y.code=.ref cL)(LF:Lam.LamF mg base cL Pt):FnOk P w K mg base Hw 24 a.Ae a.Bt (ap Xg) (Sz a Pt):=by
 refine T.lL.fn.ko Vq λH _ Q E hr h=>?_;obtain⟨bk,tb,pa,us,bc,n,ts,bs,rs,rfl,T0,hb,fj,tok,ex,ga,ee,_,R7,hL,k⟩:=h;refine IE (qf (sI 3 Vq.nd Pl)
  (qf (JD Av Z (Jk<|Ml (pv 0) T.kP T.nU (qo6 T) (hr.mono Ud) T.dO.bd .nil IT) (gI 4 Vq.nd)<|qj<|Pk (Ji hr) (pv 3) (pv 4) (zh qg) Z)
  (qf (JD Av Z (Jk<|pD T.lP (qyp T hcl LF) hr<|aL 2) (gI 5 Vq.nd)<|qj<|qz<|pD T.fG (UH T) hr<|aN 0<|aN 1<|aN 3<|aL 5)
  (qf (sI 6 Vq.nd Pl)
  (qf (aE Av Z (pv 3) (gI 4 Vq.nd)<|qj<|Pk (Ji hr) (pv 6) (pv 4) (Tr (N:=["run"]) (js:=[HD]) (XN:=["book","table","acts","runs","term","act","told"]) (xs:=Iy Xg) Z Z Z Uk (Jk<|K7 (Ji hr) (pv 3) (pv 4)<|λ_ _=>rfl) (λ_ _ _ _ _ _=>Lr (i:=0) (show Ct (["run"]:tG) from by decide +kernel) Z (C6 Z)<|CG Z) (λ_ _ _ _ _ _=>Tu)<|λ_ _ _ _ _ _=>Ml (pv 0) T.kA T.m6 (qrf T) (hr.mono Ud) T.fC.bd .nil IT) Z)
  (rT<|pv 6)))))) ?_
 intro _;dsimp only[IP];have n4:=T0.n4;refine λs nd=>?_;obtain⟨s1,al⟩:=IY (o:=.dK []) nd;generalize upd H s _=H1 at s1 al |-;obtain⟨nms,fk,fe,_⟩:=id hb;have bh:=fe.same s1;obtain⟨_,_,_,_,gf,_⟩:=id bh;refine HL<|HW _ _ _ ⟨Z,gf,Z,bk,nms,_,fk,Z,bh,λqh nh=>?_⟩;obtain⟨s2,eh⟩:=IY (o:=.lst<|((An n).map λi=>(ts i).name).map V.str) nh;have au:=s2 _ _ al;have gc:qh≠s:=λz=>by rw[z,al]at nh;cases nh
 generalize upd H1 qh _=H2 at s2 eh au |-;refine⟨_,Z,⟨_,SqL.of eh⟩,KE (K:=K) (a:=qh) (xs:=((An n).map λi=>(ts i).name).map V.str) (λi σ H'=>Same H H'/\H' qh=HA (.lst<|((An n).map λi=>(ts i).name).map V.str)/\∃p:tT,H' s=HA (.dK<|Im i ts p)/\(∀j<i,H' (p j)=HA (.lst [])/\H (p j)=HD/\p j≠s/\p j≠qh/\∀j'<j,p j'≠p j)/\∃v4:tX,σ=[HA<|.ref bk,HA<|.ref tb,HA<|.ref pa,HA<|.ref s,v4,HD,HD]) ⟨s1.trans s2,eh,λ_=>s,au,λj f=>absurd f<|Bj _,HD,Z⟩ (λi σ H' _ h=>SqL.of h.2.1) ?_ ?_⟩
 .intro i v σ H' hv w';obtain⟨Y,av,p,ae,C,v4,rfl⟩:=w';have A:i<n:=by have:=(Ac.mp hv).1;rwa[Ab,Ab,Ar]at this
  rw[Ai,Ai,AS A]at hv;cases hv;refine⟨JZ,λpi ni=>HY<|HP s _ ⟨Z,DPut.k (k:=.inr (ts i).name) (qx ni _ _ ae) (by rw[XD,Bv];lia),?_⟩⟩;have c9:pi≠s:=λz=>by rw[z,ae]at ni;cases ni
  have dg:pi≠qh:=λz=>by rw[z,av]at ni;cases ni
  have di:∀j<i,pi≠p j:=λj f z=>by rw[z,(C j f).1]at ni;cases ni
  have e3:Ih (Im i ts p) (.inr (ts i).name)=HD:=ZW λw m=>by obtain⟨j,f,e⟩:=AQ.mp m;injection e with e1 _;have f:=AE.mp f;have:=T0.nn j sZ i A<|CL.inj e1;lia
  have ax:JT (Im i ts p) (.inr (ts i).name) (.ref pi)=Im (i+1) ts (put p i pi):=by rw[XX _ e3];unfold Im;rw[Bs,Aq];refine congr (HR _<|BL λj f=>by rw[Iv<|AD<|AE.mp f]) ?_;show _=[(_,V.ref<|put p i pi i)];rw[JB]
  rw[ax];refine⟨λb o e=>by rw[qr<|Iz e nd,qr<|Iz (Y _ _ e) ni];exact Y _ _ e,by rwa[qr gc,qr<|By dg],put p i pi,qk,λj f=>?_,_,Z⟩;by_cases z:j=i
  .subst z;rw[JB];exact⟨by rw[qr c9,qk],Y.free ni,c9,dg,λj' ao=>by rw[Iv<|AD ao];exact By<|di j' ao⟩
  .obtain⟨O,L,g3,M,g5⟩:=C j sZ;rw[Iv z];exact⟨by rwa[qr g3,qr<|By<|di j<|sZ],L,g3,M,λj' ao=>by rw[Iv<|sZ];exact g5 j' ao⟩
 intro σ H3 w';obtain⟨Y,av,p,ae,C,v4,rfl⟩:=w';rw[Ab,Ab,Ar]at ae C;refine(HL<|HW pa us bc ⟨Z,Y _ _ ga,ee.same Y,sZ,hL.same Y,λG H4 ar d aq s4 gb bu cw ea ta=>?_⟩);obtain⟨_,fq⟩:=(hL.same Y).tbl;have c7:KpT H3 H4:=KpT.of fq s4;have bj:H4 s=HA (.dK<|Im n ts p):=c7 _ _ sh ae;have cg:∀j<n,H4 (p j)=HA (.lst []):=λj f=>c7 _ _ sh (C j f).1;obtain⟨F,f1,f2,f3⟩:=QF (λb=>b=s \/ ∃j,j<n/\b=p j) H4;have ak:∀b o,(∀l,o ≠ .lst l)->(∀l,o ≠ .dK l)->H4 b=HA o->F b=HA o:=λb o n1 n2 e=>f2 b o (λz=>by
  rcases z with z|⟨j,f,z⟩
  .rw[z,bj]at e;exact n2 _ (A8 e).symm
  .rw[z,cg j f]at e;exact n1 _ (A8 e).symm) e
 have kF:KpT H F:=λb o n1 e=>f2 b o (λz=>by
  rcases z with z|⟨j,f,z⟩
  .rw[z,nd]at e;cases e
  .rw[z,(C j f).2.1]at e;cases e)<|c7 b o n1<|Y _ _ e
 have cz:Lam.LamAt F Pt YM YL:=by
  rcases gb with h|⟨c,O,L⟩
  .exact .inl<|ak _ _ sh sh h
  .exact .inr ⟨c,ak _ _ sh sh O,ak _ _ sh sh L⟩
 have gh:F G=HA (.lst ar):=f2 _ _ (λz=>by
  rcases z with z|⟨j,f,z⟩
  .rw[z,ae]at aq;cases aq
  .rw[z,(C j f).1]at aq;cases aq) ea
 have cx:Tups F ar (d.map KA):=Kt ta λb u e=>ak b _ sh sh e;have bF:=U2 kF hb;have tF:=V9 kF fj;have l4:d.length=bc.length:=bu.length_eq;have fc:ar.length=d.length:=by have:=cx.length;rwa[Ab]at this
 have W0:WH a F H4 n ts (KB bs rs ts n<|d.take 0) (λ_ _=>s) (λ_ _=>[]) p (λi=>(KB bs rs ts n (d.take 0) i).length) [s] bs rs:=by
  refine⟨f3,λi A=>cg i A,λi A=>Al _,λi A j f=>absurd f<|Bj _,λi A j f=>absurd f<|Bj _,λi A=>f1 _<|.inr ⟨i,A,Z⟩,λi A B bw ne=>?_,λi A B bw j f=>absurd f<|Bj _,λc hc=>?_⟩
  .rcases Nat.lt_or_gt_of_ne ne with h|h
   .exact(C B bw).2.2.2.2 i h
   .exact By<|(C i A).2.2.2.2 B h
  .rw[Aj.mp hc];exact⟨f1 _<|.inl Z,⟨_,bj,sh⟩,λi A=>By (C i A).2.2.1,λi A j f=>absurd f<|Bj _⟩
 have P0:PZ n ts (KB bs rs ts n<|d.take 0) ((d.take 0).getLastD dA).2.2 0:=⟨λi A st h=>absurd h A9,λi A st h=>absurd h A9,λi A=>⟨Al _,λst h=>absurd h A9⟩,AZ _⟩;refine⟨G,Z,⟨_,SqL.of ea⟩,KE (K:=K) (a:=G) (xs:=ar) (λm σ H'=>∃(B':Hp)(x:tV)(S:Nat->Nat->tI),Same F B'/\H' s=HA (.dK<|Im n ts p)/\WH a B' H' n ts (KB bs rs ts n<|d.take m) x S p (λi=>(KB bs rs ts n (d.take m) i).length) [s] bs rs/\PZ n ts (KB bs rs ts n<|d.take m) ((d.take m).getLastD dA).2.2 m/\∃v5:tX,σ=[HA<|.ref bk,HA<|.ref tb,HA<|.ref pa,HA<|.ref s,v4,v5,HD]) (HW F _ _ ⟨Same.refl F,bj,W0,P0,HD,Z⟩) (λm σ H' _ h=>by obtain⟨B',x,S,sB,_,X,_⟩:=h;exact SqL.of<|(sB.trans X.sm) _ _ gh) ?_ ?_⟩
 .intro m v σ H' hv w';obtain⟨B',x,S,sB,dr,X,P',v5,rfl⟩:=w';have hm:m<d.length:=by have:=(Ac.mp hv).1;lia
  have em:=Ad hm;obtain⟨b,eb,qb⟩:=cx.get (i:=m) (r:=KA d[m]) (by rw[Ai,em];rfl);rw[hv]at eb;cases eb;generalize d[m]=ac at em qb;have a0:=R7 ac<|bu.mem_iff.mp<|Au em;have hD:((d.take m).getLastD dA).2.2<=ac.2.2:=by
   rw[List.getLastD_eq_getLast?];cases m with|zero=>exact a0|succ m =>rw[List.getLast?_take,HF<|sZ,D9,Ad<|sZ];exact qwo cw (BQ m) (Ad<|sZ) em
  have et:d.take (m+1)=d.take m++[ac]:=by rw[B1,em];rfl
  refine(UJ<|Ic bk tb s b B' n m ts<|Ic _ x S p bs rs _ ac ⟨Z,T0,bF.same sB,tF.same sB,tok,ex,sB _ _ qb,dr,X,P',hD,sZ,λ_ dz x' S' gj c8 gm=>?_⟩);have dw:=RV (bs:=bs) (rs:=rs) (ac:=ac) T0 P' ex hD sZ (m:=n)<|Al n;refine HW dz x' S' ⟨sB.trans gj,c8,?_,?_,_,Z⟩
  .rwa[et,pF]
  .rw[et,pF,show (d.take m++[ac]).getLastD dA=ac by simp];exact dw
 intro σ H5 w';obtain⟨B5,x,S,am,ca,W5,P5,v5,rfl⟩:=w';rw[fc,Bc]at W5 P5;have aj:∀{J:Hp}{b:HC},Same B5 J->J b=HD->H b=HD:=λ{J b} sJ e=>by
  cases eH:H b with
  |none=>rfl
  |some o =>
   exfalso;by_cases z:∃t,o=.tbl t
   .obtain⟨t,rfl⟩:=z;obtain⟨_,g⟩:=cz.tbl;by_cases w:b=Pt
    .rw[w]at e;rw[sJ _ _<|am _ _ g]at e;cases e
    .have:=s4 b _ w<|Y _ _ eH;rw[sJ _ _<|am _ _<|ak b (.tbl t) (λ_ z=>by cases z) (λ_ z=>by cases z) this]at e;cases e
   .rw[sJ _ _<|am _ _<|kF b o (λt q=>z ⟨t,q⟩) eH]at e;cases e
 refine λpt ai=>?_;have W6:=W5.more (o:=.dK []) ai<|sh;have cp:=qx (o:=.dK []) ai _ _ ca;have dh:=qk (H:=H5) (a:=pt) (o:=.dK []);have aw:pt≠s:=λz=>by rw[z,ca]at ai;cases ai
 have dm:H pt=HD:=aj W5.sm ai;generalize upd H5 pt _=H6 at W6 cp dh |-;generalize eZ:KB bs rs ts n d=Zq at W5 W6 P5;refine HL<|HP s _ ⟨Z,cp,λo=>⟨λi σ' H'=>∃(q:tT)(y p4 p6:tV),H' s=HA (.frz o<|.dK<|Im n ts p)/\WH a B5 H' n ts Zq x S p (λi=>(Zq i).length) [pt,s] bs rs/\H' pt=HA (.dK<|Im i ts q)/\(∀B<i,AccI bs rs ts Zq B (Kb [pt,s] H') (q B) (y B) (p4 B) (p6 B)/\H (q B)=HD/\∀j<(Zq B).length,H (y B j)=HD/\H (p4 B j)=HD/\H (p6 B j)=HD)/\RC Zq i q p4 p6/\∃v4:tX,σ'=[HA<|.ref bk,HA<|.ref tb,HA<|.ref pa,HA<|.ref s,v4,v5,HA<|.ref pt],?_,?_,?_,?_⟩⟩
 .exact(Hv (λ_=>s) (λ_ _=>s) (λ_ _=>s) (λ_ _=>s) ⟨qk,W6.but (by simp) sh,by rwa[qr aw],λi A=>absurd A<|Bj _,λi A=>absurd A<|Bj _,_,Z⟩)
 .intro i σ' H' w';obtain⟨_,_,_,_,h,_⟩:=w';exact h
 .intro i kv σ' H' fz w';obtain⟨q,y,p4,p6,af,X,U,hA,ah,v4,rfl⟩:=w';obtain⟨HB,eHB⟩:∃HB,HB=H':=⟨_,Z⟩;obtain⟨A,rfl⟩:=jI fz;have ft:DGet H' s (kV<|.inr (ts i).name) (HA<|.ref<|p i):=.inl<|HP _ (.inr (ts i).name) ⟨.inr ⟨o,af⟩,Z,(Ph T0.nn A).symm⟩;have hl:=X.hl i A;have lz:=(P5.rl i A).1;refine HY<|HP s _ ⟨Z,ft,_,Z,⟨_,SqL.of hl⟩,?_⟩;have xj:∀(j:Nat)(v:V),((An (Zq i).length).map λj=>V.ref<|x i j)[j]?=HA v->j<(Zq i).length/\v=.ref (x i j):=λj v e=>by
   rw[Ai]at e;by_cases h:j<(Zq i).length
   .rw[AS h]at e;cases e;exact⟨h,Z⟩
   .rw[AH (by rw[Ar];lia)]at e;cases e
  refine N7 (λD v G H'=>∃r4 r6:HC,(∀j,((An (Zq i).length).map λj=>V.ref<|x i j)[j]?=HA v->AccAt (Kb [D,pt,s] H') G r4 r6 (Js<|(Zq i).getD j Hz) ((Zq i).getD j Hz) (ID bs rs ts Zq 3 i<|(Zq i).getD j Hz) (Jf bs rs (ts i).rd ((Zq i).getD j Hz)<|ID bs rs ts Zq 3 i<|(Zq i).getD j Hz))/\H' G≠HD/\G≠D/\H G=HD/\H r4=HD/\H r6=HD/\HB r4=HD/\HB r6=HD) (λD v G J _ kp=>?_) (λD v G J g=>?_) (λσ'=>∃v,σ'=[v]) (Xp (K:=K)<|SqL.of hl) (JJ (by rw[Ab,Ar];lia)) ⟨HD,Z⟩ (λD v σ' J _ hv _ ad du e9 qq=>?_) Rl λD H8 qs I s8 e8 l8 _ g8=>?_
  .intro w';obtain⟨r4,r6,O,L,g3,M⟩:=w';refine(HP r4 r6 ⟨λj e=>(O j e).same<|XO (λ_ h=>h) λb u W e=>kp b u (λz=>W (by rw[z];simp)) e,?_,g3,M⟩);cases e:J G with|none=>exact absurd e L|some u=>rw[kp _ _ g3 e];exact sh
  .obtain⟨_,_,_,L,_⟩:=g;exact L
  .obtain⟨v0,rfl⟩:=e9;obtain⟨_,bz⟩:=du;obtain⟨j,f⟩:=Bx hv;obtain⟨lj,rfl⟩:=xj j _ f;have WJ:=X.same ad;have mm:=K8 lj;have bt:=P5.ok i A _ mm;have dc:=P5.wf i A _ mm;have R0:=WJ.R i A j lj;obtain⟨_,_,_,_,_,_,_,_,_,X1⟩:=id R0;have hB:=qwk WJ P5 ex tok 3 i _ A sZ dc;obtain⟨⟨n0,d0,w0⟩,rw0,erw⟩:∃r0 rr,((Zq i).getD j Hz).rows=r0::rr:=by
    cases e:((Zq i).getD j Hz).rows with|nil=>exact absurd e bt.r0|cons r0 rr=>exact HP r0 rr Z
   have en:Js ((Zq i).getD j Hz)=n0:=by unfold Js;rw[erw];rfl
   refine HL<|HW _ _ _ ⟨Z,X1.hx,Z,_,B5,_,_,_,bs,rs,_,_,_,n0,w0,d0,rw0,Z,R0,tok,bt.bv _,hB,(RW P5 ex A bt dc).bv _,erw,λG r4 r6 H9 s9 nq ay bq cq=>?_⟩;have f4:∀b,J b=HD->b∉[D,pt,s]:=λb e z=>by
    rcases Ax.mp z with z|z
    .rw[z,bz]at e;cases e
    .rcases Ax.mp z with z|z
     .rw[z,ad _ _ U]at e;cases e
     .rw[Aj.mp z,ad _ _ af]at e;cases e
   have dj:=cq.ofL (l:=[D,pt,s]) (λc hc t e=>by
    rcases Ax.mp hc with z|z
    .rw[z,s9 _ _ bz]at e;cases e
    .rcases Ax.mp z with z|z
     .rw[z,s9 _ _<|ad _ _ U]at e;cases e
     .rw[Aj.mp z,s9 _ _<|ad _ _ af]at e;cases e) (f4 _ ay)<|f4 _ bq
   refine qq _ G H9 ⟨_,Z⟩ s9 nq (HP r4 r6 ⟨λj' e=>?_,(by rw[cq.1];exact sh),(λz=>by rw[z,bz]at nq;cases nq),aj WJ.sm nq,aj WJ.sm ay,aj WJ.sm bq,eHB ▸ ad.free ay,eHB ▸ ad.free bq⟩);obtain⟨fg,ej⟩:=xj j' _ e;have:j=j':=X.inj A lj fg<|V.ref.inj ej;subst this;rwa[en]
  .rw[Ab,Ar]at l8;have W8:=X.same s8;have dk:∀j:Nat,∃pr:HC×HC,j<(Zq i).length->AccAt (Kb [D,pt,s] H8) (qs.getD j 0) pr.1 pr.2 (Js<|(Zq i).getD j Hz) ((Zq i).getD j Hz) (ID bs rs ts Zq 3 i<|(Zq i).getD j Hz) (Jf bs rs (ts i).rd ((Zq i).getD j Hz)<|ID bs rs ts Zq 3 i<|(Zq i).getD j Hz)/\H (qs.getD j 0)=HD/\H pr.1=HD/\H pr.2=HD/\HB pr.1=HD/\HB pr.2=HD:=λj=>by
    by_cases h:j<(Zq i).length
    .have ev:((An (Zq i).length).map λj=>V.ref<|x i j)[j]?=HA (.ref<|x i j):=by rw[Ai,AS h];rfl
     have eq:qs[j]?=HA (qs.getD j 0):=by rw[Ak,Ad<|sZ];rfl
     obtain⟨⟨r4,r6,O,L,g3,M⟩,_⟩:=g8 j _ _ ev eq;exact⟨(r4,r6),λ_=>⟨O j ev,M⟩⟩
    .exact⟨(0,0),λz=>absurd z h⟩
   obtain⟨pr,ag⟩:=Classical.axiomOfChoice dk;have df:D≠pt:=λz=>by rw[z,U]at I;cases I
   have fh:D≠s:=λz=>by rw[z,af]at I;cases I
   have e3:Ih (Im i ts q) (.inr (ts i).name)=HD:=ZW λw m=>by obtain⟨j,f,e⟩:=AQ.mp m;injection e with e1 _;have f:=AE.mp f;have:=T0.nn j sZ i A<|CL.inj e1;lia
   have ax:JT (Im i ts q) (.inr (ts i).name) (.ref D)=Im (i+1) ts (put q i D):=by rw[XX _ e3];unfold Im;rw[Bs,Aq];refine congr (HR _<|BL λj f=>by rw[Iv<|AD<|AE.mp f]) ?_;show _=[(_,V.ref<|put q i D i)];rw[JB]
   refine(HY<|HP pt _ ⟨Z,DPut.k (k:=.inr (ts i).name) (s8 _ _ U) (by rw[XD,Bv];lia),?_⟩);rw[ax];have kU:∀b u,b∉[pt,s]->H8 b=HA u->upd H8 pt (.dK<|Im (i+1) ts<|put q i D) b=HA u:=λb u W e=>by rw[qr<|λz=>W (by rw[z];simp)];exact e
   refine(Hv (put q i D) (put y i<|λj=>qs.getD j 0) (put p4 i<|λj=>(pr j).1) (put p6 i<|λj=>(pr j).2) ⟨by rw[qr<|By aw];exact s8 _ _ af,W8.but (by simp) sh,qk,λB bw=>?_,MW ah ?_ ?_,_,Z⟩)
   rotate_left
   .subst eHB;intro i1 h1;obtain⟨⟨O,L⟩,_⟩:=hA i1 h1;have e1:=(Te O).2;refine⟨(λz=>by rw[z,I]at e1;cases e1),λj f=>?_,λj f=>?_⟩
    .obtain⟨_,⟨u4,M,_⟩,⟨u6,g6,_⟩⟩:=L j f;have M:=(Te M).2;have g6:=(Te g6).2;exact⟨(λz=>by rw[<- z,I]at M;cases M),(λz=>by rw[<- z,I]at g6;cases g6)⟩
    .obtain⟨_,_,_,_,c4,c6⟩:=ag j f;exact⟨(λz=>by rw[z,c4]at e1;cases e1),(λz=>by rw[z,c6]at e1;cases e1)⟩
   .intro j f;obtain⟨⟨_,⟨u4,M,_⟩,⟨u6,g6,_⟩⟩,_⟩:=ag j f;exact⟨λz=>(Te M).1 (by rw[<- z];simp),λz=>(Te g6).1 (by rw[<- z];simp)⟩
   by_cases z:B=i
   .subst z;rw[JB,JB,JB,JB];refine⟨⟨?_,λj f=>(ag j f).1.same<|XO (by simp) λb u W e=>kU b u (λw=>W (by simp at w |-;exact .inr w)) e⟩,aj X.sm I,λj f=>⟨(ag j f).2.1,(ag j f).2.2.1,(ag j f).2.2.2.1⟩⟩;refine Tf (by simp[df,fh]) ?_;rw[qr df,e8]
    congr 2
    refine Cm λj=>?_;rw[Ai,Ai];by_cases h:j<(Zq B).length
    .rw[AS h];show _=HA (V.ref<|qs.getD j 0);rw[Ak,Ad<|sZ];rfl
    .rw[AH<|sZ,AH (by rw[Ar];lia)];rfl
   .rw[Iv z,Iv z,Iv z,Iv z];obtain⟨O,L⟩:=hA B sZ;exact⟨O.same<|XO (λ_ h=>h) λb u W e=>kU b u W<|s8 _ _ e,L⟩
 .intro σ' H' w';obtain⟨q,y,p4,p6,af,X,U,hA,ah,v4,rfl⟩:=w';rw[XD]at U hA ah;have W9:=X.but (c:=s) (by simp) (o:=.dK<|Im n ts p)<|sh;have bf:upd H' s (.dK<|Im n ts p) pt=HA (.dK<|Im n ts q):=by rwa[qr aw]
  have k9:∀b u,b∉[pt,s]->H' b=HA u->upd H' s (.dK<|Im n ts p) b=HA u:=λb u W e=>by rw[qr<|λz=>W (by rw[z];simp)];exact e
  generalize upd H' s _=H9 at W9 bf k9 |-;have sF:=am.trans W9.sm;subst eZ;refine HL<|k pt H9 d q y p4 p6 (λb u W e=>?_) (cz.same sF) bu cw ⟨bf,λi A=>(hA i A).1.same<|oC k9⟩ ⟨dm,λi A=>(hA i A).2⟩ P5 ah;have e4:=s4 b u W<|Y _ _ e;refine sF _ _<|f2 b u (λz=>?_) e4;rcases z with z|⟨j,f,z⟩
  .rw[z,nd]at e;cases e
  .rw[z,(C j f).2.1]at e;cases e
theorem qyu (T:Txt K mg a):FnOk P w K mg base Hw 1 a.Af a.Bu (ap Zi) WQ:=by
 refine T.bZ.fn.ko Zv λH _ Q E Y h=>?_;obtain⟨x,d,t,_,nms,bs,n,tk,l,rfl,hd,X,A,hk,rfl,O,k⟩:=h;refine IE (qf (sI 3 Zv.nd<|zh qg)
  (qf (sI 4 Zv.nd<|pv 0)
  (qf (Ro Av (PW.pt<|KC (pC Lq (pv 4) Io)<|KW<|qt qj2 (pv 4) (pv 2) (by with_unfolding_all rfl)) (qf (zb (qt Oe (pv 4) (pv 3) (by with_unfolding_all rfl)) (qj Vo) IG)
  (qf (qz<|Jo A0 A5 A6 KF (pv 3)<|aL 4)
  (qj<|sI 4 Zv.nd<|K7 (Ji Y) (pv 1) (pv 4)<|λ_ _=>rfl))))
  (rT<|pv 3)))) ?_
 intro _;dsimp only[IP];refine⟨JZ,λq C=>?_⟩;obtain⟨R,S⟩:=IY (o:=.lst []) C;generalize upd H q _=H0 at R S |-;refine IB Z ?_;refine⟨λm σ' H'=>Same H H'/\∃g:tG,H' q=HA (.lst<|g.map V.str)/\((∃c:Nat,σ'=[HA<|.str<|nm nms l,HA<|.ref d,HA<|.ref t,HA<|.ref q,HA<|.str<|nm nms c]/\c<nms.length/\n c<m/\g++JR nms bs tk m c=JR nms bs tk 7 l/\g.length+m=7/\∀y∈g,∃j,j<nms.length/\y=nm nms j/\n c<n j) \/
   (σ'=[HA<|.str<|nm nms l,HA<|.ref d,HA<|.ref t,HA<|.ref q,HA .non]/\g=JR nms bs tk 7 l)),⟨7,R,[],S,.inl ⟨l,Z,hk,A.lo l,Z,Z,λy L=>absurd L A9⟩⟩,?_⟩
 rintro m σ' H' ⟨r,g,p,⟨c,rfl,u,_,i,_,D⟩|⟨rfl,e⟩⟩
 .refine(HL ⟨Z,Hx<|Wo sh<|HY<|HP _ _ ⟨Z,.inl<|SqL.of<|r _ _ X,Z,Rq _,IB Z ?_⟩⟩);show if (!Ko (.str<|nm nms c) (tk.map V.str))=HG then _ else _;rw[Rn];cases F:tk.contains (nm nms c) with
  |true =>refine Ia<|HL<|k q H' C r ?_;rw[qwj<|B2.mp F,Br]at i;rw[p,i]
  |false =>
   have nt:¬nm nms c∈tk:=λz=>by rw[B2.mpr z]at F;cases F
   have W:g.contains (nm nms c)=HH:=by
    cases ep:g.contains (nm nms c) with
    |false=>rfl
    |true =>obtain⟨j,G,M,B⟩:=D _<|B2.mp ep;rw[VX A.nd u G M]at B;exact absurd B<|BY _
   obtain⟨f,rfl⟩:∃f,m=f+1:=⟨m-1,sZ⟩;rw[qwi nt]at i;have lz:(g.map V.str).length<=90000:=by rw[Ab];lia
   refine Ii ⟨λσ2 s=>Same H s/\∃g:tG,s q=HA (.lst<|g.map V.str)/\((∃c:Nat,σ2=[HA<|.str<|nm nms l,HA<|.ref d,HA<|.ref t,HA<|.ref q,HA<|.str<|nm nms c]/\c<nms.length/\n c<f/\g++JR nms bs tk f c=JR nms bs tk 7 l/\g.length+f=7/\∀y∈g,∃j,j<nms.length/\y=nm nms j/\n c<n j) \/
    (σ2=[HA<|.str<|nm nms l,HA<|.ref d,HA<|.ref t,HA<|.ref q,HA .non]/\g=JR nms bs tk 7 l)),λσ2 s z=>⟨f,BQ f,z⟩,?_⟩
   refine HY<|HP _ _ ⟨Z,.inl<|SqL.of p,Z,Rq _,IB Z ?_⟩;show if (Ko (.str<|nm nms c)<|g.map V.str)=HG then _ else _;rw[Rn,W];refine Ia<|HL ⟨.inl ⟨Z,_,SqL.of p⟩,HL<|HW _ _ _ ⟨Z,Z,p,KI lz,?_⟩⟩;have v:Same H (upd H' q<|.lst<|g.map V.str++[V.str<|nm nms c]):=JP r C;have I:upd H' q (.lst<|g.map V.str++[V.str<|nm nms c]) q=HA (.lst<|(g++[nm nms c]).map V.str):=by rw[qk,Aq];rfl
   generalize upd H' q _=s at v I |-;refine HY<|HP d _ ⟨Z,(O c u) ▸ DGet.k (k:=.inr<|nm nms c) (v _ _ hd),?_⟩;cases J:bo bs c with
   |none =>rw[J]at i;exact⟨v,_,I,.inr ⟨Z,i⟩⟩
   |some b =>
    rw[J]at i;obtain⟨U,N⟩:=A.ok c b (by rw[OE (by rwa[A.len]),J]);refine⟨v,_,I,.inl ⟨b,Z,U,sZ,?_,by rw[Ae];show g.length+1+f=7;lia,λy L=>?_⟩⟩
    .rwa[List.append_assoc]
    .rcases As.mp L with z|z
     .obtain⟨j,G,M,B⟩:=D y z;exact⟨j,G,M,Nat.lt_trans N B⟩
     .exact⟨c,u,Aj.mp z,N⟩
 .refine(HL ⟨Z,Hx<|LS Z<|Ia<|HL<|k q H' C r ?_⟩);rw[p,e]
def qop (T:Txt K mg a):FnOk P w K mg base Hw 2 a.Ag a.Bv (ap cK) (MP a):=by
 refine T.dY.fn.ko Vu λH _ Q E I h=>?_;obtain⟨u,us,nms,bs,rk,rfl,y,f,v,k⟩:=h;refine IE (qf (sI 1 Vu.nd Pl)
  (qf (JD Av Z (Jk<|pv 0) (gI 2 Vu.nd)<|qj<|Pk (Ji I) (pv 1) (fV 2) (fV 2) Z)
  (qf (sI 3 Vu.nd<|zh qg)
  (qf (JD Av Z (Jk<|pv 0) (gI 2 Vu.nd)<|qj<|W7 (i:=3) Vu.nd Z (C6 Z) (qt7 Z (by rfl) T.kL (by rfl) T.pG Le<|qd (pD T.bZ (qyu T) I<|qd (fV 2) (aN 1<|aL 3) KZ) qg zl) Uh)
  (rT<|pv 3))))) ?_
 intro _;dsimp only[IP];refine λd R=>?_;obtain⟨B,X⟩:=IY (o:=.dK []) R;generalize upd H d _=H0 at B X |-;refine(HL ⟨_,Z,⟨_,SqL.of<|B _ _ y⟩,KE (K:=K) (a:=u) (xs:=us) (λi σ H'=>Same H H'/\∃(l:tX)(kvs:List (IC×V)),σ=[HA<|.ref u,HA<|.ref d,l,HD]/\H' d=HA (.dK kvs)/\kvs.length<=i/\∀k<i,Ih kvs (.inr<|nm nms k)=HA (Pc nms<|bo bs k))
  ⟨B,HD,[],Z,X,Al _,λk hk=>absurd hk<|Bj _⟩ (λi σ H' _ h=>SqL.of<|h.1 _ _ y) ?_ ?_⟩)
 .intro i x σ H' n w';obtain⟨e,l,kvs,rfl,j,J,q⟩:=w';have C:i<nms.length:=by rw[<- f.1];exact(Ac.mp n).1
  obtain⟨p,dx,fs,rfl,s,D,L⟩:=(f.2 i x n).same e;refine(HL<|Ut s T.k7 (qp T.k8 Ud) L<|HY<|Ut s T.k7 (qp T.k8 Ud) D<|HP d _ ⟨Z,DPut.k (k:=.inr<|nm nms i) j (by rw[Bv];have:=v.sm;lia),?_⟩);exact⟨JP e R,_,_,Z,qk,Az (T5 _ _ _)<|CB J,qwh v.nd C q⟩
 .intro σ W w';obtain⟨e,l,kvs,rfl,j,J,q⟩:=w';rw[f.1]at q;refine⟨JZ,λt m=>?_⟩;have A:=e.trans<|qx (o:=.lst []) m;have G:=qx (o:=.lst []) m _ _ j;have g:=qk (H:=W) (a:=t) (o:=.lst []);have M:=e.free m;have O:d≠t:=λz=>by rw[<- z,j]at m;cases m
  generalize upd W t _=H2 at A G g |-;refine(HL ⟨_,Z,⟨_,SqL.of<|A _ _ y⟩,KE (K:=K) (a:=u) (xs:=us) (λi σ H'=>Same H H'/\H' d=HA (.dK kvs)/\H' t=HA (.lst<|(JI nms bs i).map V.str)/\∃l:tX,σ=[HA<|.ref u,HA<|.ref d,l,HA<|.ref t])
   ⟨A,G,g,_,Z⟩ (λi σ H' _ h=>SqL.of<|h.1 _ _ y) ?_ ?_⟩)
  .intro i x σ H' n w';obtain⟨e,j,g,l,rfl⟩:=w';have C:i<nms.length:=by rw[<- f.1];exact(Ac.mp n).1
   obtain⟨p,dx,fs,rfl,s,D,L⟩:=(f.2 i x n).same e;refine HY<|Ut s T.k7 (qp T.k8 Ud) D<|HY<|Ic _ _ _ _ nms bs rk _ ⟨i,Z,j,g,v,C,Z,q,λ_ U _ Y e1=>?_⟩;refine HP _ _ ⟨Z,SqL.of e1,λS F=>?_⟩;have r:=Y.trans<|qx (o:=.lst ((JR nms bs (JI nms bs i) 7 i).map V.str).reverse) F;have N:=qk (H:=U) (a:=S) (o:=.lst ((JR nms bs (JI nms bs i) 7 i).map V.str).reverse);generalize upd U S _=H4 at r N |-;refine(Hv _ _ _ _ ⟨Z,Z,r _ _ g,N,JJ (by have a:=qs0 nms bs i;have b:=XE nms bs (JI nms bs i) 7 i;have c:=v.sm;rw[B3,Ab,Ab];lia),?_⟩);refine⟨JP (e.trans r) M,(qr O).trans<|r _ _ j,?_,_,Z⟩;rw[qk,Xh,<- List.map_reverse,<- Aq]
  .intro σ H' w';obtain⟨e,j,g,l,rfl⟩:=w';rw[f.1]at g;exact HL<|k t H' M e g
theorem qoq (T:Txt K mg a):FnOk P w K mg base Hw 1 a.Ah a.Bw (ap Xu) WW:=by
 refine T.lW.fn.ko qnw λH _ Q E _ h=>?_;obtain⟨i,_,_,e,yr,rfl,X,⟨us,p,ty⟩,_,k⟩:=h;refine IE (rT<|Rv (Kz Oe (qv IL (qv Iw (pv 0) qi) qi) (pv 1) (by with_unfolding_all rfl))<|Lp<|zd (qxl Z) (by rfl) T.nM OD<|qd (Tr (N:=["first","last","within"]) (js:=[HD,HD,HA 0]) (XN:=["within","week","yearly"]) (xs:=Iy Xu) Z Z Z Uk (Jk<|pv 2) (λ_ _ _ _ _ _=>Px (K:=K) Z (n:=2) Z<|Ip (Lr (i:=0) (show Ct (["first","last","within"]:tG) from by decide +kernel) Z (C6 Z)<|CG Z)<|Ip (Lr (i:=1) (show Ct (["first","last","within"]:tG) from by decide +kernel) Z (C6 Z)<|CG Z) K0) (λ_ _ _ _ _ _=>Tu)<|λ_ _ _ _ _ _=>qrn Kg Kg (pv 0) (pv 2)<|pv 1) qg ML) ?_;intro _;dsimp only[IP];refine HL<|IJ (pos Ud)<|HV<|HL<|HP _ _ ⟨Z,.inl<|SqL.of X,Z,qC _,IB Z ?_⟩;show if Ko (.int<|i % 7+1) (e.map V.int)=HG then _ else _;rw[oR];have c:=λH' s=>k H' s;unfold fy at c;cases A:e.contains (i % 7+1) with
 |true =>rw[A,Bool.true_or]at c;exact Ii (c _<|Same.refl H)
 |false =>
  rw[A]at c;have lu:us.length=yr.length:=by rw[ty.length,Ab]
  refine Ia<|HL ⟨_,Z,⟨_,SqL.of p⟩,?_⟩;let f:V->V:=λv=>match v with
   |.ref b=>match H b with
    |some (.tup [.int x,.int y])=>.bl (decide (x<=i) && decide (i<=y))
    |_=>.non
   |_=>.non
  refine qpo f (λσ'=>∃o m,σ'=[o,m,HA<|.int i]) (Xp<|SqL.of p) (JJ<|sZ) (HP HD HD Z) (λv σ' H' RR B Y D q=>?_) (Uq λxs σ' H' RR _ h z=>?_) λF _ _ J l=>?_
  .obtain⟨o,m,rfl⟩:=D;obtain⟨j,G⟩:=Bx B;obtain⟨b,t,rfl,U,u⟩:=ty.get' G;obtain⟨r,_,rfl⟩:=oa U;have S:f (.ref b)=.bl (decide (r.1<=i) && decide (i<=r.2)):=by show (match H b with|some (.tup [.int x,.int y])=>V.bl (decide (x<=i) && decide (i<=y))|_=>.non)=_;rw[u];rfl
   have q:=q [HA<|.int r.1,HA<|.int r.2,HA<|.int i] H' (HP _ _ Z)<|Same.refl H';rw[S]at q;refine HP _ _ ⟨Z,SqT.of<|Y _ _ u,Z,_,_,Z,_,_,Z,Z,HY<|HV<|IB Z ?_⟩;by_cases d:r.1<=i
   .rw[HJ d,Bool.true_and]at q;exact Je d<|HL<|HV q
   .rw[HM d,Cy]at q;exact JU d q
  .obtain⟨W,C,R,L,M,l,z⟩:=z;exact HP W C ⟨R,L,M,l,⟨z.1,h _ _ z.2⟩⟩
  have I:us.map f=(yr.map λr=>decide (r.1<=i) && decide (i<=r.2)).map V.bl:=by rw[Cc];exact qr2 (g:=f) ty λb r O=>by show (match H b with|some (.tup [.int x,.int y])=>V.bl (decide (x<=i) && decide (i<=y))|_=>.non)=_;rw[O];rfl
  refine(HP F (yr.map λr=>decide (r.1<=i) && decide (i<=r.2)) ⟨Z,SqL.of<|by rw[l,I],?_⟩);show Q (.bl<|(yr.map λr=>decide (r.1<=i) && decide (i<=r.2)).any λb=>b) _;rw[List.any_map];exact c _ J
theorem qth (T:Txt K mg a):FnOk P w K mg base Hw 1 a.Ai a.Bx (ap aP) iU:=by
 refine T.l7.fn.ko qP λH _ Q E _ h=>?_;obtain⟨p,bs,rfl,u,_,k⟩:=h;refine IE (qf (sI 1 qP.nd<|zh<|qd qi qg ql)
  (qf (JD Av Z (Jk<|pv 0) (gI 2 qP.nd)<|qj<|qz<|Jo A0 A5 A6 KF (pv 1)<|qd (Rp (zf<|pv 2) (pX zr (pv 1)<|KN KQ qi)<|qv IL (pX zr (pv 1)<|KN KQ qi) qi) qg MK)
  (rT<|pv 1))) ?_
 intro _;dsimp only[IP];refine⟨JJ (by show 1<=100000;decide),λq g=>?_⟩;have s:=qx (o:=.lst [V.int 0]) g;refine(HL ⟨_,Z,⟨_,SqL.of<|s _ _ u⟩,KE (K:=K) (a:=p) (xs:=bs.map V.bl) (λi σ H'=>Same H H'/\H' q=HA (.lst<|((An<|i+1).map λk=>IU bs k).map V.int)/\∃v:tX,σ=[HA<|.ref p,HA<|.ref q,v])
  ⟨s,qk,HD,Z⟩ (λi σ H' _ h=>SqL.of<|h.1 _ _ u) ?_ ?_⟩)
 .intro i x σ H' d w';obtain⟨j,c,v,rfl⟩:=w';rw[Ai]at d;cases ex:bs[i]? with
  |none=>rw[ex]at d;cases d
  |some b =>
   rw[ex]at d;cases d;have hi:i<bs.length:=(Ac.mp ex).1;have t:∀m,((An<|m+1).map λk=>IU bs k).map V.int=((An m).map λk=>IU bs k).map V.int++[V.int<|IU bs m]:=λm=>by rw[Bs,Aq,Aq];rfl
   have e:(((An<|i+1).map λk=>IU bs k).map V.int).length<=90000:=by rw[Ab,Ab,Ar];lia
   have r:=c;rw[t]at r;have f:∀z,z=IU bs (i+1)->Same H (upd H' q<|.lst<|((An<|i+1).map λk=>IU bs k).map V.int++[V.int z])/\upd H' q (.lst<|((An<|i+1).map λk=>IU bs k).map V.int++[V.int z]) q=HA (.lst<|((An<|i+1+1).map λk=>IU bs k).map V.int)/\True:=λz y=>by subst y;exact⟨JP j g,by rw[qk,t<|i+1],trivial⟩
   refine HL ⟨.inl ⟨Z,_,SqL.of c⟩,HL<|IB Z ?_⟩;cases b with
   |true =>obtain⟨n,l,_⟩:=f (IU bs i) (by rw[oQ ex];rfl);exact Ii (HL<|IB Z<|Ib r (T1 _ _)<|HW _ _ _ ⟨Z,Z,c,KI e,n,l,_,Z⟩)
   |false =>obtain⟨n,l,_⟩:=f (IU bs i+1) (by rw[oQ ex];rfl);exact Ia<|HL<|IB Z<|Ib r (T1 _ _)<|HV<|HW _ _ _ ⟨Z,Z,c,KI e,n,l,_,Z⟩
 .intro σ H' w';obtain⟨j,c,v,rfl⟩:=w';rw[Ab]at c;exact HL<|k q H' g j c
def qti (T:Txt K mg a):FnOk P w K mg base Hw 2 a.Aj a.By (ap aM) iG:=by refine T.fH.fn.ko qsj λH _ Q E b h=>?_;obtain⟨n,rfl,d,c,k⟩:=h;refine IE (rT<|Lc (pD T.gE (Z6 T) b<|aL 0)<|Lp<|qrn Kg Kg qi (pv 0) qi) ?_;intro _;refine HL<|IB Z<|IB Z<|Ii<|HL<|HV<|Hx<|Je d<|HV ?_;show Q (.bl<|decide (n<=7)) H;rw[HJ c];exact k
def qrg (T:Txt K mg a):FnOk P w K mg base Hw 3 a.Ak a.Bz (ap cE) So:=by
 refine T.dH.fn.ko qT λH _ Q E s h=>?_;obtain⟨p,b,rfl,g,ok,k⟩:=h;refine IE (qj<|JD Av Z (ZQ Z T.gM<|aL 0) (Kw Z<|Ip (gI 1 qT.nd)<|Ip (gI 2 qT.nd) K0)<|qj<|zb (PW.pt<|Kh (pC JO (pv 1)<|LG (v:=.int 6) Z T.nK.choose_spec ⟨_,Z⟩)<|Kh (Kx<|zf<|pD T.fH (qti T) s<|aL 2)<|Ku<|qt Oe (pv 2) (Xa XM (pv 0) XI<|Vf<|pv 1) (by with_unfolding_all rfl)) (qj Vo) IG) ?_;intro _;dsimp only[IP];have j:=ok.len;refine HL<|HP _ _ ⟨Z,g,Zt (K:=K) (a:=p) (xs:=b.map V.int) (λi σ H'=>Same H H'/\∃f e:tX,σ=[HA<|.ref p,f,e]) ⟨Same.refl H,HD,HD,Z⟩ (λi σ H' _ h=>SqL.of<|h.1 _ _ g) ?_ ?_⟩
 .rintro i x t σ H' c ⟨d,f,e,rfl⟩ A;rw[Ai]at c;cases ex:b[i]? with|none=>rw[ex]at c;cases c|some n =>rw[ex]at c;cases c;have r:i<b.length:=(Ac.mp ex).1;have l:=ok.rng n<|Au ex;have m:=qx (o:=.tup [V.int (i:Int),V.int n]) A;refine HP _ _ ⟨Z,SqT.of qk,Z,_,_,Z,_,_,Z,Z,?_⟩;refine HL ⟨Z,Hx<|JU (λz=>absurd (Int.ofNat.inj<|V.int.inj z)<|AD<|Ay r j)<|HL ⟨_,Z,l.1,l.2,Hx<|Ia<|Jw ⟨_,Z,_,_,Z,SqL.of<|m _ _<|d _ _ g,λq y=>?_⟩⟩⟩;rw[qsl (b.map V.int) i (by rw[Ab];exact Bt r),<- List.map_take];have u:=qx (o:=.lst<|(b.take i).map V.int) y;refine HP _ _ ⟨Z,.inl<|SqL.of qk,Z,qC _,IB Z ?_⟩;show if Ko (.int n) ((b.take i).map V.int)=HG then _ else _;rw[oR,dup ok.nd ex];exact Ia ⟨(d.trans m).trans u,_,_,Z⟩
 .intro σ H' w';obtain⟨d,f,e,rfl⟩:=w';exact k _ d
def qu0 (T:Txt K mg a):FnOk P w K mg base Hw 3 a.Al a.B0 (ap Z0) iE:=by
 refine T.fD.fn.ko que λH _ Q E c h=>?_;obtain⟨p,r,rfl,b,g,e,d,f,k⟩:=h;refine IE (qf (zb (Kx<|PW.pt<|KC (zf<|zd Ki (by rfl) T.kE KR<|aN 0<|qd (KD (v:=.ty "tuple") Z T.kR T3 Z) qg qe)<|KW<|pC JO (zd Ka (by rfl) T.kG KY<|aL 0) qi) (rT JV) IG)
  (rT<|Lc (pD T.bC (qjd T) c<|qd (pX zq (pv 0) qi) (qd (pX zq (pv 0) qi) (qd (LG (v:=.int 30) Z T.mZ.choose_spec ⟨_,Z⟩) qg qe) zn) zn)<|Lp<|Kz Kl (pX zq (pv 0) qi) (LG (v:=.int 364) Z T.bT.choose_spec ⟨_,Z⟩)<|LD _)) ?_
 intro _;dsimp only[IP];refine HL<|Hv _ _ _ _ ⟨Z,.tup b,rG,Hx<|Ii<|HL<|HP _ _ ⟨Z,.inr ⟨_,SqT.of b,Z⟩,Z,Hx<|Ia ?_⟩⟩;refine HL<|IH b Z<|HL<|IH b Z<|HW _ _ _ ⟨Z,g,e,d,Hx<|Ii<|HL<|IH b Z<|HV ?_⟩;show Q (.bl<|decide (r.2<364)) H;rw[HJ f];exact k
def qor (T:Txt K mg a):FnOk P w K mg base Hw 4 a.Am a.B1 (ap cJ) Sn:=by
 refine T.bV.fn.ko rD λH _ Q E m h=>?_;obtain⟨p,yr,rfl,⟨us,j,l⟩,ok,k⟩:=h;refine IE (qj<|JD Av Z (ZQ Z T.gM<|aL 0) (Kw Z<|Ip (gI 1 rD.nd)<|Ip (gI 2 rD.nd) K0)<|qj<|zb (PW.pt<|Kh (pC JO (pv 1)<|LG (v:=.int 4) Z T.nY.choose_spec ⟨_,Z⟩)<|Ku<|Kx<|zf<|pD T.fD (qu0 T) m<|aL 2) (qj Vo) IG) ?_;intro _;dsimp only[IP];have hlen:=ok.len;have lu:us.length=yr.length:=by rw[l.length,Ab]
 refine HL<|HP _ _ ⟨Z,j,Zt (K:=K) (a:=p) (xs:=us) (λi σ H'=>Same H H'/\∃e d:tX,σ=[HA<|.ref p,e,d]) ⟨Same.refl H,HD,HD,Z⟩ (λi σ H' _ h=>SqL.of<|h.1 _ _ j) ?_ ?_⟩
 .rintro i x t σ H' n ⟨c,e,d,rfl⟩ q;obtain⟨y,_,rfl,s,u⟩:=l.get' n;obtain⟨r,g,rfl⟩:=oa s;have hi:i<yr.length:=(Ac.mp g).1;have b:=ok.rng r<|Au g;have f:=qx (o:=.tup [V.int (i:Int),V.ref y]) q;refine HP _ _ ⟨Z,SqT.of qk,Z,_,_,Z,_,_,Z,Z,?_⟩;exact(HL ⟨Z,Hx<|JU (λz=>by have:=V.int.inj z;lia)<|HL<|HP _ _ ⟨Z,f _ _<|c _ _ u,b.1,b.2.1,b.2.2.1,b.2.2.2,Hx<|Ia ⟨c.trans f,_,_,Z⟩⟩⟩)
 .intro σ H' w';obtain⟨c,e,d,rfl⟩:=w';exact k _ c
def qW (T:Txt K mg a):FnOk P w K mg base Hw 1 a.An a.B2 (ap cQ) iL:=by
 refine T.gG.fn.ok qo4 (λvs H Q E h=>?_)<|λ_ A _ s H vs Q E _ h=>?_
 .obtain⟨rfl,_⟩|⟨_,rfl,_⟩:=h
  all_goals rfl
 .obtain h:=h;refine IE (rT<|Rp (pC KP (pv 0) Io) (zh qg)<|pv 0) ?_;intro _;rcases h with ⟨rfl,k⟩|⟨p,rfl,k⟩
  .exact(HL ⟨Z,Hx<|Je Z ⟨JZ,λq b=>k q b⟩⟩)
  .exact(HL ⟨Z,Hx<|JU sh<|HL k⟩)
def P9 (T:Txt K mg a):FnOk P w K mg base Hw 3 a.Ao a.B3 (ap Yy) iJ:=by
 refine T.dL.fn.ko PM λH _ Q E c h=>?_;obtain⟨p,r,rfl,b,ok,k⟩:=h;refine IE (rT<|Lc (pD T.bC (qjd T) c<|qd (pX zq (pv 0) qi) (qd (pX zq (pv 0) qi) (qd (LG (v:=.int 40) Z T.nD.choose_spec ⟨_,Z⟩) qg qe) zn) zn)<|Lc (zd Ki (by rfl) T.kE KR<|qd (pX zq (pv 0) qi) (qd (KD (v:=.ty "str") Z T.kZ Xc Z) qg qe) zn)<|Lp<|Kz Oe (pX zq (pv 0) qi) (LG (v:=.ref a.AH) Z T.mD Z) (by with_unfolding_all rfl)) ?_;intro _;dsimp only[IP];obtain⟨i,f,d,g⟩:=ok;refine HL<|IH b Z<|HL<|IH b Z<|HW _ _ _ ⟨Z,i,f,d,Hx<|Ii<|HL<|IH b Z<|Hv _ _ _ _ ⟨Z,.str _,Xs,Hx<|Ii<|HL<|IH b Z<|HP _ _ ⟨Z,.inr<|T.mM _,Z,Z,?_⟩⟩⟩;have e:Ko (.str r.2.2) [.str<|Aa "free",.str<|Aa "open"]=HG:=by rcases g with z|z <;>rw[z] <;>decide +kernel
 show Q (.bl<|Ko (.str r.2.2) [.str<|Aa "free",.str<|Aa "open"]) H;rw[e];exact k
def qrh (T:Txt K mg a):FnOk P w K mg base Hw 4 a.Ap a.B4 (ap cD) Sq:=by
 refine T.lN.fn.ko qS λH _ Q E m h=>?_;obtain⟨p,rs,rfl,⟨us,g,j⟩,_,ok,k⟩:=h;refine IE (qj<|JD Av Z (ZQ Z T.gM<|aL 0) (Kw Z<|Ip (gI 1 qS.nd)<|Ip (gI 2 qS.nd) K0)<|qj<|zb (PW.pt<|Kh (pC JO (pv 1)<|LG (v:=.int 12) Z T.nL.choose_spec ⟨_,Z⟩)<|Ku<|Kx<|zf<|pD T.dL (P9 T) m<|aL 2) (qj Vo) IG) ?_;intro _;dsimp only[IP];have lu:us.length=rs.length:=by rw[j.length,Ab]
 refine HL<|HP _ _ ⟨Z,g,Zt (K:=K) (a:=p) (xs:=us) (λi σ H'=>Same H H'/\∃d c:tX,σ=[HA<|.ref p,d,c]) ⟨Same.refl H,HD,HD,Z⟩ (λi σ H' _ h=>SqL.of<|h.1 _ _ g) ?_ ?_⟩
 .rintro i x t σ H' n ⟨b,d,c,rfl⟩ q;obtain⟨y,_,rfl,s,u⟩:=j.get' n;obtain⟨r,f,rfl⟩:=XH s;have hi:i<rs.length:=(Ac.mp f).1;have l:=ok r<|Au f;have e:=qx (o:=.tup [V.int (i:Int),V.ref y]) q;refine HP _ _ ⟨Z,SqT.of qk,Z,_,_,Z,_,_,Z,Z,?_⟩;exact(HL ⟨Z,Hx<|JU (λz=>by have:=V.int.inj z;lia)<|HL<|HP _ _ ⟨Z,e _ _<|b _ _ u,l,Hx<|Ia ⟨b.trans e,_,_,Z⟩⟩⟩)
 .intro σ H' w';obtain⟨b,d,c,rfl⟩:=w';exact k _ b
def aG (T:Txt K mg a):FnOk P w K mg base Hw 1 a.Aq a.B5 (ap aK) (S4 K):=by
 refine T.gF.fn.ko qsk λH _ Q E _ h=>?_;obtain⟨l,d,i,rfl,b,f,k⟩:=h;refine IE (qf (zb (pC Kl (pv 1)<|zd Ka (by rfl) T.kG KY<|aL 0) (rT<|pX zr (pv 0)<|pv 1) IG)
  (rT qi)) ?_
 intro _;dsimp only[IP];refine HY<|HP _ _ ⟨Z,.inl ⟨_,b,Z⟩,HV<|IB Z ?_⟩;refine IK (λc=>?_)<|λc=>?_
 .exact(HY<|Hv _ _ _ _ ⟨Z,Z,b,OH f<|HK c,k⟩)
 .have e:cell d i=0:=OC<|λz=>c<|HJ z;rwa[e]at k
def LI (T:Txt K mg a):FnOk P w K mg base Hw 2 a.Ar a.B6 (ap Zz) (WV K):=by
 refine T.kJ.fn.ko qnx λH _ Q E b h=>?_;obtain⟨l,_,i,rfl,c,d,_,k⟩:=h;refine IE (qf (sI 2 qnx.nd<|qv IL (qv IL (pD T.gF (aG T) b<|aN 0<|aL 1) qi)<|qv Jc (pv 1)<|pv 1)
  (rT<|qv Iw (qv Jc (qv Iw (qv Jc (pv 2) qi) qi)<|qv IL qi<|qv Jc qi<|pv 1) qi)) ?_
 intro _;dsimp only[IP];refine(HY<|HW _ _ _ ⟨Z,c,d,HV<|HY<|HV ⟨.inr ⟨sZ,sZ⟩,HV ?_⟩⟩);dsimp only[Ja,AT,AU];refine(HL<|HV ⟨.inr ⟨Ud,Ud⟩,IJ (pos Ud)<|HL<|HV ⟨.inl ⟨Ud,Ud⟩,HV<|HV ⟨.inr ⟨sZ,sZ⟩,IJ (pos Ud) ?_⟩⟩⟩);exact k
def qos (T:Txt K mg a):FnOk P w K mg base Hw 1 a.At a.B7 (ap Zy) O2:=by
 refine T.bI.fn.ko Lu λH _ Q E _ h=>?_;obtain⟨c,m,rfl,_,k⟩:=h;refine IE (qf (sI 2 Lu.nd zg)
  (qf (sI 3 Lu.nd<|qv IL qi<|qv Iw (pv 0) qi)
  (qf (sI 4 Lu.nd<|qv Iw (qv JL (pv 0) qi)<|pv 3)
  (qf (sI 5 Lu.nd<|zh qg)
  (qf (JD Av Z (LH Z T.kK<|aL 1) (gI 6 Lu.nd) (qf (sI 7 Lu.nd<|pX zr (zh<|aN 3<|qd (qv IL qi<|qv Iw (pv 6)<|pv 3) qg zm)<|qv Iw (qv JL (pv 0) qi) qi)
  (qf (sI 8 Lu.nd zg)
  (qf (JD Av Z (LH Z T.kK<|aL 7) (gI 9 Lu.nd) (qf (sI 10 Lu.nd<|qv IL (qv JL (pv 0) qi)<|qv Jc (qv Jc qi<|pv 9)<|pv 9)
  (qf (zb (pC JO (pv 9)<|zd (qpc Z) (by rfl) T.fP qsd<|aN 4<|qd (qv Jq (pv 7) qi) qg zm) (qj<|sI 10 Lu.nd<|qv IL (pv 10)<|pv 6) IG)
  (qj<|sI 8 Lu.nd<|qv qtv (pv 8)<|pX Ue (pv 2)<|qv Iw (pv 10) qi))))
  (qj<|qz<|Jo A0 A5 A6 KF (pv 5)<|aL 8)))))
  (rT<|pv 5)))))) ?_
 intro _;dsimp only[IP];have N:=U7;have zs:=jL c;refine HL<|IJ (pos Ud)<|HV ?_;refine(HL<|IJ ⟨Ud,Ud⟩<|HL<|HV ⟨(show 0<Kd c by lia),JZ,λq s=>?_⟩);obtain⟨v,B⟩:=IY (o:=.lst []) s;generalize upd H q _=H1 at v B |-;refine(HL ⟨_,Z,sZ,sZ,Mj (lo:=0) (n:=((m:Int)).toNat) (λi σ H'=>Same H H'/\H' q=HA (.lst<|(Lg c i).map V.str)/\∃u l t d b:tX,σ=[HA<|.int c,HA<|.int (m:Int),HA<|.str az,HA<|.int<|Kd c,HA<|.int<|c / 8 % Kd c,HA<|.ref q,u,l,t,d,b]) ⟨v,B,HD,HD,HD,HD,HD,Z⟩ ?_ ?_⟩)
 .intro i σ H' M w';obtain⟨r,f,u,l,t,d,b,rfl⟩:=w';have M:i<m:=by lia
  have ff:=ZJ c (i:Int);rw[BD];refine(Jw<|HV ⟨(show 0<Kd c by lia),HV ⟨Ke _ _,λJ y=>?_⟩⟩);dsimp only[];obtain⟨g,x⟩:=IY (o:=.lst [V.int<|Kd c,V.int<|1+(i:Int) % Kd c]) y;generalize upd H' J _=H3 at g x |-;refine HL<|IJ ⟨Ud,Ud⟩<|IJ (pos Ud)<|Ib x (Uu c (i:Int)) ?_;refine(HL ⟨_,Z,sZ,sZ,Mj (lo:=0) (n:=(Kq c (i:Int)).toNat) (λj σ H'=>H'=H3/\∃d b:tX,σ=[HA<|.int c,HA<|.int (m:Int),HA<|.str az,HA<|.int<|Kd c,HA<|.int<|c / 8 % Kd c,HA<|.ref q,HA<|.int (i:Int),HA<|.int<|Kq c (i:Int),HA<|.str ⟨(wl c (i:Int) j).toArray⟩,d,b]) ⟨Z,_,_,Z⟩ ?_ ?_⟩)
  .intro j σ G F w';obtain⟨rfl,d,b,rfl⟩:=w';have F:(j:Int)<Kq c (i:Int):=by lia
   rw[BD];have C:=ME (wl c (i:Int) j)<|97+(OM c (i:Int) (j:Int) % 26).toNat;rw[<- Oj]at C;have I:(wl c (i:Int) j).length=j:=by unfold wl;rw[Ab,Ar]
   apply eV (p:=λo=>o=OM c (i:Int) (j:Int))
   .intro A;refine(HL<|IJ ⟨Ud,Ud⟩<|HL<|HV ⟨.inl ⟨Ud,Ud⟩,HL<|HV ⟨.inr ⟨sZ,sZ⟩,HV ?_⟩⟩);dsimp only[Ja,AT,AU];refine Jw<|HV<|HP _ _ ⟨Z,Z,Hx<|IK (λe=>?_)<|λe=>?_⟩
    rotate_left
    .have e:¬(j:Int)=Lh c (i:Int):=λz=>e<|HJ<|HR V.int z;have D:c / 64+7*(j:Int)*(j:Int)=OM c (i:Int) (j:Int):=by unfold OM;rw[HF e]
     generalize c / 64+7*(j:Int)*(j:Int)=o at D |-;exact A o D
    .have e:(j:Int)=Lh c (i:Int):=V.int.inj<|HK e;exact(HY<|HV<|A _ (by unfold OM;rw[HI e]))
   .rintro o rfl;refine(Jw<|IJ (pos Ud)<|HW _ _ _ ⟨Z,Z,JJ (by rw[N];decide),YX,_,_,Z,Z,JJ (by show (wl c (i:Int) j).toArray.size+1<=_;rw[Ah,I];lia),Z,HA<|.int (j:Int),HA<|.int<|OM c (i:Int) (j:Int),?_⟩);rw[C];rfl
  .intro σ G w';obtain⟨rfl,d,b,rfl⟩:=w';have L:((Lg c i).map V.str).length<=90000:=by rw[Ab,ZI];lia
   refine HL ⟨.inl ⟨Z,_,SqL.of<|g _ _ f⟩,HL<|HW _ _ _ ⟨Z,Z,g _ _ f,KI L,JP (r.trans g) s,?_,_,_,_,_,_,Z⟩⟩;rw[Lz,Aq,qk];rfl
 .intro σ H' w';obtain⟨r,f,u,l,t,d,b,rfl⟩:=w';rw[Bb]at f;exact HL<|k q H' s r f
def qu1 (T:Txt K mg a):FnOk P w K mg base Hw 1 a.AD a.B8 (ap Oc) (MO a):=by
 refine T.l6.fn.ok quf (λvs H Q E h=>?_)<|λ_ A _ s H vs Q E _ h=>?_
 .obtain⟨_,_,_,_,_,_,_,_,_,_,rfl,_⟩:=h
  all_goals rfl
 .obtain⟨x,n,b,c,d,f,i,l,m,g,rfl,hx,k⟩:=h;refine IE (qf (Jb (pv 0) (pv 1) Z)
   (qf (Jb (pv 0) (pv 2) Z)
   (qf (Jb (pv 0) (pv 3) Z)
   (qf (Jb (pv 0) (pv 4) Z)
   (qf (Jb (pv 0) (pv 5) Z)
   (qf (Jb (pv 0) (pv 6) Z)
   (qf (Jb (pv 0) (pv 7) Z)
   (qf (Jb (pv 0) (pv 8) Z)
   (qf (Jb (pv 0) (zh qg) Z)
   (qf (Jb (pv 0) (zh qg) Z)
   (qf (Jb (pv 0) (zh qg) Z)
   (qj<|Jb (pv 0) (zh qg) Z)))))))))))) ?_
  intro _;dsimp only[IP];have b0:SameBut x H H:=λ_ _ _ e=>e;have x0:=hx;refine(HY<|Hv _ _ _ _ ⟨Z,x0,T.k7,qp T.k8 Ud,(show 0<1000 by decide),?_⟩);rw[show Ij (Aa "name") b []=(Wh b) by with_unfolding_all rfl];have b1:SameBut x H (upd H x<|.ins a.B n<|Wh b):=b0.set;have x1:=qk (H:=H) (a:=x) (o:=.ins a.B n<|Wh b);generalize upd H x _=H1 at b1 x1 |-;refine(HY<|Hv _ _ _ _ ⟨Z,x1,T.k7,qp T.k8 Ud,(show 1<1000 by decide),?_⟩);rw[show Ij (Aa "who") c (Wh b)=(Wg b c) by with_unfolding_all rfl];have b2:SameBut x H (upd H1 x<|.ins a.B n<|Wg b c):=b1.set;have x2:=qk (H:=H1) (a:=x) (o:=.ins a.B n<|Wg b c);generalize upd H1 x _=H2 at b2 x2 |-;refine(HY<|Hv _ _ _ _ ⟨Z,x2,T.k7,qp T.k8 Ud,(show 2<1000 by decide),?_⟩);rw[show Ij (Aa "owes") d (Wg b c)=(Wf b c d) by with_unfolding_all rfl];have b3:SameBut x H (upd H2 x<|.ins a.B n<|Wf b c d):=b2.set;have x3:=qk (H:=H2) (a:=x) (o:=.ins a.B n<|Wf b c d);generalize upd H2 x _=H3 at b3 x3 |-;refine(HY<|Hv _ _ _ _ ⟨Z,x3,T.k7,qp T.k8 Ud,(show 3<1000 by decide),?_⟩);rw[show Ij (Aa "opens") f (Wf b c d)=(We b c d f) by with_unfolding_all rfl];have b4:SameBut x H (upd H3 x<|.ins a.B n<|We b c d f):=b3.set;have x4:=qk (H:=H3) (a:=x) (o:=.ins a.B n<|We b c d f);generalize upd H3 x _=H4 at b4 x4 |-;refine(HY<|Hv _ _ _ _ ⟨Z,x4,T.k7,qp T.k8 Ud,(show 4<1000 by decide),?_⟩);rw[show Ij (Aa "base") i (We b c d f)=(Wd b c d f i) by with_unfolding_all rfl];have b5:SameBut x H (upd H4 x<|.ins a.B n<|Wd b c d f i):=b4.set;have x5:=qk (H:=H4) (a:=x) (o:=.ins a.B n<|Wd b c d f i);generalize upd H4 x _=H5 at b5 x5 |-;refine(HY<|Hv _ _ _ _ ⟨Z,x5,T.k7,qp T.k8 Ud,(show 5<1000 by decide),?_⟩);rw[show Ij (Aa "many") l (Wd b c d f i)=(Wc b c d f i l) by with_unfolding_all rfl];have b6:SameBut x H (upd H5 x<|.ins a.B n<|Wc b c d f i l):=b5.set;have x6:=qk (H:=H5) (a:=x) (o:=.ins a.B n<|Wc b c d f i l);generalize upd H5 x _=H6 at b6 x6 |-;refine(HY<|Hv _ _ _ _ ⟨Z,x6,T.k7,qp T.k8 Ud,(show 6<1000 by decide),?_⟩);rw[show Ij (Aa "unit") m (Wc b c d f i l)=(Wb b c d f i l m) by with_unfolding_all rfl];have b7:SameBut x H (upd H6 x<|.ins a.B n<|Wb b c d f i l m):=b6.set;have x7:=qk (H:=H6) (a:=x) (o:=.ins a.B n<|Wb b c d f i l m);generalize upd H6 x _=H7 at b7 x7 |-;refine(HY<|Hv _ _ _ _ ⟨Z,x7,T.k7,qp T.k8 Ud,(show 7<1000 by decide),?_⟩);rw[show Ij (Aa "still") g (Wb b c d f i l m)=(Wa b c d f i l m g) by with_unfolding_all rfl];have b8:SameBut x H (upd H7 x<|.ins a.B n<|Wa b c d f i l m g):=b7.set;have x8:=qk (H:=H7) (a:=x) (o:=.ins a.B n<|Wa b c d f i l m g);generalize upd H7 x _=H8 at b8 x8 |-;refine⟨JZ,λp J=>?_⟩;obtain⟨s8,j⟩:=IY (o:=.lst []) J;have ah:=s8 _ _ x8;have y:p≠x:=λz=>by rw[z,x8]at J;cases J
  have aq:H p=HD:=b8.free y J;have aj:=b8.trans<|SameBut.of s8;generalize upd H8 p _=J8 at s8 j ah aj  |-;refine(HL<|Hv _ _ _ _ ⟨Z,ah,T.k7,qp T.k8 Ud,(show 8<1000 by decide),?_⟩);rw[show Ij (Aa "ends") (.ref p) (Wa b c d f i l m g)=(VG b c d f i l m g<|.ref p) by with_unfolding_all rfl];have b9:SameBut x H (upd J8 x<|.ins a.B n<|VG b c d f i l m g<|.ref p):=aj.set;have x9:=qk (H:=J8) (a:=x) (o:=.ins a.B n<|VG b c d f i l m g<|.ref p);have j:=(qr (o:=.ins a.B n<|VG b c d f i l m g<|.ref p) y).trans j;generalize upd J8 x _=H9 at b9 x9 j  |-;refine⟨JZ,λr F=>?_⟩;obtain⟨Y,q⟩:=IY (o:=.lst []) F;have ai:=Y _ _ x9;have D:r≠x:=λz=>by rw[z,x9]at F;cases F
  have ao:H r=HD:=b9.free D F;have ae:=Iz j F;have j:=Y _ _ j;have al:=b9.trans<|SameBut.of Y;generalize upd H9 r _=J9 at Y q ai al j |-;refine(HL<|Hv _ _ _ _ ⟨Z,ai,T.k7,qp T.k8 Ud,(show 9<1000 by decide),?_⟩);rw[show Ij (Aa "anew") (.ref r) (VG b c d f i l m g<|.ref p)=(TY b c d f i l m g (.ref p)<|.ref r) by with_unfolding_all rfl];have N:SameBut x H (upd J9 x<|.ins a.B n<|TY b c d f i l m g (.ref p)<|.ref r):=al.set;have X:=qk (H:=J9) (a:=x) (o:=.ins a.B n<|TY b c d f i l m g (.ref p)<|.ref r);have q:=(qr (o:=.ins a.B n<|TY b c d f i l m g (.ref p)<|.ref r) D).trans q;have j:=(qr (o:=.ins a.B n<|TY b c d f i l m g (.ref p)<|.ref r) y).trans j;generalize upd J9 x _=H10 at N X q j |-;refine⟨JZ,λpl B=>?_⟩;obtain⟨G,t⟩:=IY (o:=.lst []) B;have V:=G _ _ X;have I:pl≠x:=λz=>by rw[z,X]at B;cases B
  have am:H pl=HD:=N.free I B;have af:=Iz j B;have ad:=Iz q B;have j:=G _ _ j;have q:=G _ _ q;have R:=N.trans<|SameBut.of G;generalize upd H10 pl _=J10 at G t V R j q |-;refine(HL<|Hv _ _ _ _ ⟨Z,V,T.k7,qp T.k8 Ud,(show 10<1000 by decide),?_⟩);rw[show Ij (Aa "longer") (.ref pl) (TY b c d f i l m g (.ref p)<|.ref r)=(RP b c d f i l m g (.ref p) (.ref r)<|.ref pl) by with_unfolding_all rfl];have O:SameBut x H (upd J10 x<|.ins a.B n<|RP b c d f i l m g (.ref p) (.ref r)<|.ref pl):=R.set;have W:=qk (H:=J10) (a:=x) (o:=.ins a.B n<|RP b c d f i l m g (.ref p) (.ref r)<|.ref pl);have t:=(qr (o:=.ins a.B n<|RP b c d f i l m g (.ref p) (.ref r)<|.ref pl) I).trans t;have j:=(qr (o:=.ins a.B n<|RP b c d f i l m g (.ref p) (.ref r)<|.ref pl) y).trans j;have q:=(qr (o:=.ins a.B n<|RP b c d f i l m g (.ref p) (.ref r)<|.ref pl) D).trans q;generalize upd J10 x _=H11 at O W t j q |-;refine⟨JZ,λu v=>?_⟩;obtain⟨C,L⟩:=IY (o:=.lst []) v;have U:=C _ _ W;have S:u≠x:=λz=>by rw[z,W]at v;cases v
  have fpy:H u=HD:=O.free S v;have dpepy:=Iz j v;have dpapy:=Iz q v;have dplpy:=Iz t v;have j:=C _ _ j;have q:=C _ _ q;have t:=C _ _ t;have M:=O.trans<|SameBut.of C;generalize upd H11 u _=J11 at C L U M j q t |-;refine(HL<|Hv _ _ _ _ ⟨Z,U,T.k7,qp T.k8 Ud,(show 11<1000 by decide),?_⟩);rw[show Ij (Aa "yields") (.ref u) (RP b c d f i l m g (.ref p) (.ref r)<|.ref pl)=(TX b c d f i l m g (.ref p) (.ref r) (.ref pl)<|.ref u) by with_unfolding_all rfl];have ag:SameBut x H (upd J11 x<|.ins a.B n<|TX b c d f i l m g (.ref p) (.ref r) (.ref pl)<|.ref u):=M.set;have ak:=qk (H:=J11) (a:=x) (o:=.ins a.B n<|TX b c d f i l m g (.ref p) (.ref r) (.ref pl)<|.ref u);have L:=(qr (o:=.ins a.B n<|TX b c d f i l m g (.ref p) (.ref r) (.ref pl)<|.ref u) S).trans L;have j:=(qr (o:=.ins a.B n<|TX b c d f i l m g (.ref p) (.ref r) (.ref pl)<|.ref u) y).trans j;have q:=(qr (o:=.ins a.B n<|TX b c d f i l m g (.ref p) (.ref r) (.ref pl)<|.ref u) D).trans q;have t:=(qr (o:=.ins a.B n<|TX b c d f i l m g (.ref p) (.ref r) (.ref pl)<|.ref u) I).trans t;generalize upd J11 x _=H12 at ag ak L j q t |-;exact k H12 p r pl u ag aq ao am ak j q t af ad ae
theorem qyv (T:Txt K mg a):FnOk P w K mg base Hw 3 a.Au a.B9 (ap Xf) (Sm a K):=by
 refine T.lG.fn.ko Ky λH vs Q E hr h=>?_;obtain⟨l,pn,m,L,names,Y,i,rfl,hS,hn,_,hk,_,nk,_,k⟩:=h;refine IE (qf (sI 5 Ky.nd<|pD T.kJ (LI T) hr<|aN 0<|qd (qv IL (pv 1)<|qv Jc qi<|pv 2) qg zm)
  (qf (sI 6 Ky.nd<|pD T.kJ (LI T) hr<|aN 0<|qd (qv IL (qv IL (pv 1)<|qv Jc qi<|pv 2) qi) qg zm)
  (qf (qng (i:=7) Ky.nd Z Z (N:=["_law_j","_law_kinds","_law_one"]) (js:=[HD,HA 4,HA 5]) (XN:=["_law_script","_law_at","_law_k","_law_names","_law_kinds","_law_one","_law_two","_law_mine","_law_base","_law_opens","_law_still_here","_law_unit","_law_many","_law_rule_here","_law_j"]) (xs:=Iy Xf) Z Z Z Uk (LH Z T.kK<|qd qi qg ql) (λ_ _ _ _ _ _=>Lr (i:=0) (show Ct (["_law_j","_law_kinds","_law_one"]:tG) from by decide +kernel) Z (C6 Z)<|CG Z) (λ_ _ _ _ _ _=>Tu)<|λ_ _ _ _ _ _=>pX (qrz (K:=K) Z) (pv 1)<|qv Iw (qv IL (pv 2)<|qv Jc (pv 0)<|qv IL qi<|qv Iw (qv JL (pv 2) qi) qi) qi)
  (qf (sI 8 Ky.nd Io)
  (qf (sI 9 Ky.nd<|pX zr (pv 7) qi)
  (qf (zb (PW.pt<|KC (pC Ta (pv 2) qi)<|KW<|pC Ta (qv Iw (qv JL (pv 5) qi) qi) qi) (qf (sI 8 Ky.nd<|pX zr (pv 3)<|qv Iw (qv JL (pv 5) qi)<|pv 2)
  (qj<|sI 9 Ky.nd Io)) IG)
  (qf (sI 10 Ky.nd Io)
  (qf (zb (pC Ta (qv Iw (qv JL (pv 6) qi) qi) qi) (qj<|sI 10 Ky.nd<|zj<|qd (pX zr (pv 7) qi) (qd (pX zr (pv 7) qi) qg zn) zn) IG)
  (qf (sI 11 Ky.nd<|pX zr (zh<|qd zg (qd zg (qd zg qg ql) ql) ql)<|qv Iw (pv 6) qi)
  (qf (sI 12 Ky.nd<|qv IL qi<|qv Iw (qv Iw (qv JL (pv 6) qi) qi) qi)
  (qf (zb (PW.pt<|KC (pC JO (qv Iw (pD T.kJ (LI T) hr<|aN 0<|qd qi qg ql) qi) qi)<|KW<|pC JO (qv Iw (qv JL (pD T.kJ (LI T) hr<|aN 0<|qd qi qg ql) qi) qi) qi) (qj<|sI 12 Ky.nd<|qv IL (pv 12) qi) IG)
  (qf (sI 13 Ky.nd<|Rm T.nJ (qu1 T) (hr.mono Ud) Z T.nG T.l6.bd .nil IT<|qd (pX zr (pv 3)<|pv 2) (qd (pX zr (pv 3)<|qv IL qi<|qv Iw (qv JL (pv 6) qi) qi) (qd (pX zr (pv 7) qi) (aN 9<|aN 8<|aN 12<|aN 11<|aL 10) zn) zn) zn)
  (qf (JD Av Z (LH Z T.kK<|qd (qv Iw (qv JL (pv 6) qi) qi) qg zm) (gI 14 Ky.nd)<|qj<|qz<|Jo A0 A5 A6 KF (fV 13)<|qd (pX zr (pv 7)<|qv IL qi<|qv Jc qi<|pv 14) qg zn)
  (qf (JD Av Z (LH Z T.kK<|qd (qv Iw (qv JL (pv 6) qi) qi) qg zm) (gI 14 Ky.nd)<|qj<|qz<|Jo A0 A5 A6 KF (fV 13)<|qd (pX zr (pv 7)<|qv IL qi<|qv Jc qi<|pv 14) qg zn)
  (qf (JD Av Z (LH Z T.kK<|qd (qv Iw (qv JL (pv 6) qi) qi) qg zm) (gI 14 Ky.nd)<|qj<|qz<|Jo A0 A5 A6 KF (fV 13)<|qd (zj<|qd (pX zr (pv 7)<|qv IL qi<|pv 14) (qd (qv IL qi<|qv Iw (qv JL (pv 6) qi) qi) (qd (qv IL qi<|qv Iw (qv JL (pv 6) qi) qi) qg zm) zm) zn) qg zo)
  (rT<|pv 13)))))))))))))))) ?_
 intro _;dsimp only[IP];refine(Jw<|HV ⟨.inl ⟨Ud,Ud⟩,HV<|HW l L _ ⟨Z,hS,sZ,sZ,?_⟩⟩);dsimp only[Ja,AT,AU];refine(Jw<|HV ⟨.inl ⟨Ud,Ud⟩,HV<|HV<|HW l L _ ⟨Z,hS,sZ,sZ,?_⟩⟩);dsimp only[Ja,AT,AU];have m1:=Vh L<|4+2*(i:Int);have m2:=Vh L<|4+2*(i:Int)+1;generalize Jn L (4+2*(i:Int))=one at m1 |-;generalize Jn L (4+2*(i:Int)+1)=two at m2 |-;refine⟨_,Z,Ud,Ud,?_⟩;let fm:V->V:=λv=>match v with
  |.int j=>.str (Y.getD ((one+j*(1+one / 11 % 10)) % 11).toNat AN)
  |_=>.non
 refine Z5 fm (λσ'=>∃v,σ'=[v,HA<|.ref m,HA<|.int one]) aY (JJ (by rw[Ab,Ar];decide)) ⟨HD,Z⟩ (λv σ' _ _ hv sm s4 q=>?_) Rl λr bq=>?_
 .obtain⟨v0,rfl⟩:=s4;obtain⟨j,I,rfl⟩:=AQ.mp hv;have I:j<10:=AE.mp I;have q:=q [HA<|.int<|0+(j:Int),HA<|.ref m,HA<|.int one] ⟨_,Z⟩;exact(UJ<|IJ ⟨Ud,Ud⟩<|IJ (pos Ud)<|HV<|HV ⟨.inr ⟨sZ,sZ⟩,HV<|IJ (pos Ud)<|Ib (sm _ _ hk) ((Rc (BP _ Ud) (by have:=Cf (one+(0+(j:Int))*(1+one / 11 % 10)) (show (0:Int)<11 by decide);lia))) q⟩)
 obtain⟨ms,ems,lms,kms⟩:∃ms:tG,((An ((10:Int)).toNat).map λ(j:Nat)=>V.int<|0+(j:Int)).map fm=ms.map V.str/\ms.length=10/\∀i j,i<10->j<10->ms.getD i AN=ms.getD j AN->i=j:=by
  refine⟨(An 10).map λ(j:Nat)=>Y.getD ((one+(0+(j:Int))*(1+one / 11 % 10)) % 11).toNat AN,?_,by rw[Ab,Ar],λp q hp hq e=>?_⟩
  .rw[Cc,Cc];rfl
  .rw[Ak,Ai,AS hp,Ak,Ai,AS hq]at e;exact WO (one:=one) (s:=1+one / 11 % 10) sZ sZ hp hq (qyg nk (by have:=Cf (one+(0+(p:Int))*(1+one / 11 % 10)) (show (0:Int)<11 by decide);have:=BP (one+(0+(p:Int))*(1+one / 11 % 10)) (show (11:Int)≠0 by decide);lia) (by have:=Cf (one+(0+(q:Int))*(1+one / 11 % 10)) (show (0:Int)<11 by decide);have:=BP (one+(0+(q:Int))*(1+one / 11 % 10)) (show (11:Int)≠0 by decide);lia) e)
 rw[ems];obtain⟨s7,e7⟩:=IY (o:=.lst<|ms.map V.str) bq;generalize upd H r _=H7 at s7 e7 |-;dsimp only[Ja,AT,AU];refine(HL<|Ib e7 ((VV (j:=0)<|sZ)) ?_);dsimp only[Ja,AT,AU];apply V6 (p:=λvb vo=>∃(b:tM)(o:Option Str),vb=HA (KS names b)/\vo=HA (KJ o)/\(∀y,b=HA y->y<i)/\(b=HD->∃z,o=HA z)/\(∀y,b=HA y->o=HD)) (f:=λvb vo=>[HA<|.ref l,HA<|.int 4,HA<|.int (i:Int),HA<|.ref pn,HA<|.ref m,HA<|.int one,HA<|.int two,HA<|.ref r,vb,vo,HD,HD,HD,HD,HD]) (J:=H7)
 .intro D;have af:∀o',o'=HA (KJ<|HA<|ms.getD 0 AN)->∃(b:tM)(o:Option Str),HA V.non=HA (KS names b)/\o'=HA (KJ o)/\(∀y,b=HA y->y<i)/\(b=HD->∃z,o=HA z)/\(∀y,b=HA y->o=HD):=λo' e=>(HP HD _ ⟨Z,e,(λy z=>by cases z),λ_=>⟨_,Z⟩,λy z=>by cases z⟩);refine HL<|HV ⟨_,Z,IK (λX=>HL<|IJ ⟨Ud,Ud⟩<|IJ (pos Ud)<|HV ⟨_,Z,IK (λc2=>?_)<|λc2=>?_⟩)<|λX=>?_⟩
  .have X:0<(i:Int):=HK X;have r1:=BP (one / 330) (show (i:Int)≠0 by lia);have r2:=Cf (one / 330) X;refine(HY<|IJ ⟨Ud,Ud⟩<|HL<|HV ⟨X,Ib (s7 _ _ hn) (Rc r1<|sZ) ?_⟩);dsimp only[Ja,AT,AU];refine as2 (σ':=[HA<|.ref l,HA<|.int 4,HA<|.int (i:Int),HA<|.ref pn,HA<|.ref m,HA<|.int one,HA<|.int two,HA<|.ref r,HA<|KS names<|HA (one / 330 % (i:Int)).toNat,HA<|KJ HD,HD,HD,HD,HD,HD]) (by rfl) ?_;exact D _ _ (HP (HA _) HD ⟨Z,Z,(λy z=>by cases z;lia),(λz=>by cases z),λy _=>rfl⟩)
  .exact Kj (σ':=[HA<|.ref l,HA<|.int 4,HA<|.int (i:Int),HA<|.ref pn,HA<|.ref m,HA<|.int one,HA<|.int two,HA<|.ref r,HA V.non,HA<|KJ<|HA<|ms.getD 0 AN,HD,HD,HD,HD,HD]) rfl (D _ _<|af _ Z)
  .exact Ia<|Kj (σ':=[HA<|.ref l,HA<|.int 4,HA<|.int (i:Int),HA<|.ref pn,HA<|.ref m,HA<|.int one,HA<|.int two,HA<|.ref r,HA V.non,HA<|KJ<|HA<|ms.getD 0 AN,HD,HD,HD,HD,HD]) Z<|D _ _<|af _ Z
 intro _ _ w';obtain⟨b,o,rfl,rfl,hb,ho,dc⟩:=w';apply Pf (p:=λvs J=>∃(F:V)(so:Option (Str×Str)),vs=HA F/\Same H7 J/\StAt (Lf H J) F so/\∀z,so=HA z->z.1=ms.getD 6 AN/\z.2=ms.getD 7 AN) (f:=λv=>[HA<|.ref l,HA<|.int 4,HA<|.int (i:Int),HA<|.ref pn,HA<|.ref m,HA<|.int one,HA<|.int two,HA<|.ref r,HA<|KS names b,HA<|KJ o,v,HD,HD,HD,HD])
 .intro D;refine HL<|IJ ⟨Ud,Ud⟩<|IJ (pos Ud)<|HV ⟨_,Z,IK (λc=>?_)<|λc=>?_⟩
  .refine(HL<|Ib e7 ((VV (j:=6)<|sZ))<|HL<|Ib e7 ((VV (j:=7)<|sZ)) ⟨Ke _ _,λt U=>?_⟩);refine JC (σ':=[HA<|.ref l,HA<|.int 4,HA<|.int (i:Int),HA<|.ref pn,HA<|.ref m,HA<|.int one,HA<|.int two,HA<|.ref r,HA<|KS names b,HA<|KJ o,HA<|.ref t,HD,HD,HD,HD]) rfl ?_;exact D (HA<|.ref t) _ (HP (.ref t) (HA (_,_)) ⟨Z,qx U,⟨t,Z,OW (s7.free U) qk⟩,λz e=>by cases e;exact⟨Z,Z⟩⟩)
  .exact Kj (σ':=[HA<|.ref l,HA<|.int 4,HA<|.int (i:Int),HA<|.ref pn,HA<|.ref m,HA<|.int one,HA<|.int two,HA<|.ref r,HA<|KS names b,HA<|KJ o,HA .non,HD,HD,HD,HD]) rfl (D (HA .non) H7<|HP .non HD ⟨Z,Same.refl _,Z,λz e=>by cases e⟩)
 intro _ J w';obtain⟨F,so,rfl,sJ,c7,cp⟩:=w';refine⟨Kk _ _ _,λq3 cz=>?_⟩;obtain⟨s8,e8⟩:=IY (o:=.lst [V.str<|Aa "days",V.str<|Aa "weeks",V.str<|Aa "court"]) cz;generalize upd J q3 _=H8 at s8 e8 |-;refine HL<|IJ (pos Ud)<|Ib e8 (SK two) ?_;have O:=s7.trans<|sJ.trans s8;have m0:=Vh L 0;apply Pf (p:=λv d=>∃C:Int,v=HA (.int C)/\1<=C/\d=H8) (f:=λv=>[HA<|.ref l,HA<|.int 4,HA<|.int (i:Int),HA<|.ref pn,HA<|.ref m,HA<|.int one,HA<|.int two,HA<|.ref r,HA<|KS names b,HA<|KJ o,HA F,HA<|.str<|KM<|Oo two,v,HD,HD])
 .intro D;refine JC (σ':=[HA<|.ref l,HA<|.int 4,HA<|.int (i:Int),HA<|.ref pn,HA<|.ref m,HA<|.int one,HA<|.int two,HA<|.ref r,HA<|KS names b,HA<|KJ o,HA F,HA<|.str<|KM<|Oo two,HD,HD,HD]) rfl ?_;refine HL<|IJ ⟨Ud,Ud⟩<|IJ (pos Ud)<|IJ (pos Ud)<|HV ?_;refine JC (σ':=[HA<|.ref l,HA<|.int 4,HA<|.int (i:Int),HA<|.ref pn,HA<|.ref m,HA<|.int one,HA<|.int two,HA<|.ref r,HA<|KS names b,HA<|KJ o,HA F,HA<|.str<|KM<|Oo two,HA<|.int<|1+two / 3 % 12 % 5,HD,HD]) rfl ?_;have S8:=O.seq hS;refine HL<|HW l L 0 ⟨Z,S8,Ud,Ud,IJ (pos Ud) ⟨Z,_,Z,IK (λX=>HL<|HW l L 0 ⟨Z,S8,Ud,Ud,IJ ⟨Ud,Ud⟩<|IJ (pos Ud) ⟨Z,_,Z,IK (λc2=>?_)<|λc2=>?_⟩⟩)<|λX=>Ia ?_⟩⟩
  rotate_left
  .exact Kj rfl (D (HA<|.int<|1+two / 3 % 12 % 5) H8 ⟨_,Z,sZ,Z⟩)
  .exact Kj rfl (D (HA<|.int<|1+two / 3 % 12 % 5) H8 ⟨_,Z,sZ,Z⟩)
  .refine(HL<|HV ?_);exact D (HA<|.int<|1+two / 3 % 12 % 5+35) H8 ⟨_,Z,sZ,Z⟩
 intro _ d w';obtain⟨C,rfl,ay,eJ⟩:=w';rw[eJ];clear eJ d;have ad:=(sJ.trans s8) _ _ e7;refine(HY<|Ib (O _ _ hn) (VV (j:=i)<|sZ)<|HY<|IJ ⟨Ud,Ud⟩<|IJ (pos Ud)<|HV<|Ib (O _ _ hn) (Rc sZ<|sZ)<|HL<|Ib ad ((VV (j:=1)<|sZ))<|Vv<|λx dx nx nd _=>?_);refine Ic x dx _ _ _ _ _ _<|HP _ _ ⟨Z,qk,λH9 M G pl py b9 bt bu bj W ao ag au al ai aw=>⟨Z,?_⟩⟩;have s9:Same H8 H9:=b9.made nx nd;have keep:=qup (o:=.ins a.B dx []) (u:=.own x) nx nd;have av:=keep.free bt;have ak:=keep.free bu;have aj:=keep.free bj;have am:=O.free nx;have x1:x≠M:=Pg W ao;have x2:x≠G:=Pg W ag;have x3:x≠pl:=Pg W au;dsimp only[Ja,AT,AU];have lp:∀{c:Int},0<=c->c<=2->∀{j:Nat},j<c.toNat->j<2:=λ{c} _ h1 {j} I=>by lia
 have R:∀{d:Hp},(∀b o,b≠M->b≠G->b≠pl->H9 b=HA o->d b=HA o)->Same H8 d:=λ{d} k' b o e=>k' b o (Iz e av) (Iz e ak) (Iz e aj)<|s9 _ _ e;refine(HL<|IJ ⟨Ud,Ud⟩<|IJ (pos Ud) ⟨_,Z,sZ,sZ,Mj (lo:=0) (n:=(two / 216 % 3).toNat) (λj σ d=>(∀b o,b≠M->b≠G->b≠pl->H9 b=HA o->d b=HA o)/\d M=HA (.lst<|((An j).map λq=>ms.getD (2+6*q) AN).map V.str)/\d G=HA (.lst [])/\d pl=HA (.lst [])/\∃g:tX,σ=[HA<|.ref l,HA<|.int 4,HA<|.int (i:Int),HA<|.ref pn,HA<|.ref m,HA<|.int one,HA<|.int two,HA<|.ref r,HA<|KS names b,HA<|KJ o,HA F,HA<|.str<|KM<|Oo two,HA<|.int C,HA<|.ref x,g]) ⟨λ_ _ _ _ _ e=>e,ao,ag,au,HD,Z⟩ ?_ ?_⟩)
 .intro j σ d I w';obtain⟨B,he,ha,A,g,rfl⟩:=w';have I:j<2:=by lia
  have S:=R B _ _ ad;refine(HL<|IA (B _ _ x1 x2 x3 W) T.k7 T.k8 Z ⟨.inl ⟨Z,_,SqL.of he⟩,HY<|HV ⟨.inl ⟨Ud,Ud⟩,HV<|Ib S (Rc sZ<|sZ)<|HW _ _ _ ⟨Z,Z,he,KI (by rw[Ab,Ab,Ar];lia),?_⟩⟩⟩);refine⟨λb o n1 n2 n3 e=>by rw[qr n1];exact B b o n1 n2 n3 e,?_,by rwa[qr<|By aw],by rwa[qr<|By al],_,Z⟩;rw[qk,oJ,show (2+6*(0+(j:Int))).toNat=2+6*j by lia]
 intro σ _ w';obtain⟨k1,ah,cg,bw,g,rfl⟩:=w';generalize bz:((An (two / 216 % 3).toNat).map λq=>ms.getD (2+6*q) AN)=EL at ah;have cw:EL.length<=2:=by rw[<- bz,Ab,Ar];lia
 refine(HL<|IJ ⟨Ud,Ud⟩<|IJ (pos Ud) ⟨_,Z,sZ,sZ,Mj (lo:=0) (n:=(two / 648 % 3).toNat) (λj σ d=>(∀b o,b≠M->b≠G->b≠pl->H9 b=HA o->d b=HA o)/\d M=HA (.lst<|EL.map V.str)/\d G=HA (.lst<|((An j).map λq=>ms.getD (3+6*q) AN).map V.str)/\d pl=HA (.lst [])/\∃g:tX,σ=[HA<|.ref l,HA<|.int 4,HA<|.int (i:Int),HA<|.ref pn,HA<|.ref m,HA<|.int one,HA<|.int two,HA<|.ref r,HA<|KS names b,HA<|KJ o,HA F,HA<|.str<|KM<|Oo two,HA<|.int C,HA<|.ref x,g]) ⟨k1,ah,cg,bw,g,Z⟩ ?_ ?_⟩)
 .intro j σ d I w';obtain⟨B,he,ha,A,g,rfl⟩:=w';have I:j<2:=by lia
  have S:=R B _ _ ad;refine(HL<|IA (B _ _ x1 x2 x3 W) T.k7 T.k8 Z ⟨.inl ⟨Z,_,SqL.of ha⟩,HY<|HV ⟨.inl ⟨Ud,Ud⟩,HV<|Ib S (Rc sZ<|sZ)<|HW _ _ _ ⟨Z,Z,ha,KI (by rw[Ab,Ab,Ar];lia),?_⟩⟩⟩);refine⟨λb o n1 n2 n3 e=>by rw[qr n2];exact B b o n1 n2 n3 e,by rwa[qr aw],?_,by rwa[qr<|By ai],_,Z⟩;rw[qk,oJ,show (3+6*(0+(j:Int))).toNat=3+6*j by lia]
 intro σ _ w';obtain⟨k2,c8,ar,dh,g,rfl⟩:=w';generalize df:((An (two / 648 % 3).toNat).map λq=>ms.getD (3+6*q) AN)=AL at ar;have dg:AL.length<=2:=by rw[<- df,Ab,Ar];lia
 have bc:=O.free aj;refine(HL<|IJ ⟨Ud,Ud⟩<|IJ (pos Ud) ⟨_,Z,sZ,sZ,Mj (lo:=0) (n:=(two / 1944 % 3).toNat) (λj σ d=>(∀b o,b≠M->b≠G->b≠pl->H9 b=HA o->d b=HA o)/\d M=HA (.lst<|EL.map V.str)/\d G=HA (.lst<|AL.map V.str)/\∃us,d pl=HA (.lst us)/\Tups (Lf H d) us (((An j).map λq=>((ms.getD (4+q) AN,1+two / 5832 % 3,1+two / 29160 % 3):Str×Int×Int)).map RO)/\∃g:tX,σ=[HA<|.ref l,HA<|.int 4,HA<|.int (i:Int),HA<|.ref pn,HA<|.ref m,HA<|.int one,HA<|.int two,HA<|.ref r,HA<|KS names b,HA<|KJ o,HA F,HA<|.str<|KM<|Oo two,HA<|.int C,HA<|.ref x,g]) ⟨k2,c8,ar,[],dh,.nil,g,Z⟩ ?_ ?_⟩)
 .intro j σ d I w';obtain⟨B,he,ha,us,A,ht,g,rfl⟩:=w';have I:j<2:=by lia
  have S:=R B _ _ ad;have lu:=ht.length;rw[Ab,Ab,Ar]at lu;have zJ:=O.trans<|R B;refine(HL<|IA (B _ _ x1 x2 x3 W) T.k7 T.k8 Z ⟨.inl ⟨Z,_,SqL.of A⟩,HY<|HV<|Ib S (Rc sZ<|sZ)<|HL<|IJ ⟨Ud,Ud⟩<|IJ (pos Ud)<|HV<|HL<|IJ ⟨Ud,Ud⟩<|IJ (pos Ud)<|HV ⟨Kk _ _ _,λt U=>?_⟩⟩);obtain⟨st,et⟩:=IY (o:=.tup [V.str<|ms.getD (4+(0+(j:Int))).toNat AN,V.int<|1+two / 5832 % 3,V.int<|1+two / 29160 % 3]) U;have ca:t≠pl:=λz=>by rw[z,A]at U;cases U
  generalize upd d t _=Jt at st et |-;refine(HW _ _ _ ⟨Z,Z,st _ _ A,KI<|sZ,?_⟩);have lk2:=st _ _ A;refine⟨λb o n1 n2 n3 e=>by rw[qr n3];exact st _ _<|B b o n1 n2 n3 e,by rw[qr al];exact st _ _ he,by rw[qr ai];exact st _ _ ha,_,qk,?_,_,Z⟩;rw[oJ];refine Vp (Kt ht λc u e=>?_) ?_
  .obtain⟨h1,h2⟩:=Wt e;refine OW h1 ?_;rw[qr (λz=>by rw[z,A]at h2;cases h2)];exact st _ _ h2
  .refine OW (zJ.free U) ?_;rw[qr ca,et,show (4+(0+(j:Int))).toNat=4+j by lia];rfl
 intro σ J3 w';obtain⟨k3,cq,c9,bh,cx,aq,g,rfl⟩:=w';generalize ae:((An (two / 1944 % 3).toNat).map λq=>((ms.getD (4+q) AN,1+two / 5832 % 3,1+two / 29160 % 3):Str×Int×Int))=LL at aq;have bf:LL.length<=2:=by rw[<- ae,Ab,Ar];lia
 have ax:=R k3;refine(HL<|k x J3 ⟨names.getD i AN,o,b,⟨ms.getD 1 AN,EL,AL,LL,so,C,Oo two⟩⟩ (O.trans ax) am ⟨Z,hb,ho,⟨ay,by show LL.length<=100;lia,by show EL.length<=100;lia,by show AL.length<=100;lia,λt h=>?_⟩,⟨cw,dg,bf⟩,dc,(by rw[<- ae];exact YZ kms cp<|md3 _)⟩<|Ic dx M G pl _ F (.ref py) bh ⟨OW am<|k3 _ _ x1 x2 x3 W,?_,OW (O.free av) cq,OW (O.free ak) c9,OW bc cx,aq⟩)
 .rw[<- ae]at h;obtain⟨q,_,rfl⟩:=AQ.mp h;show 0<=1+two / 5832 % 3;lia
 .exact c7.same<|M5<|s8.trans ax
def qyw (T:Txt K mg a):FnOk P w K mg base Hw 4 a.Av a.CA (ap Zh) (S5 a K):=by
 refine T.dD.fn.ko qA λH _ Q E B h=>?_;obtain⟨l,pn,M,q,names,v,rfl,L,W,X,Y,lk,nk,k⟩:=h;refine IE (qf (sI 3 qA.nd<|zh qg)
  (qf (JD Av Z (LH Z T.kK<|qd (qv IL qi<|qv Iw (pD T.kJ (LI T) B<|aN 0<|qd qi qg ql) qi) qg zm) (gI 4 qA.nd)<|qj<|qz<|Jo A0 A5 A6 KF (pv 3)<|qd (pD T.lG (qyv T) B<|aN 0<|qd qi (aN 4<|aN 1<|aL 2) ql) qg zl)
  (qf (zb (pC JO (qv Iw (qv JL (pD T.kJ (LI T) B<|aN 0<|qd qi qg ql) qi) qi) qi) (qj<|qz<|Mp A0 PySem.F.slot_list_reverse PySem.F.type_list_reverse qt0<|pv 3) IG)
  (rT<|pv 3)))) ?_
 intro _;dsimp only[IP];refine⟨JZ,λd p=>?_⟩;obtain⟨A,N⟩:=IY (o:=.lst []) p;generalize upd H d _=H1 at A N |-;have m0:=Vh q 0;refine(HL<|HW l q 0 ⟨Z,A.seq L,Ud,Ud,IJ (pos Ud)<|HV ⟨_,Z,sZ,sZ,Mj (lo:=0) (n:=(1+Jn q 0 % 4).toNat) (λi σ J=>Same H J/\∃(us:tW)(Ts:List TD),J d=HA (.lst us)/\Ts.length=i/\(∀k t,Ts[k]?=HA t->TdOk names t k)/\RsL a (Kb [d] J) us Ts names/\∃G:tX,σ=[HA<|.ref l,HA<|.ref pn,HA<|.ref M,HA<|.ref d,G]) ⟨A,[],[],N,Z,(λk t e=>by cases e),⟨Z,λj t e=>by cases e⟩,HD,Z⟩ ?_ ?_⟩⟩)
 .intro i σ J O w';obtain⟨f,us,Ts,g,R,s,r,G,rfl⟩:=w';have O:i<4:=by lia
  refine(HL ⟨.inl ⟨Z,_,SqL.of g⟩,UJ<|K9 l pn M q names v ⟨i,(by rw[BD];rfl),f.seq L,f _ _ W,X,f _ _ Y,lk,nk,O,λx D t I _ tok rb=>HW _ _ _ ⟨Z,Z,I _ _ g,KI (by rw[r.1];lia),?_⟩⟩⟩);have C:Same (Kb [d] J) (Kb [d]<|upd D d<|.lst<|us++[.ref x]):=XO (λ_ h=>h) λb o m e=>by rw[qr<|λz=>m (by rw[z];simp)];exact I _ _ e
  have U:Same (Lf J D) (Kb [d]<|upd D d<|.lst<|us++[.ref x]):=M6 λb o m e=>by
   have y:b≠d:=λz=>by rw[z,g]at m;cases m
   exact Tf (by simp[y]) (by rwa[qr y])
  refine⟨JP (f.trans I) p,_,Ts++[t],qk,by rw[Ae,R];rfl,λu t' e=>?_,(r.same C).snoc<|rb.same U,_,Z⟩;by_cases c:u<Ts.length
  .rw[AB c]at e;exact s u t' e
  .rw[AV<|sZ]at e;have S:u-Ts.length=0:=by have:=(Ac.mp e).1;simpa using this
   rw[S]at e;cases e;rw[show u=i by lia];exact tok
 intro σ J w';obtain⟨f,us,Ts,g,R,s,r,G,rfl⟩:=w';refine HL<|HW l q 0 ⟨Z,f.seq L,Ud,Ud,IJ ⟨Ud,Ud⟩<|IJ (pos Ud) ⟨Z,_,Z,IK (λc=>?_)<|λc=>?_⟩⟩
 .refine(HL ⟨.inl ⟨Z,_,SqL.of g⟩,d,_,Z,Z,g,?_⟩);have C:Same (Kb [d] J) (Kb [d]<|upd J d<|.lst us.reverse):=XO (λ_ h=>h) λb o m e=>by rw[qr<|λz=>m (by rw[z];simp)];exact e
  exact(HL<|k d _ _ Ts HG p (JP f p) sZ sZ s qk (r.same C).rev)
 .exact(HL<|k d J us Ts HH p f sZ sZ s g r)
def qyx (T:Txt K mg a):FnOk P w K mg base Hw 1 a.Aw a.CB (ap Xe) (Sw a):=by
 refine T.hV.fn.ko px λH _ Q E _ h=>?_;obtain⟨pr,us,Ts,_,rfl,hp,hR,_,hz,k⟩:=h;refine IE (qf (sI 1 px.nd<|zh qg)
  (qf (JD Av Z (Jk<|pv 0) (gI 2 px.nd) (qf (qz<|Jo A0 Dy Dz qph (pv 1)<|qd (qv Lo (qv Lo (qv Lo (zh<|qd (fV 2) qg KZ)<|fV 2)<|fV 2)<|Tr (N:=["_law_row"]) (js:=[HD]) (XN:=["_law_rules","_law_menu_here","_law_rule_here"]) (xs:=Iy Xe) Z Z Z Uk (Jk<|fV 2) (λ_ _ _ _ _ _=>Lr (i:=0) (show Ct (["_law_row"]:tG) from by decide +kernel) Z (C6 Z)<|CG Z) (λ_ _ _ _ _ _=>Tu)<|λ_ _ _ _ _ _=>pX (ZS (K:=K) Z) (pv 0) qi) qg zm)
  (qf (zb (pC Lq (fV 2) Io) (qj<|qz<|Jo A0 A5 A6 KF (pv 1)<|qd (fV 2) qg KZ) IG)
  (qj<|zb (pC Lq (fV 2) Io) (qj<|qz<|Jo A0 Dy Dz qt8 (pv 1)<|qd (fV 2) qg KZ) IG))))
  (rT<|pv 1))) ?_
 intro _;dsimp only[IP];refine⟨JZ,λq s=>?_⟩;obtain⟨s1,e1⟩:=IY (o:=.lst []) s;generalize upd H q _=H1 at s1 e1 |-;refine HL ⟨_,Z,⟨_,SqL.of<|s1 _ _ hp⟩,KE (K:=K) (a:=pr) (xs:=us) (λi σ J=>Same H J/\J q=HA (.lst<|((Ts.take i).flatMap LR).map V.str)/\∃v2:tX,σ=[HA<|.ref pr,HA<|.ref q,v2]) ⟨s1,e1,HD,Z⟩ (λi σ J _ h=>SqL.of<|h.1 _ _ hp) ?_ ?_⟩
 .intro i v σ J hv w';obtain⟨S,m,v2,rfl⟩:=w';have hi:i<Ts.length:=by rw[<- hR.1];exact(Ac.mp hv).1
  have R:=Ad hi;generalize Ts[i]=t at R;obtain⟨rl,e2,rb⟩:=hR.2 i t R;rw[hv]at e2;cases e2;obtain⟨_,_,_,_,_,_,_,ul,I,_,g3,g4,g5,g6⟩:=rb.same S;obtain⟨_,_,_⟩:=hz t<|Au R;have lT:=qs2 (Ts:=Ts.take i) λx hx=>hz x<|List.mem_of_mem_take hx;rw[Bp]at lT;have lu:ul.length=t.rd.longer.length:=by have:=g6.length;rwa[Ab]at this
  generalize u:(Ts.take i).flatMap LR=pre at m lT;refine HL ⟨.inl ⟨Z,_,SqL.of m⟩,HL<|IA I T.k7 T.k8 Z ⟨Mf _,λp1 n1=>?_⟩⟩;obtain⟨D,f1⟩:=IY (o:=.lst [V.str t.rd.owes]) n1;generalize upd J p1 _=J1 at D f1 |-;refine(HL<|IA (D _ _ I) T.k7 T.k8 Z<|Hv _ _ _ _ ⟨Z,Z,f1,D _ _ g3,JJ (by rw[Ab,AG];lia),λp2 n2=>?_⟩);have F:=D.trans<|qx (o:=.lst<|[V.str t.rd.owes]++t.rd.ends.map V.str) n2;have f2:=qk (H:=J1) (a:=p2) (o:=.lst<|[V.str t.rd.owes]++t.rd.ends.map V.str);generalize upd J1 p2 _=J2 at F f2 |-;refine(HL<|IA (F _ _ I) T.k7 T.k8 Z<|Hv _ _ _ _ ⟨Z,Z,f2,F _ _ g4,JJ (by rw[Ae,Ab,Ab,AG];lia),λp3 n3=>?_⟩);have n:=F.trans<|qx (o:=.lst<|[V.str t.rd.owes]++t.rd.ends.map V.str++t.rd.anew.map V.str) n3;have f3:=qk (H:=J2) (a:=p3) (o:=.lst<|[V.str t.rd.owes]++t.rd.ends.map V.str++t.rd.anew.map V.str);generalize upd J2 p3 _=J3 at n f3 |-;have h6:=g6.same n;let f:V->V:=λv=>match v with
   |.ref b=>(match J3 b with|some (.tup [.str y,.int _,.int _])=>V.str y|_=>.non)
   |_=>.non
  have W:∀(b:HC)(r:Str×Int×Int),J3 b=HA (.tup<|RO r)->f (.ref b)=.str r.1:=λb r e=>by show (match J3 b with|some (.tup [.str y,.int _,.int _])=>V.str y|_=>.non)=_;rw[e];rfl
  refine HL<|IA (n _ _ I) T.k7 T.k8 Z ⟨_,Z,⟨_,SqL.of<|n _ _ g5⟩,?_⟩;refine Z5 f (λσ'=>∃v,σ'=[v]) (Xp (K:=K)<|SqL.of<|n _ _ g5) (JJ<|sZ) ⟨HD,Z⟩ (λv σ' _ _ aj sm s4 L=>?_) Rl λp4 n4=>?_
  .obtain⟨v0,rfl⟩:=s4;obtain⟨j,hj⟩:=Bx aj;have lj:=(Ac.mp hj).1;obtain⟨b,O,G⟩:=h6.get (i:=j) (r:=RO<|t.rd.longer[j]'sZ) (by rw[Ai,Ad<|sZ];rfl);rw[hj]at O;cases O;have L:=L [HA<|.ref b] ⟨_,Z⟩;rw[W b _ G]at L;exact HL<|IH (sm _ _ G) Z L
  have em:ul.map f=(t.rd.longer.map (·.1)).map V.str:=by
   refine Cm λj=>?_;rw[Ai,Ai,Ai];by_cases c:j<t.rd.longer.length
   .obtain⟨b,O,G⟩:=h6.get (i:=j) (r:=RO t.rd.longer[j]) (by rw[Ai,Ad c];rfl);rw[O,Ad c];exact HR HA<|W b _ G
   .rw[AH<|sZ,AH<|sZ];rfl
  rw[em];have t4:=n.trans<|qx (o:=.lst<|(t.rd.longer.map (·.1)).map V.str) n4;have U:=qx (o:=.lst<|(t.rd.longer.map (·.1)).map V.str) n4 _ _ f3;have f4:=qk (H:=J3) (a:=p4) (o:=.lst<|(t.rd.longer.map (·.1)).map V.str);generalize upd J3 p4 _=J4 at t4 U f4 |-;refine(Hv _ _ _ _ ⟨Z,Z,U,f4,JJ (by rw[Ae,Ae,Ab,Ab,Ab,Ab,AG];lia),λp5 n5=>?_⟩);have t5:=t4.trans<|qx (o:=.lst<|[V.str t.rd.owes]++t.rd.ends.map V.str++t.rd.anew.map V.str++(t.rd.longer.map (·.1)).map V.str) n5;have f5:=qk (H:=J4) (a:=p5) (o:=.lst<|[V.str t.rd.owes]++t.rd.ends.map V.str++t.rd.anew.map V.str++(t.rd.longer.map (·.1)).map V.str);generalize upd J4 p5 _=J5 at t5 f5 |-;have eM:[V.str t.rd.owes]++t.rd.ends.map V.str++t.rd.anew.map V.str++(t.rd.longer.map (·.1)).map V.str=(t.rd.owes::(t.rd.ends++t.rd.anew++t.rd.longer.map (·.1))).map V.str:=by rw[AW,Aq,Aq];simp
  rw[eM]at f5;refine(Hv _ _ _ _ ⟨Z,Z,t5 _ _ m,f5,JJ (by rw[Ab,Ab,AA,Ae,Ae,Ab];lia),?_⟩);have C:Same H (upd J5 q<|.lst<|pre.map V.str++(t.rd.owes::(t.rd.ends++t.rd.anew++t.rd.longer.map (·.1))).map V.str):=JP (S.trans t5) s;have A:upd J5 q (.lst<|pre.map V.str++(t.rd.owes::(t.rd.ends++t.rd.anew++t.rd.longer.map (·.1))).map V.str) q=HA (.lst<|(pre++(t.rd.owes::(t.rd.ends++t.rd.anew++t.rd.longer.map (·.1)))).map V.str):=by rw[qk,Aq]
  generalize upd J5 q _=J6 at C A |-;have lM:(t.rd.owes::(t.rd.ends++t.rd.anew++t.rd.longer.map (·.1))).length<=7:=by rw[AA,Ae,Ae,Ab];lia
  obtain⟨M,eMM⟩:∃M,t.rd.owes::(t.rd.ends++t.rd.anew++t.rd.longer.map (·.1))=M:=⟨_,Z⟩;rw[eMM]at A lM;have r6:=rb.same C;obtain⟨af,ah,ag,ai,w2,X,ad,ae,d,g,k3,k4,k5,k6⟩:=id r6;apply Pf (p:=λ_ J'=>Same H J'/\J' q=HA (.lst<|(pre++M++t.opens.toList).map V.str)) (f:=λ_=>[HA<|.ref pr,HA<|.ref q,HA<|.ref rl])
  .intro B;cases eo:t.opens with|none =>rw[eo]at d B;exact(HL<|IA d T.k7 T.k8 Z ⟨Z,_,Z,LS Z<|Kj Z<|B HD J6 ⟨C,by rw[A];simp⟩⟩)|some o =>rw[eo]at d B;refine(HL<|IA d T.k7 T.k8 Z ⟨Z,_,Z,Wo sh<|HL ⟨.inl ⟨Z,_,SqL.of A⟩,HL<|IA d T.k7 T.k8 Z<|HW _ _ _ ⟨Z,Z,A,KI (by rw[Ab,Ae];lia),?_⟩⟩⟩);exact B HD _ ⟨JP C s,by rw[qk];simp;rfl⟩
  rintro _ _ ⟨s7,Y⟩;have r7:=rb.same s7;obtain⟨af,ah,ag,ai,w2,X,ad,ae,d,g,k3,k4,k5,k6⟩:=id r7;have e8:(Ts.take<|i+1).flatMap LR=(Ts.take i).flatMap LR++LR t:=by rw[B1,R,List.flatMap_append];simp
  have lo:t.opens.toList.length<=1:=by cases t.opens <;>simp
  cases l:t.rd.still with
  |none =>rw[l]at g;have g:X=.non:=g;refine(HL<|IA d T.k7 T.k8 Z ⟨Z,_,Z,LS (by rw[g])<|Kj Z ⟨s7,?_,_,Z⟩⟩);rw[Y,e8,u];unfold LR;rw[eMM,l];simp
  |some z =>rw[l]at g;obtain⟨b,eb,hb⟩:=g;refine(HL<|IA d T.k7 T.k8 Z ⟨Z,_,Z,Wo (λz=>by rw[eb]at z;cases z)<|HL ⟨.inl ⟨Z,_,SqL.of Y⟩,HL<|IA d T.k7 T.k8 Z<|Hv _ b _ _ ⟨Z,by rw[eb],Y,SqT.of hb,JJ (by rw[Ab,Ae,Ae];show _+2<=_;lia),JP s7 s,?_,_,Z⟩⟩⟩);rw[qk,e8,u];unfold LR;rw[eMM,l];simp
 .intro σ J w';obtain⟨S,m,v2,rfl⟩:=w';rw[hR.1,Bc]at m;exact HL<|k q J s S m
def qyy (T:Txt K mg a):FnOk P w K mg base Hw 3 a.Ax a.CC (ap Xd) (S7 a K):=by
 refine T.fO.fn.ko Rr λH vs Q E hr h=>?_;obtain⟨l,pr,pn,C,names,us,Ts,first,m,rfl,hS,hp,hR,l1,l4,hz,ho,hn,_,nd,_,_,k⟩:=h;refine IE (qf (sI 5 Rr.nd<|pD T.hV (qyx T) hr<|aL 1)
  (qf (sI 6 Rr.nd<|qv IL qi<|qv Iw (pD T.kJ (LI T) hr<|aN 0<|qd qi qg ql) qi)
  (qf (sI 7 Rr.nd<|zh qg)
  (qf (JD Av Z (LH Z T.kK<|aL 4) (gI 8 Rr.nd) (qf (sI 9 Rr.nd<|pD T.kJ (LI T) hr<|aN 0<|qd (qv IL qi<|pv 8) qg zm)
  (qf (sI 10 Rr.nd<|pX zr (pv 5)<|qv Iw (pv 9)<|zd Ka (by rfl) T.kG KY<|aL 5)
  (qf (zb (pC Kl (pv 8) qi) (qj<|sI 10 Rr.nd<|pX zr (Tr (N:=["_law_rule_here"]) (js:=[HD]) (XN:=["_law_script","_law_rules","_law_names","_law_first","_law_many","_law_menu_here","_law_stride","_law_acts_here","_law_k","_law_cell","_law_kind"]) (xs:=Iy Xd) Z Z Z Uk (Jk<|pv 1) (λ_ _ _ _ _ _=>Lr (i:=0) (show Ct (["_law_rule_here"]:tG) from by decide +kernel) Z (C6 Z)<|CG Z) (λ_ _ _ _ _ _=>qvg<|pC Lq (l0 (K:=K) Z (pv 0) Z) Io)<|λ_ _ _ _ _ _=>l0 (K:=K) Z (pv 0) Z) qi) IG)
  (qj<|qz<|Jo A0 A5 A6 KF (pv 7)<|qd (zj<|qd (pX zr (pv 2)<|qv Iw (qv IL (qv Jc (pv 8)<|pv 6)<|qv JL (pv 6) qi) qi) (aN 10<|qd (qv IL (pv 3)<|qv Iw (qv JL (pv 9) qi)<|qv IL qi<|qv Jc qi<|pv 8) qg zm) zn) qg zo)))))
  (rT<|pv 7))))) ?_
 intro _;dsimp only[IP];refine HL<|Hv pr us Ts names ⟨Z,hp,hR,l4,hz,λqm H1 _ s1 em=>?_⟩;dsimp only[Ja,AT,AU];have lM:=qs2 hz;have ak:1<=(Ts.flatMap LR).length:=by
  cases Ts with|nil=>cases l1|cons t Ts=>rw[List.flatMap_cons];unfold LR;simp
 generalize Ts.flatMap LR=M at em lM ak;have m1:=Vh C 1;refine HL<|HW l C 1 ⟨Z,s1.seq hS,Ud,Ud,IJ (pos Ud)<|HV ?_⟩;dsimp only[Ja,AT,AU];obtain⟨s,es,h1,h2⟩:∃s,1+Jn C 1 % 22=s/\1<=s/\s<=22:=⟨_,Z,sZ,sZ⟩;rw[es];refine⟨JZ,λx I=>?_⟩;obtain⟨s2,D⟩:=IY (o:=.lst []) I;have ao:=s1.free I;generalize upd H1 x _=H2 at s2 D |-;dsimp only[Ja,AT,AU];have bm:=rb (n:=m) sZ;refine(HL ⟨_,Z,bm.1,bm.2,Mj (lo:=0) (n:=((m:Int)).toNat) (λi σ J=>Same H1 J/\∃(F:tW)(d:uC),J x=HA (.lst F)/\Tups (Lf H J) F (d.map KA)/\d.length=i/\sL names s d/\(∀t∈d,first<=t.2.2)/\∃v8 v9 S:tX,σ=[HA<|.ref l,HA<|.ref pr,HA<|.ref pn,HA<|.int first,HA<|.int (m:Int),HA<|.ref qm,HA<|.int s,HA<|.ref x,v8,v9,S]) ⟨s2,[],[],D,.nil,Z,(λj t e=>by cases e),(λt h=>by cases h),HD,HD,HD,Z⟩ ?_ ?_⟩)
 .intro i σ J hi w';obtain⟨R,F,d,A,ht,la,hN,hF,v8,v9,S,rfl⟩:=w';have hi:i<20:=by lia
  have G:=s1.trans R;have ag:=R _ _ em;rw[BD];have mc:=Vh C<|13+(i:Int);refine(HY<|HV<|HW l C _ ⟨Z,G.seq hS,sZ,sZ,?_⟩);dsimp only[Ja,AT,AU];generalize Jn C (13+(i:Int))=c at mc |-;have cm:=Cf c (show (0:Int)<(M.length:Int) by lia);have c0:=BP c (show (M.length:Int)≠0 by lia);refine(Jw<|HP _ _ ⟨Z,.inl ⟨_,SqL.of ag,Z⟩,HV ⟨(by rw[Ab];lia),Ib ag (Rc (by rwa[Ab]) (by rwa[Ab])) ?_⟩⟩);dsimp only[Ja,AT,AU];apply Pf (p:=λv J'=>∃W:Str,v=HA (.str W)/\Same J J') (f:=λv=>[HA<|.ref l,HA<|.ref pr,HA<|.ref pn,HA<|.int first,HA<|.int (m:Int),HA<|.ref qm,HA<|.int s,HA<|.ref x,HA<|.int (i:Int),HA<|.int c,v])
  .intro mm;refine HL<|HV ⟨_,Z,IK (λc1=>?_)<|λc1=>?_⟩
   .have RJ:=hR.same G;let ov:V->V:=λv=>match v with
     |.ref r=>(match J r with|some (.ins _ _ fs)=>(fs.lookup<|Aa "opens").getD .non|_=>.non)
     |_=>.non
    have y:∀(g:HC)(t:TD)(bv:V),RuleB a J g t bv->ov (.ref g)=KJ t.opens:=λg t bv rb=>by obtain⟨dx,pe,pa,pl,w',sv,py,ul,B,_⟩:=rb;show (match J g with|some (.ins _ _ fs)=>(fs.lookup<|Aa "opens").getD .non|_=>.non)=_;rw[B];rfl
    have ad:∀v∈us,∃(g:HC)(t:TD),v=.ref g/\t∈Ts/\RuleB a J g t (KS names t.base):=λv hv=>by
     obtain⟨j,U⟩:=Bx hv;have lj:j<Ts.length:=by rw[<- hR.1];exact(Ac.mp U).1
     obtain⟨g,e1,D⟩:=RJ.2 j _<|Ad lj;rw[U]at e1;cases e1;exact HP g _ ⟨Z,B9 lj,D⟩
    refine HL ⟨_,Z,⟨_,SqL.of<|G _ _ hp⟩,?_⟩;refine qpp (λv=>!decide (ov v=.non)) ov (λσ'=>∃v,σ'=[v]) (Xp (K:=K)<|SqL.of<|G _ _ hp) (JJ (by rw[hR.1];lia)) ⟨HD,Z⟩ (λv σ' J' N _ hv sm s4 kn Y=>?_) Rl λ_ al=>?_
    .obtain⟨v0,rfl⟩:=s4;obtain⟨g,t,rfl,_,rb⟩:=ad v hv;have O:=y g t _ rb;obtain⟨dx,pe,pa,pl,w',sv,py,ul,B,_⟩:=rb.same sm;have kn:=kn [HA<|.ref g] ⟨_,Z⟩;have Y:=Y [HA<|.ref g] ⟨_,Z⟩;rw[O]at kn Y;refine HL<|IA B T.k7 T.k8 Z ⟨Z,_,Z,IK (λc2=>HL<|IA B T.k7 T.k8 Z<|Y c2)<|λc2=>kn ?_⟩;cases e : !decide (KJ t.opens=V.non) with|false=>rfl|true=>exact absurd e c2
    .obtain⟨o,O⟩:∃o:Str,((us.filter λv=>!decide (ov v=.non)).map ov)[0]?=HA (.str o):=by
      obtain⟨t,ar,o,O⟩:=ho
      obtain⟨j,U⟩:=Bx ar
      obtain⟨g,e1,D⟩:=RJ.2 j t U
      have mf:(.ref g:V)∈us.filter λv=>!decide (ov v=.non):=Cb.mpr ⟨Au e1,by rw[y g t _ D,O];rfl⟩
      cases ef:us.filter λv=>!decide (ov v=.non) with
      |nil=>rw[ef]at mf;cases mf
      |cons v vs =>
       have mv:v∈us.filter λv=>!decide (ov v=.non):=by rw[ef];exact Am
       obtain⟨aq,L⟩:=Cb.mp mv;obtain⟨af,t2,rfl,_,ai⟩:=ad v aq;rw[y af t2 _ ai]at L;cases ah:t2.opens with|none=>rw[ah]at L;cases L|some o2=>exact⟨o2,by rw[AW,y af t2 _ ai,ah];rfl⟩
     refine Hv _ _ _ _ ⟨Z,Z,SqL.of qk,Jz (j:=0) O,?_⟩
     refine JC (σ':=[HA<|.ref l,HA<|.ref pr,HA<|.ref pn,HA<|.int first,HA<|.int (m:Int),HA<|.ref qm,HA<|.int s,HA<|.ref x,HA<|.int (i:Int),HA<|.int c,HA<|.str o]) rfl ?_
     exact mm _ _ ⟨o,Z,qx al⟩
   .exact Kj rfl (mm _ J ⟨_,Z,Same.refl J⟩)
  intro _ J' w';obtain⟨W,rfl,q⟩:=w';have ae:=G.trans q;have d0:0<=c / 101 % (2+6*(i:Int)):=BP _ sZ;have r1:=BP ((i:Int)*s+s / 2) (show (23:Int)≠0 by decide);have r2:=Cf ((i:Int)*s+s / 2) (show (0:Int)<23 by decide);refine(HL ⟨.inl ⟨Z,_,SqL.of<|q _ _ A⟩,Jw<|HV ⟨.inr ⟨sZ,sZ⟩,HL<|IJ ⟨Ud,Ud⟩<|HV<|IJ (pos Ud)<|Ib (ae _ _ hn) (Rc r1<|sZ)<|Jw<|IJ ⟨Ud,Ud⟩<|HL<|HV ⟨.inl ⟨Ud,Ud⟩,HV<|HV ⟨(show 0<2+6*(i:Int) by lia),HV ⟨Kk _ _ _,λt X=>?_⟩⟩⟩⟩⟩);obtain⟨st,et⟩:=IY (o:=.tup [V.str<|names.getD (((i:Int)*s+s / 2) % 23).toNat AN,V.str W,V.int<|first+c / 101 % (2+6*(i:Int))]) X;have aj:t≠x:=λz=>by rw[z,q _ _ A]at X;cases X
  have am:=ae.free X;generalize upd J' t _=Jt at st et |-;have lu:=ht.length;rw[Ab]at lu;have au:=st _ _<|q _ _ A;refine(HW _ _ _ ⟨Z,Z,au,KI<|sZ,JP (R.trans<|q.trans st) I,_,d++[(names.getD (((i:Int)*s+s / 2) % 23).toNat AN,W,first+c / 101 % (2+6*(i:Int)))],qk,?_,by rw[Ae,la];rfl,λj t' e=>?_,λt' h=>?_,_,_,_,Z⟩)
  .rw[Aq];refine Vp (Kt ht λb u e=>?_) ?_
   .obtain⟨B,g2⟩:=Wt e;refine OW B ?_;rw[qr (λz=>by rw[z,A]at g2;cases g2)];exact(q.trans st) _ _ g2
   .exact OW am (by rwa[qr aj])
  .by_cases cj:j<d.length
   .rw[AB cj]at e;exact hN j t' e
   .rw[AV<|sZ]at e;have e0:j-d.length=0:=by have:=(Ac.mp e).1;simpa using this
    rw[e0]at e;cases e;rw[show j=i by lia]
  .rcases As.mp h with h|h
   .exact hF t' h
   .rw[Aj.mp h];show first<=first+_
    lia
 .intro σ J w';obtain⟨R,F,d,A,ht,la,hN,hF,v8,v9,S,rfl⟩:=w';exact(HL<|k x J F d s ao (s1.trans R) A ht sZ h1 h2 hN hF)
def qk5 (T:Txt K mg a):FnOk P w K mg base Hw 2 a.Ay a.CD (ap cC) (MP a):=by
 refine T.bE.fn.ko Ru λH _ Q E hr h=>?_;obtain⟨u,us,nms,bs,rk,rfl,W,n,B,k⟩:=h;refine IE (qf (sI 1 Ru.nd Pl)
  (qf (JD Av Z (Jk<|pv 0) (gI 2 Ru.nd)<|qj<|Pk (Ji hr) (pv 1) (fV 2) (fV 2) Z)
  (qf (sI 3 Ru.nd<|zh qg)
  (qf (JD Av Z (Jk<|pv 0) (gI 2 Ru.nd) (qf (sI 4 Ru.nd<|fV 2)
  (qf (sI 5 Ru.nd<|zh qg)
  (qf (Ro Av (PW.pt<|KC (pC Lq (pv 4) Io)<|KW<|qt qj2 (pv 4) (pv 3) (by with_unfolding_all rfl)) (qf (qz<|Jo A0 A5 A6 KF (pv 5)<|aL 4)
  (qj<|sI 4 Ru.nd<|K7 (Ji hr) (pv 1) (pv 4)<|λ_ _=>rfl)))
  (qj<|qz<|Jo A0 Dy Dz qph (pv 3)<|qd (UA (pv 5)<|Vf<|KN KQ qi) qg zn)))))
  (rT<|pv 3))))) ?_
 intro _;dsimp only[IP];refine λd hd=>?_;obtain⟨s0,h0⟩:=IY (o:=.dK []) hd;generalize upd H d _=H0 at s0 h0 |-;dsimp only[Ja,AT,AU];refine(HL ⟨_,Z,⟨_,SqL.of<|s0 _ _ W⟩,KE (K:=K) (a:=u) (xs:=us) (λi σ H'=>Same H H'/\∃(v:tX)(kvs:List (IC×V)),σ=[HA<|.ref u,HA<|.ref d,v,HD,HD,HD]/\H' d=HA (.dK kvs)/\kvs.length<=i/\∀k<i,Ih kvs (.inr<|nm nms k)=HA (Pc nms<|bo bs k))
  ⟨s0,HD,[],Z,h0,Al _,λk hk=>absurd hk<|Bj _⟩ (λi σ H' _ h=>SqL.of<|h.1 _ _ W) ?_ ?_⟩)
 .intro i x σ H' N w';obtain⟨l,v,kvs,rfl,s,hl,X⟩:=w';have hi:i<nms.length:=by rw[<- n.1];exact(Ac.mp N).1
  obtain⟨p,dx,fs,rfl,R,r2,r3⟩:=(n.2 i x N).same l;refine(HL<|Ut R T.k7 (qp T.k8 Ud) r3<|HY<|Ut R T.k7 (qp T.k8 Ud) r2<|HP d _ ⟨Z,DPut.k (k:=.inr<|nm nms i) s (by rw[Bv];have:=B.sm;lia),?_⟩);exact⟨JP l hd,_,_,Z,qk,Az (T5 _ _ _)<|CB hl,qwh B.nd hi X⟩
 .intro σ H1 w';obtain⟨l,v,kvs,rfl,s,hl,X⟩:=w';rw[n.1]at X;refine⟨JZ,λt I=>?_⟩;have s2:=l.trans<|qx (o:=.lst []) I;have h2:=qx (o:=.lst []) I _ _ s;have r:=qk (H:=H1) (a:=t) (o:=.lst []);have M:=l.free I;have ad:d≠t:=λz=>by rw[<- z,s]at I;cases I
  generalize upd H1 t _=H2 at s2 h2 r |-;dsimp only[Ja,AT,AU];refine(HL ⟨_,Z,⟨_,SqL.of<|s2 _ _ W⟩,KE (K:=K) (a:=u) (xs:=us) (λi σ H'=>Same H H'/\H' d=HA (.dK kvs)/\H' t=HA (.lst<|(JI nms bs i).map V.str)/\∃v v4 v5:tX,σ=[HA<|.ref u,HA<|.ref d,v,HA<|.ref t,v4,v5])
   ⟨s2,h2,r,_,_,_,Z⟩ (λi σ H' _ h=>SqL.of<|h.1 _ _ W) ?_ ?_⟩)
  .intro i x σ J N w';obtain⟨l,s,r,v,v4,v5,rfl⟩:=w';have hi:i<nms.length:=by rw[<- n.1];exact(Ac.mp N).1
   obtain⟨p,dx,fs,rfl,R,r2,r3⟩:=(n.2 i x N).same l;refine HL<|Ut R T.k7 (qp T.k8 Ud) r2 ⟨JZ,λq A=>?_⟩;obtain⟨U,w2⟩:=IY (o:=.lst []) A;have af:=l.free A;have ag:t≠q:=λz=>by rw[<- z,r]at A;cases A
   have ae:d≠q:=λz=>by rw[<- z,s]at A;cases A
   generalize upd J q _=J1 at U w2 |-;dsimp only[Ja,AT,AU];have lO:=qs0 nms bs i;have lS:=B.sm;refine⟨λm σ' e=>Same H e/\e d=HA (.dK kvs)/\e t=HA (.lst<|(JI nms bs i).map V.str)/\∃g:tG,e q=HA (.lst<|g.map V.str)/\((∃c:Nat,σ'=[HA<|.ref u,HA<|.ref d,HA<|.ref p,HA<|.ref t,HA<|.str<|nm nms c,HA<|.ref q]/\c<nms.length/\rk c<m/\g++JR nms bs (JI nms bs i) m c=JR nms bs (JI nms bs i) 7 i/\g.length+m=7)\/(σ'=[HA<|.ref u,HA<|.ref d,HA<|.ref p,HA<|.ref t,HA .non,HA<|.ref q]/\g=JR nms bs (JI nms bs i) 7 i)),⟨7,l.trans U,U _ _ s,U _ _ r,[],w2,.inl ⟨i,Z,hi,B.lo i,Z,Z⟩⟩,?_⟩;rintro m σ' e ⟨y1,y2,C,g,S,⟨c,rfl,ha,_,j,hl⟩|⟨rfl,j⟩⟩
   .refine(HL ⟨Z,Hx<|Wo sh<|HY<|HP _ _ ⟨Z,.inl<|SqL.of C,Z,Rq _,IB Z ?_⟩⟩);show if (!Ko (.str<|nm nms c) ((JI nms bs i).map V.str))=HG then _ else _;rw[Rn];cases ec:(JI nms bs i).contains (nm nms c) with
    |true =>refine Ia ?_;rw[qwj<|B2.mp ec,Br]at j;subst j;refine HL ⟨.inl ⟨Z,_,SqL.of C⟩,HL ⟨_,Z,_,Z,Z,q,_,Z,SqL.of S,λG y=>?_⟩⟩;have F:=y1.trans<|qx (o:=.lst ((JR nms bs (JI nms bs i) 7 i).map V.str).reverse) y;have D:=qx (o:=.lst ((JR nms bs (JI nms bs i) 7 i).map V.str).reverse) y _ _ C;have O:=qx (o:=.lst ((JR nms bs (JI nms bs i) 7 i).map V.str).reverse) y _ _ y2;have L:=qk (H:=e) (a:=G) (o:=.lst ((JR nms bs (JI nms bs i) 7 i).map V.str).reverse);generalize upd e G _=J2 at F D O L |-;have b:=XE nms bs (JI nms bs i) 7 i;refine(Hv _ _ _ _ ⟨Z,Z,D,L,JJ (by rw[B3,Ab,Ab];lia),JP F M,(qr ad).trans O,?_,_,_,_,Z⟩);rw[qk,Xh,<- List.map_reverse,<- Aq]
    |false =>
     have nt:¬nm nms c∈JI nms bs i:=λz=>by rw[B2.mpr z]at ec;cases ec
     obtain⟨f,rfl⟩:∃f,m=f+1:=⟨m-1,sZ⟩;rw[qwi nt]at j;have lz:(g.map V.str).length<=90000:=by rw[Ab];lia
     refine Ii ⟨λσ' e=>Same H e/\e d=HA (.dK kvs)/\e t=HA (.lst<|(JI nms bs i).map V.str)/\∃g:tG,e q=HA (.lst<|g.map V.str)/\((∃c:Nat,σ'=[HA<|.ref u,HA<|.ref d,HA<|.ref p,HA<|.ref t,HA<|.str<|nm nms c,HA<|.ref q]/\c<nms.length/\rk c<f/\g++JR nms bs (JI nms bs i) f c=JR nms bs (JI nms bs i) 7 i/\g.length+f=7)\/(σ'=[HA<|.ref u,HA<|.ref d,HA<|.ref p,HA<|.ref t,HA .non,HA<|.ref q]/\g=JR nms bs (JI nms bs i) 7 i)),λ_ H2 z=>⟨f,BQ f,z⟩,?_⟩;refine HL ⟨.inl ⟨Z,_,SqL.of S⟩,HL<|HW _ _ _ ⟨Z,Z,S,KI lz,?_⟩⟩;have x1:Same H (upd e q<|.lst<|g.map V.str++[V.str<|nm nms c]):=JP y1 af;have x2:upd e q (.lst<|g.map V.str++[V.str<|nm nms c]) q=HA (.lst<|(g++[nm nms c]).map V.str):=by rw[qk,Aq];rfl
     have Y:=(qr (H:=e) (o:=.lst<|g.map V.str++[V.str<|nm nms c]) ae).trans y2;have x4:=(qr (H:=e) (o:=.lst<|g.map V.str++[V.str<|nm nms c]) ag).trans C;generalize upd e q _=J2 at x1 x2 Y x4 |-;refine HY<|HP d _ ⟨Z,(X c ha) ▸ DGet.k (k:=.inr<|nm nms c) Y,?_⟩;cases eb:bo bs c with
     |none =>rw[eb]at j;exact⟨x1,Y,x4,_,x2,.inr ⟨Z,j⟩⟩
     |some b =>rw[eb]at j;obtain⟨b1,_⟩:=B.ok c b (by rw[OE (by rwa[B.len]),eb]);refine⟨x1,Y,x4,_,x2,.inl ⟨b,Z,b1,sZ,?_,by rw[Ae];show g.length+1+f=7;lia⟩⟩;rwa[List.append_assoc]
   .refine(HL ⟨Z,Hx<|LS Z<|Ia ?_⟩);subst j;refine HL ⟨.inl ⟨Z,_,SqL.of C⟩,HL ⟨_,Z,_,Z,Z,q,_,Z,SqL.of S,λG y=>?_⟩⟩;have F:=y1.trans<|qx (o:=.lst ((JR nms bs (JI nms bs i) 7 i).map V.str).reverse) y;have D:=qx (o:=.lst ((JR nms bs (JI nms bs i) 7 i).map V.str).reverse) y _ _ C;have O:=qx (o:=.lst ((JR nms bs (JI nms bs i) 7 i).map V.str).reverse) y _ _ y2;have L:=qk (H:=e) (a:=G) (o:=.lst ((JR nms bs (JI nms bs i) 7 i).map V.str).reverse);generalize upd e G _=J2 at F D O L |-;have b:=XE nms bs (JI nms bs i) 7 i;refine(Hv _ _ _ _ ⟨Z,Z,D,L,JJ (by rw[B3,Ab,Ab];lia),JP F M,(qr ad).trans O,?_,_,_,_,Z⟩);rw[qk,Xh,<- List.map_reverse,<- Aq]
  .intro σ H' w';obtain⟨l,s,r,v,v4,v5,rfl⟩:=w';rw[n.1]at r;exact HL<|k t H' M l r
def qtj (T:Txt K mg a):FnOk P w K mg base Hw 1 a.Az a.CE (ap aJ) Si:=by
 refine T.lD.fn.ko Xr λH _ Q E hr h=>?_;obtain⟨p,us,u,rfl,hp,ht,_,k⟩:=h;refine IE (qf (sI 1 Xr.nd<|zh qg)
  (qf (JD Av Z (Jk<|pv 0) (gI 2 Xr.nd) (qf (sI 3 Xr.nd qi)
  (qf (Ro Av (PW.pt<|KC (pC Kl (pv 3)<|zd Ka (by rfl) T.kG KY<|aL 1)<|KW<|pC (Lam.op_ltK hr.units) (zj<|qd (pX zq (pX zr (pv 1)<|pv 3) qi) (qd (pX zq (pX zr (pv 1)<|pv 3) qi) qg zn) zn)<|zj<|qd (pX zq (pv 2) qi) (qd (pX zq (pv 2) qi) qg zn) zn)<|qj<|sI 3 Xr.nd<|qv IL (pv 3) qi)
  (qj<|qz<|Jo A0 PySem.F.slot_list_insert PySem.F.type_list_insert qua (pv 1)<|aN 3<|aL 2))))
  (rT<|pv 1))) ?_
 intro _;dsimp only[IP];have lu:=ht.length;rw[Ab]at lu;refine⟨JZ,λq I=>?_⟩;obtain⟨U,M⟩:=IY (o:=.lst []) I;generalize upd H q _=H1 at U M |-;dsimp only[Ja,AT,AU];refine HL ⟨_,Z,⟨_,SqL.of<|U _ _ hp⟩,KE (K:=K) (a:=p) (xs:=us) (λi σ J=>Same H J/\∃(n:tW)(d:uC),J q=HA (.lst n)/\Tups H n (d.map KA)/\d.Perm (u.take i)/\OS d/\∃W S:tX,σ=[HA<|.ref p,HA<|.ref q,W,S]) ⟨U,[],[],M,.nil,.refl _,.nil,HD,HD,Z⟩ (λi σ J _ h=>SqL.of<|h.1 _ _ hp) ?_ ?_⟩
 .intro i v σ J hv w';obtain⟨sJ,n,d,hq,e,A,L,W,S,rfl⟩:=w';have hi:i<u.length:=by have:=(Ac.mp hv).1;lia
  have N:=Ad hi;generalize u[i]=t at N;obtain⟨b,eb,G⟩:=ht.get (i:=i) (r:=KA t) (by rw[Ai,N];rfl);rw[hv]at eb;cases eb;have lF:=e.length;rw[Ab]at lF;have ad:=A.length_eq;rw[Bp]at ad;dsimp only[Ja,AT,AU];refine⟨λm σ' s=>Same H s/\s q=HA (.lst n)/\∃c:Nat,c+m=d.length/\(∀j x,j<c->d[j]?=HA x->Lam.ltK (Ju x) (Ju t)=HG)/\σ'=[HA<|.ref p,HA<|.ref q,HA<|.ref b,HA<|.int (c:Int)],⟨d.length,sJ,hq,0,Nat.zero_add _,(λj x h=>by cases h),Z⟩,?_⟩;intro m σ' s w';obtain⟨l,g,c,_,lo,rfl⟩:=w';refine HY<|HP _ _ ⟨Z,.inl ⟨_,SqL.of g,Z⟩,HV ⟨_,Z,IK (λD=>?_)<|λD=>?_⟩⟩
  .have D:=HK D;have la:c<d.length:=by lia
   have ex:=Ad la;generalize d[c]=x at ex;obtain⟨y,ey,qy⟩:=e.get (i:=c) (r:=KA x) (by rw[Ai,ex];rfl);refine HY<|Ib g (Jz ey)<|IH (l _ _ qy) Z<|HY<|Ib g (Jz ey)<|IH (l _ _ qy) Z ⟨Ke _ _,λt1 n1=>?_⟩;obtain⟨st,M⟩:=IY (o:=.tup<|Lam.encK<|Ju x) n1;refine HL<|IH ((st _ _<|l _ _ G)) Z<|HL<|IH ((st _ _<|l _ _ G)) Z ⟨Ke _ _,λt2 n2=>?_⟩;have C:=qx (o:=.tup<|Lam.encK<|Ju t) n2;have e2:=qk (H:=upd s t1<|.tup<|Lam.encK<|Ju x) (a:=t2) (o:=.tup<|Lam.encK<|Ju t);refine Hv _ _ (Ju x) (Ju t) ⟨Z,Z,C _ _ M,e2,?_⟩;have R:=l.trans<|st.trans C;have B:=C _ _<|st _ _ g;refine⟨_,Z,IK (λc2=>?_)<|λc2=>?_⟩
   .obtain⟨m,rfl⟩:∃f,m=f+1:=⟨m-1,sZ⟩;refine⟨λσ' s=>Same H s/\s q=HA (.lst n)/\∃c:Nat,c+m=d.length/\(∀j x,j<c->d[j]?=HA x->Lam.ltK (Ju x) (Ju t)=HG)/\σ'=[HA<|.ref p,HA<|.ref q,HA<|.ref b,HA<|.int (c:Int)],λ_ _ z=>⟨m,BQ m,z⟩,?_⟩;refine(HL<|HV ⟨R,B,c+1,sZ,λj X _ Y=>?_,Z⟩);by_cases z:j=c
    .subst z;rw[ex]at Y;cases Y;exact c2
    .exact lo j X sZ Y
   .refine(HL ⟨.inl ⟨Z,_,SqL.of B⟩,HY<|Hv _ _ _ c ⟨Z,Z,B,sZ,sZ,JP R I,_,d.take c++t::d.drop c,qk,?_,?_,qs3 L sZ lo (λX O=>by rw[ex]at O;cases O;cases z:Lam.ltK (Ju x) (Ju t) with|false=>rfl|true=>exact absurd z c2),_,_,Z⟩⟩)
    .rw[Aq,AW,List.map_take,List.map_drop];exact(e.take c).app<|.cons G<|e.drop c
    .rw[B1,N];refine List.perm_middle.trans ?_;rw[BM];exact(List.Perm.cons t A).trans<|List.perm_append_comm (l₁:=[t])
  .have D:¬(c:Int)<(n.length:Int):=λz=>D<|HJ z;refine(HL ⟨.inl ⟨Z,_,SqL.of g⟩,HY<|Hv _ _ _ c ⟨Z,Z,g,sZ,sZ,JP l I,_,d.take c++t::d.drop c,qk,?_,?_,qs3 L sZ lo<|λX O=>absurd (Ac.mp O).1<|sZ,_,_,Z⟩⟩)
   .rw[Aq,AW,List.map_take,List.map_drop];exact(e.take c).app<|.cons G<|e.drop c
   .rw[B1,N];refine List.perm_middle.trans ?_;rw[BM];exact(List.Perm.cons t A).trans<|List.perm_append_comm (l₁:=[t])
 .intro σ J w';obtain⟨sJ,n,d,hq,e,A,L,W,S,rfl⟩:=w';rw[lu,Bc]at A;exact HL<|k q J n d I sJ A L hq e
def qtk (T:Txt K mg a):FnOk P w K mg base Hw 1 a.L a.N (ap Ob) (TU 0):=by
 refine T.kQ.fn.ko Z9 λH _ Q E _ h=>?_;obtain⟨v,u,rfl,c,k⟩:=h;refine IE (qf (zb (pC KP (pv 1) Io) (rT<|Kz KP (pv 0) Io<|LD _) IG)
  (qf (zb (zf<|zd Ki (by rfl) T.kE KR<|aN 1<|qd (KD (v:=.ty "str") Z T.kZ Xc Z) qg qe) (rT<|Lc (zd Ki (by rfl) T.kE KR<|aN 0<|qd (KD (v:=.ty "str") Z T.kZ Xc Z) qg qe)<|Lp<|Kz JO (pv 0) (pv 1)<|LD _) IG)
  (qf (zb (zf<|zd qpv (by rfl) T.kE KR<|aN 1<|qd (zj<|qd (KD (v:=.ty "list") Z T.kL Le Z) (qd (KD (v:=.ty "tuple") Z T.kR T3 Z) qg qe) qe) qg zo) (qf (zb (pC OV (zd Ki (by rfl) T.kE KR<|aN 0<|qd (KD (v:=.ty "list") Z T.kL Le Z) qg qe)<|zd Ki (by rfl) T.kE KR<|aN 1<|qd (KD (v:=.ty "list") Z T.kL Le Z) qg qe) (rT JV) IG)
  (qf (zb (PW.pt<|Kh (pC OV (zd Ki (by rfl) T.kE KR<|aN 0<|qd (KD (v:=.ty "tuple") Z T.kR T3 Z) qg qe)<|zd Ki (by rfl) T.kE KR<|aN 1<|qd (KD (v:=.ty "tuple") Z T.kR T3 Z) qg qe)<|Ku<|pC OV (zd Ka (by rfl) T.kG KY<|aL 0)<|zd Ka (by rfl) T.kG KY<|aL 1) (rT JV) IG)
  (qf (JD Av Z (LH Z T.kK<|qd (zd Ka (by rfl) T.kG KY<|aL 1) qg zl) (gI 2 Z9.nd)<|qj<|zb (Kx<|zf qrx) (rT JV) IG)
  (rT JV)))) IG)
  (rT<|Lc (zd Ki (by rfl) T.kE KR<|aN 0<|qd (KD (v:=.ty "int") Z T.gL Ze Z) qg qe)<|Lc (ZE<|zd Ki (by rfl) T.kE KR<|aN 0<|qd (KD (v:=.ty "bool") Z T.bS qB Z) qg qe)<|Lp<|Kz JO (pv 0) (pv 1)<|LD _)))) ?_
 intro _;dsimp only[IP];obtain⟨rfl,e⟩:=c;rcases qp2 e with rfl|⟨x,rfl⟩|⟨i,rfl⟩
 .refine(HL ⟨Z,Hx<|Je Z<|HL ⟨Z,?_⟩⟩);show Q (.bl<|decide (V.non=V.non)) H;rw[HJ Z];exact k _<|Same.refl H
 .refine(HL ⟨Z,Hx<|JU sh<|HL<|Hv _ _ _ _ ⟨Z,.str _,Xs,Hx<|Ii<|HL<|Hv _ _ _ _ ⟨Z,.str _,Xs,Hx<|Ii<|HY ⟨Z,?_⟩⟩⟩⟩);show Q (.bl<|decide (V.str x=V.str x)) H;rw[HJ Z];exact k _<|Same.refl H
 .refine(HL ⟨Z,Hx<|JU sh<|HL<|Hv _ _ _ _ ⟨Z,.int _,ql3,Hx<|Ia<|HL ⟨Ke _ _,λd b=>J0 _ _ d ["list","tuple"] HH ⟨Z,.int _,qk,qsx,Hx<|Ia ?_⟩⟩⟩⟩);refine HL<|Hv _ _ _ _ ⟨Z,.int _,qQ,Hx<|Ii<|HL<|Hv _ _ _ _ ⟨Z,.int _,qV,IB Z<|IB Z<|Ii<|HY ⟨Z,?_⟩⟩⟩;show Q (.bl<|decide (V.int i=V.int i)) _;rw[HJ Z];exact k _<|qx b
def aF (T:Txt K mg a){D F:Nat}(O:FnOk P w K mg base Hw F a.L a.N (ap Ob) (TU D)):FnOk P w K mg base Hw (F+1) a.L a.N (ap Ob) (TU<|D+1):=by
 refine T.kQ.fn.ko Z9 λH _ Q E I h=>?_;obtain⟨v,u,rfl,L,k⟩:=h;refine IE (qf (zb (pC KP (pv 1) Io) (rT<|Kz KP (pv 0) Io<|LD _) IG)
  (qf (zb (zf<|zd Ki (by rfl) T.kE KR<|aN 1<|qd (KD (v:=.ty "str") Z T.kZ Xc Z) qg qe) (rT<|Lc (zd Ki (by rfl) T.kE KR<|aN 0<|qd (KD (v:=.ty "str") Z T.kZ Xc Z) qg qe)<|Lp<|Kz JO (pv 0) (pv 1)<|LD _) IG)
  (qf (zb (zf<|zd qpv (by rfl) T.kE KR<|aN 1<|qd (zj<|qd (KD (v:=.ty "list") Z T.kL Le Z) (qd (KD (v:=.ty "tuple") Z T.kR T3 Z) qg qe) qe) qg zo) (qf (zb (pC OV (zd Ki (by rfl) T.kE KR<|aN 0<|qd (KD (v:=.ty "list") Z T.kL Le Z) qg qe)<|zd Ki (by rfl) T.kE KR<|aN 1<|qd (KD (v:=.ty "list") Z T.kL Le Z) qg qe) (rT JV) IG)
  (qf (zb (PW.pt<|Kh (pC OV (zd Ki (by rfl) T.kE KR<|aN 0<|qd (KD (v:=.ty "tuple") Z T.kR T3 Z) qg qe)<|zd Ki (by rfl) T.kE KR<|aN 1<|qd (KD (v:=.ty "tuple") Z T.kR T3 Z) qg qe)<|Ku<|pC OV (zd Ka (by rfl) T.kG KY<|aL 0)<|zd Ka (by rfl) T.kG KY<|aL 1) (rT JV) IG)
  (qf (JD Av Z (LH Z T.kK<|qd (zd Ka (by rfl) T.kG KY<|aL 1) qg zl) (gI 2 Z9.nd)<|qj<|zb (Kx<|zf<|zc O (I.mono<|Al _) Z T.kQ.mgx T.kQ.fn.kp T.kQ.bd .nil IT<|qd (pX qvl (pv 0)<|pv 2) (qd (pX qvl (pv 1)<|pv 2) qg zn) zn) (rT JV) IG)
  (rT JV)))) IG)
  (rT<|Lc (zd Ki (by rfl) T.kE KR<|aN 0<|qd (KD (v:=.ty "int") Z T.gL Ze Z) qg qe)<|Lc (ZE<|zd Ki (by rfl) T.kE KR<|aN 0<|qd (KD (v:=.ty "bool") Z T.bS qB Z) qg qe)<|Lp<|Kz JO (pv 0) (pv 1)<|LD _)))) ?_
 intro _;dsimp only[IP];rcases L with ⟨rfl,N⟩|⟨p,q,xs,ys,rfl,rfl,J,G,hb,C⟩
 .skip
  rcases qp2 N with rfl|⟨x,rfl⟩|⟨i,rfl⟩
  .refine(HL ⟨Z,Hx<|Je Z<|HL ⟨Z,?_⟩⟩);show Q (.bl<|decide (V.non=V.non)) H;rw[HJ Z];exact k _<|Same.refl H
  .refine(HL ⟨Z,Hx<|JU sh<|HL<|Hv _ _ _ _ ⟨Z,.str _,Xs,Hx<|Ii<|HL<|Hv _ _ _ _ ⟨Z,.str _,Xs,Hx<|Ii<|HY ⟨Z,?_⟩⟩⟩⟩);show Q (.bl<|decide (V.str x=V.str x)) H;rw[HJ Z];exact k _<|Same.refl H
  .refine(HL ⟨Z,Hx<|JU sh<|HL<|Hv _ _ _ _ ⟨Z,.int _,ql3,Hx<|Ia<|HL ⟨Ke _ _,λm g=>J0 _ _ m ["list","tuple"] HH ⟨Z,.int _,qk,qsx,Hx<|Ia ?_⟩⟩⟩⟩);refine HL<|Hv _ _ _ _ ⟨Z,.int _,qQ,Hx<|Ii<|HL<|Hv _ _ _ _ ⟨Z,.int _,qV,IB Z<|IB Z<|Ii<|HY ⟨Z,?_⟩⟩⟩;show Q (.bl<|decide (V.int i=V.int i)) _;rw[HJ Z];exact k _<|qx g
 .rcases J with ⟨A,t⟩|⟨A,t⟩
  .skip
   refine HL ⟨Z,Hx<|JU sh<|HL<|Hv _ _ _ _ ⟨Z,.lst t,qrv,Hx<|Ia<|HL ⟨Ke _ _,λm g=>?_⟩⟩⟩;obtain⟨e,s⟩:=IY (o:=.tup [V.ty "list",V.ty "tuple"]) g;generalize upd H m _=H1 at e s |-;have c:=e _ _ A;have b:=e _ _ t;refine J0 _ _ m ["list","tuple"] HG ⟨Z,.lst b,s,NU,Hx<|Ii ?_⟩;refine HL<|Hv _ _ _ _ ⟨Z,.lst c,ql4,HL<|Hv _ _ _ _ ⟨Z,.lst b,ql4,Z,Hx<|LS Z ?_⟩⟩;refine(HL<|Hv _ _ _ _ ⟨Z,.lst c,qma,HL<|Hv _ _ _ _ ⟨Z,.lst b,qma,Z,Hx<|LS Z<|HL<|HP _ _ ⟨Z,.inl ⟨_,SqL.of<|c,Z⟩,HL<|HP _ _ ⟨Z,.inl ⟨_,SqL.of<|b,Z⟩,Z,Hx<|LS (by rw[G]) ?_⟩⟩⟩⟩);have f:=rb (n:=ys.length) sZ;refine HL<|HP _ _ ⟨Z,.inl ⟨_,SqL.of<|b,Z⟩,_,Z,f.1,f.2,Mj (lo:=0) (n:=((ys.length:Int)).toNat) (λj σ H'=>Same H1 H'/\∃l:tX,σ=[HA<|.ref p,HA<|.ref q,l]) ⟨Same.refl H1,HD,Z⟩ ?_ ?_⟩
   .intro j σ H' r w';obtain⟨d,l,rfl⟩:=w';have r:j<ys.length:=by lia
    obtain⟨y,hy⟩:∃y,ys[j]?=HA y:=⟨_,Ad r⟩;obtain⟨x,hx⟩:∃x,xs[j]?=HA x:=⟨_,Ad<|sZ⟩;refine(HY<|.inl<|Ib (d _ _ c) ((by rw[BD];exact Jz hx))<|HY<|.inl<|Hv _ _ _ _ ⟨Z,Z,SqL.of<|d _ _ b,(by rw[BD];exact Jz hy),x,y,Z,(C j x y hx hy).same<|e.trans d,λM B=>Hx<|Ia ⟨d.trans B,_,Z⟩⟩)
   .intro σ H' w';obtain⟨d,l,rfl⟩:=w';exact k _<|e.trans d
  .skip
   refine HL ⟨Z,Hx<|JU sh<|HL<|Hv _ _ _ _ ⟨Z,.tup t,qrw,Hx<|Ia<|HL ⟨Ke _ _,λm g=>?_⟩⟩⟩;obtain⟨e,s⟩:=IY (o:=.tup [V.ty "list",V.ty "tuple"]) g;generalize upd H m _=H1 at e s |-;have c:=e _ _ A;have b:=e _ _ t;refine J0 _ _ m ["list","tuple"] HG ⟨Z,.tup b,s,NT,Hx<|Ii ?_⟩;refine HL<|Hv _ _ _ _ ⟨Z,.tup c,qmb,HL<|Hv _ _ _ _ ⟨Z,.tup b,qmb,Z,Hx<|LS Z ?_⟩⟩;refine(HL<|Hv _ _ _ _ ⟨Z,.tup c,rG,HL<|Hv _ _ _ _ ⟨Z,.tup b,rG,Z,Hx<|LS Z<|HL<|HP _ _ ⟨Z,.inr ⟨_,SqT.of<|c,Z⟩,HL<|HP _ _ ⟨Z,.inr ⟨_,SqT.of<|b,Z⟩,Z,Hx<|LS (by rw[G]) ?_⟩⟩⟩⟩);have f:=rb (n:=ys.length) sZ;refine HL<|HP _ _ ⟨Z,.inr ⟨_,SqT.of<|b,Z⟩,_,Z,f.1,f.2,Mj (lo:=0) (n:=((ys.length:Int)).toNat) (λj σ H'=>Same H1 H'/\∃l:tX,σ=[HA<|.ref p,HA<|.ref q,l]) ⟨Same.refl H1,HD,Z⟩ ?_ ?_⟩
   .intro j σ H' r w';obtain⟨d,l,rfl⟩:=w';have r:j<ys.length:=by lia
    obtain⟨y,hy⟩:∃y,ys[j]?=HA y:=⟨_,Ad r⟩;obtain⟨x,hx⟩:∃x,xs[j]?=HA x:=⟨_,Ad<|sZ⟩;refine(HY<|.inr<|IH (d _ _ c) ((by rw[BD];exact Jz hx))<|HY<|.inr<|Hv _ _ _ _ ⟨Z,Z,SqT.of<|d _ _ b,(by rw[BD];exact Jz hy),x,y,Z,(C j x y hx hy).same<|e.trans d,λM B=>Hx<|Ia ⟨d.trans B,_,Z⟩⟩)
   .intro σ H' w';obtain⟨d,l,rfl⟩:=w';exact k _<|e.trans d
def qtl (T:Txt K mg a):FnOk P w K mg base Hw 2 a.L a.N (ap Ob) (TU 1):=aF T<|qtk T
def qtm (T:Txt K mg a):FnOk P w K mg base Hw 3 a.L a.N (ap Ob) (TU 2):=aF T<|qtl T
def qtn (T:Txt K mg a):FnOk P w K mg base Hw 4 a.L a.N (ap Ob) (TU 3):=aF T<|qtm T
def qto (T:Txt K mg a):FnOk P w K mg base Hw 5 a.L a.N (ap Ob) (TU 4):=aF T<|qtn T
def qk6 (T:Txt K mg a):FnOk P w K mg base Hw 1 a.A0 a.CF (ap cB) Sa:=by
 refine T.bN.fn.ko Xv λH _ Q E _ h=>?_;obtain⟨n,rfl,k⟩:=h;refine IE (qf (sI 1 Xv.nd<|qv JL (pv 0) qi)
  (qf (sI 2 Xv.nd<|qv JL (qv Jc qi<|pv 1) qi)
  (qf (Ro Av (pC Ta (qv IL (qv Jc qi<|pv 2)<|qv JL (qv IL (qv Jc qi<|pv 2) qi) qi)<|pv 1)<|qj<|sI 2 Xv.nd<|qv Jq (pv 2) qi)
  (qf (Ro Av (pC Kg (qv IL (qv Jc qi<|qv IL (pv 2) qi)<|qv JL (qv IL (qv Jc qi<|pv 2) qi) qi)<|pv 1)<|qj<|sI 2 Xv.nd<|qv IL (pv 2) qi)
  (rT<|qv Jq (pv 0)<|qv Jc qi<|qv IL (qv Jc qi<|pv 2)<|qv JL (qv IL (qv Jc qi<|pv 2) qi) qi))))) ?_
 intro _;refine HL<|IJ ⟨Ud,Ud⟩<|HL<|HV ⟨.inl ⟨Ud,Ud⟩,IJ ⟨Ud,Ud⟩ ?_⟩;refine⟨λz σ' H'=>H'=H/\∃y:Int,σ'=[HA<|.int n,HA<|.int<|n / 7,HA<|.int y]/\z=(fw y-n / 7).toNat,⟨_,Z,_,Z,Z⟩,?_⟩;intro z σ' H' w';obtain⟨rfl,y,rfl,rfl⟩:=w';refine HL<|HV ⟨.inl ⟨Ud,Ud⟩,HL<|HV ⟨.inl ⟨Ud,Ud⟩,HV<|IJ ⟨Ud,Ud⟩<|HV<|HL<|HV ⟨_,Z,IK (λc=>?_)<|λc=>?_⟩⟩⟩
 .have d:fw y > n / 7:=HK c;have fn:=Tp<|y-1;have m:=RZ<|y-1;rw[show y-1+1=y by lia]at fn;exact⟨λσ2 b=>b=H'/\σ2=[HA<|.int n,HA<|.int<|n / 7,HA<|.int<|y-1],by rintro σ2 b ⟨g,f⟩;exact ⟨(fw (y-1)-n / 7).toNat,sZ,g,y-1,f,Z⟩,HL<|HV ⟨Z,Z⟩⟩
 .have d:fw y<=n / 7:=B6.mp λz=>c<|HJ z;refine⟨λz σ' b=>b=H'/\∃y:Int,σ'=[HA<|.int n,HA<|.int<|n / 7,HA<|.int y]/\z=(n / 7-fw y).toNat/\fw y<=n / 7,⟨_,Z,y,Z,Z,d⟩,?_⟩;intro z σ' b w';obtain⟨rfl,y,rfl,rfl,d⟩:=w';have l:52*(y+1)+(3*y+17) / 17=fw (y+1):=by unfold fw;lia
  refine HL<|HV<|HV ⟨.inl ⟨Ud,Ud⟩,HL<|HV ⟨.inl ⟨Ud,Ud⟩,HV<|IJ ⟨Ud,Ud⟩<|HV<|HL<|HV ⟨_,Z,IK (λe=>?_)<|λe=>?_⟩⟩⟩
  .have i:fw (y+1)<=n / 7:=by rw[<- l];exact HK e
   have fn:=Tp y;have m:=RZ y;exact⟨λσ2 j=>j=b/\σ2=[HA<|.int n,HA<|.int<|n / 7,HA<|.int<|y+1],by rintro σ2 j ⟨g,f⟩;exact ⟨(n / 7-fw (y+1)).toNat,sZ,g,y+1,f,Z,i⟩,HL<|HV ⟨Z,Z⟩⟩
  .have i:n / 7<fw (y+1):=by rw[<- l];exact Ep.mp λz=>e<|HJ z
   have o:yo (n / 7)=y:=je d i;unfold IV at k;rw[o]at k;exact HY<|HV ⟨.inl ⟨Ud,Ud⟩,HL<|HV ⟨.inl ⟨Ud,Ud⟩,HV<|IJ ⟨Ud,Ud⟩<|HV<|HV ⟨.inl ⟨Ud,Ud⟩,HV k⟩⟩⟩
def qyz (T:Txt K mg a):FnOk P w K mg base Hw 2 a.A1 a.CG (ap Zg) S0:=by
 refine T.m3.fn.ko Lv λH _ Q E S h=>?_;obtain⟨n,j,d,yr,rs,rfl,⟨l,g,f,J,W,⟨I,O,ty⟩,⟨U,B,tr⟩⟩,N,k⟩:=h;refine IE (qf (XA (pv 0)<|Kw Z<|Ip (gI 2 Lv.nd)<|Ip (gI 3 Lv.nd)<|Ip (gI 4 Lv.nd) K0)
  (qf (sI 5 Lv.nd<|Kz Oe (qv IL (qv Iw (pv 1) qi) qi) (pv 2) (by with_unfolding_all rfl))
  (qf (JD Av Z (Jk<|pv 3) (Kw Z<|Ip (gI 6 Lv.nd)<|Ip (gI 7 Lv.nd) K0)<|qj<|zb (qro Kg Kg (pv 6) (pD T.bN (qk6 T) S<|aL 1)<|pv 7) (qj<|sI 5 Lv.nd JV) IG)
  (qf (JD Av Z (Jk<|pv 4) (Kw Z<|Ip (gI 6 Lv.nd)<|Ip (gI 7 Lv.nd)<|Ip (gI 8 Lv.nd) K0)<|qj<|zb (qro Kg Kg (pv 6) (pv 1)<|pv 7) (qj<|sI 5 Lv.nd<|Kz JO (pv 8) zg<|LD _) IG)
  (rT<|pv 5))))) ?_
 intro _;dsimp only[IP];have X:=At.len tr;have L:fy d yr (IV n)=(d.contains (n % 7+1) || (yr.any λr=>decide (r.1<=IV n) && decide (IV n<=r.2))):=by unfold fy;rw[qvs,qvt]
 refine HL<|HP _ _ ⟨Z,SqT.of J,Z,_,_,Z,_,_,Z,_,_,Z,Z,?_⟩;dsimp only[Ja,AT,AU];refine HL<|IJ (pos Ud)<|HV<|HL<|HP _ _ ⟨Z,.inl<|SqL.of W,Z,qC _,?_⟩;refine JC (σ':=[HA<|.ref j,HA<|.int n,HA<|.ref l,HA<|.ref g,HA<|.ref f,HA<|.bl (d.contains (n % 7+1) || ((yr.take 0).any λr=>decide (r.1<=IV n) && decide (IV n<=r.2))),HD,HD,HD]) (by show ([_,_,_,_,_,HA<|V.bl<|Ko (V.int<|n % 7+1)<|d.map V.int,_,_,_]:L2.St)=_;rw[oR,Dl,List.any_nil,Ca]) ?_;refine(HL ⟨_,Z,⟨_,SqL.of O⟩,KE (K:=K) (a:=g) (xs:=I) (λi σ m=>m=H/\∃v o:tX,σ=[HA<|.ref j,HA<|.int n,HA<|.ref l,HA<|.ref g,HA<|.ref f,HA<|.bl (d.contains (n % 7+1) || ((yr.take i).any λr=>decide (r.1<=IV n) && decide (IV n<=r.2))),v,o,HD]) ⟨Z,_,_,Z⟩ (λi σ H' _ h=>by rw[h.1];exact SqL.of O) ?_ ?_⟩)
 .intro i x σ m D w';obtain⟨p,v,o,rfl⟩:=w';obtain⟨b,t,rfl,G,C⟩:=ty.get' D;obtain⟨r,A,rfl⟩:=oa G;have M:((yr.take<|i+1).any λr=>decide (r.1<=IV n) && decide (IV n<=r.2))=(((yr.take i).any λr=>decide (r.1<=IV n) && decide (IV n<=r.2)) || (decide (r.1<=IV n) && decide (IV n<=r.2))):=by rw[Mi A,Df,CU,List.any_nil,Ca]
  generalize ((yr.take i).any λr=>decide (r.1<=IV n) && decide (IV n<=r.2))=q0 at M |-;rw[p];have y:∀c:Bool,(decide (r.1<=IV n) && decide (IV n<=r.2))=c->(d.contains (n % 7+1) || (q0 || c))=(d.contains (n % 7+1) || ((yr.take<|i+1).any λr=>decide (r.1<=IV n) && decide (IV n<=r.2))):=λc e=>by rw[M,e]
  refine HP _ _ ⟨Z,SqT.of C,Z,_,_,Z,_,_,Z,Z,?_⟩;refine HY ⟨n,Z,HV ⟨_,Z,IK (λs=>HL<|HV ⟨_,Z,IK (λq=>?_)<|λq=>?_⟩)<|λs=>⟨_,Z,Ia ?_⟩⟩⟩
  .refine JC (σ':=[HA<|.ref j,HA<|.int n,HA<|.ref l,HA<|.ref g,HA<|.ref f,HA<|.bl (d.contains (n % 7+1) || ((yr.take<|i+1).any λr=>decide (r.1<=IV n) && decide (IV n<=r.2))),HA<|.int r.1,HA<|.int r.2,HD]) ?_ ⟨Z,_,_,Z⟩;rw[<- y HG (by rw[s,q];rfl),Dt,Dt];rfl
  .refine Kj (σ':=[HA<|.ref j,HA<|.int n,HA<|.ref l,HA<|.ref g,HA<|.ref f,HA<|.bl (d.contains (n % 7+1) || ((yr.take<|i+1).any λr=>decide (r.1<=IV n) && decide (IV n<=r.2))),HA<|.int r.1,HA<|.int r.2,HD]) ?_ ⟨Z,_,_,Z⟩;rw[<- y HH (by rw[(Cu _).mp q,BI]),Ca];rfl
  .refine Kj (σ':=[HA<|.ref j,HA<|.int n,HA<|.ref l,HA<|.ref g,HA<|.ref f,HA<|.bl (d.contains (n % 7+1) || ((yr.take<|i+1).any λr=>decide (r.1<=IV n) && decide (IV n<=r.2))),HA<|.int r.1,HA<|.int r.2,HD]) ?_ ⟨Z,_,_,Z⟩;rw[<- y HH (by rw[(Cu _).mp s,Cy]),Ca];rfl
 intro σ m w';obtain⟨p,v,o,rfl⟩:=w';rw[p];have R:I.length=yr.length:=by have:=ty.length;rwa[Ab]at this
 rw[R,Bc,<- L];refine(HL ⟨_,Z,⟨_,SqL.of B⟩,KE (K:=K) (a:=f) (xs:=U) (λi σ m=>m=H/\∃v o F:tX,σ=[HA<|.ref j,HA<|.int n,HA<|.ref l,HA<|.ref g,HA<|.ref f,HA<|.bl (if Ir (Aa "") (rs.take i) n=Aa "" then fy d yr (IV n) else decide (Ir (Aa "") (rs.take i) n=Aa "free")),v,o,F]) ⟨Z,_,_,_,Z⟩ (λi σ H' _ h=>by rw[h.1];exact SqL.of B) ?_ ?_⟩)
 .intro i x σ m D w';obtain⟨p,v,o,F,rfl⟩:=w';obtain⟨b,t,rfl,G,C⟩:=tr.get' D;obtain⟨r,A,rfl⟩:=XH G;have u:=qx5 (Aa "") (rs.take i) r n;rw[<- Mi A]at u;rw[p];refine HP _ _ ⟨Z,SqT.of C,Z,_,_,Z,_,_,Z,_,_,Z,Z,?_⟩;refine HY<|HV ⟨_,Z,IK (λs=>HL<|HV ⟨_,Z,IK (λq=>HL ⟨Z,?_⟩)<|λq=>?_⟩)<|λs=>⟨_,Z,Ia ?_⟩⟩
  .rw[HI ⟨HK s,HK q⟩]at u;refine JC (σ':=[HA<|.ref j,HA<|.int n,HA<|.ref l,HA<|.ref g,HA<|.ref f,HA<|.bl (if Ir (Aa "") (rs.take<|i+1) n=Aa "" then fy d yr (IV n) else decide (Ir (Aa "") (rs.take<|i+1) n=Aa "free")),HA<|.int r.1,HA<|.int r.2.1,HA<|.str r.2.2]) ?_ ⟨Z,_,_,_,Z⟩;rw[u,HF<|UG<|N r<|Au A,<- N3 r.2.2];rfl
  .rw[HF<|λz=>q<|HJ z.2]at u;exact Kj (σ':=[HA<|.ref j,HA<|.int n,HA<|.ref l,HA<|.ref g,HA<|.ref f,HA<|.bl (if Ir (Aa "") (rs.take<|i+1) n=Aa "" then fy d yr (IV n) else decide (Ir (Aa "") (rs.take<|i+1) n=Aa "free")),HA<|.int r.1,HA<|.int r.2.1,HA<|.str r.2.2]) (by rw[u];rfl) ⟨Z,_,_,_,Z⟩
  .rw[HF<|λz=>s<|HJ z.1]at u;exact Kj (σ':=[HA<|.ref j,HA<|.int n,HA<|.ref l,HA<|.ref g,HA<|.ref f,HA<|.bl (if Ir (Aa "") (rs.take<|i+1) n=Aa "" then fy d yr (IV n) else decide (Ir (Aa "") (rs.take<|i+1) n=Aa "free")),HA<|.int r.1,HA<|.int r.2.1,HA<|.str r.2.2]) (by rw[u];rfl) ⟨Z,_,_,_,Z⟩
 intro σ m w';obtain⟨p,v,o,F,rfl⟩:=w';rw[p];refine IB Z ?_;rw[X,Bc];exact k
def qu2 (T:Txt K mg a):FnOk P w K mg base Hw 1 a.A2 a.CH (ap Zx) Sh:=by
 refine T.lR.fn.ko qJ λH _ Q E _ h=>?_;obtain⟨p,d,ps,rfl,u,k⟩:=h;refine IE (qf (JD Av Z (Jk<|pv 0) (Kw Z<|Ip (gI 2 qJ.nd)<|Ip (gI 3 qJ.nd) K0)<|qj<|zb (PW.pt<|KC (pC Kg (pv 2)<|pv 1)<|KW<|PW.pt<|Kh (pC KP (pv 3) Io)<|Ku<|pC Kg (pv 1)<|pv 3) (rT JV) IG)
  (rT JV)) ?_
 intro _;dsimp only[IP];obtain⟨us,r,ty⟩:=id u;have x:us.length=ps.length:=by rw[ty.length,Ab]
 refine HL ⟨_,Z,⟨_,SqL.of r⟩,KE (K:=K) (a:=p) (xs:=us) (λi σ H'=>H'=H/\(∃l j:tX,σ=[HA<|.ref p,HA<|.int d,l,j])/\Jg (ps.take i) d=HH) ⟨Z,HP HD HD Z,Z⟩ (λi σ H' _ h=>SqL.of<|h.1 ▸ r) ?_ ?_⟩
 .intro i v σ H' s w';obtain⟨rfl,⟨l,j,rfl⟩,f⟩:=w';obtain⟨b,t,rfl,y,A⟩:=ty.get' s;obtain⟨⟨F,o⟩,n,rfl⟩:=oX y;have q:LM (F,o) d=HH->Jg (ps.take<|i+1) d=HH:=λz=>by unfold Jg at f |-;rw[Mi n,Df,f];show (HH || (LM (F,o) d || false))=HH;rw[z];rfl
  have g:LM (F,o) d=HG->Q (.bl HG) H':=λz=>by rwa[Wy (Au n) z]at k
  refine HP _ _ ⟨Z,SqT.of A,Z,_,_,Z,_,_,Z,Z,HY<|HV<|Hx<|IK (λc=>?_)<|λc=>Ia ?_⟩
  .have c:=HK c;cases o with
   |none=>exact(HL ⟨Z,Hx<|Je Z<|Ii<|g (by rw[XT];exact HJ c)⟩)
   |some e =>
    refine HL ⟨Z,Hx<|JU sh<|HY<|HV<|Hx<|IK (λm=>?_)<|λm=>?_⟩
    .exact g (by rw[Pn,HJ c,m];rfl)
    .exact⟨Z,HP _ _ Z,q<|by rw[Pn,(Cu _).mp m,BI]⟩
  .exact⟨Z,HP _ _ Z,q (by unfold LM;rw[(Cu _).mp c];rfl)⟩
 .intro σ H' w';obtain⟨rfl,⟨l,j,rfl⟩,f⟩:=w';rw[x,Bc]at f;rwa[f]at k
def qtp (T:Txt K mg a):FnOk P w K mg base Hw 3 a.A3 a.CI (ap aI) (Sb a):=by
 refine T.fA.fn.ko T4 λH _ Q E U h=>?_;obtain⟨d,u,l,n,m,j,ts,i,ps,b,yr,rs,rfl,hR,hq,hD,G,Y,L,k⟩:=h;refine IE (qf (sI 5 T4.nd<|pv 2)
  (qf (zb (pC JO (fV 1) zg) (qj<|sI 5 T4.nd<|qv Jc qi<|pv 2) IG)
  (qf (sI 6 T4.nd<|pv 0)
  (qj (Ro Av (zf JV) (qf (sI 6 T4.nd<|qv IL (pv 6) qi)
  (qf (sI 7 T4.nd<|pD T.m3 (qyz T) U<|aN 4<|aL 6)
  (qj (zb (Kx<|zf<|pD T.lR (qu2 T) U<|aN 3<|aL 6) (qf (zb (PW.pt<|Kh (pC OV (fV 1) zg)<|Ku<|Kx<|zf<|pv 7) (qj<|sI 5 T4.nd<|qv Jq (pv 5) qi) IG)
  (qj<|zb (PW.pt<|KC (pC Kg (pv 5) qi)<|KW<|Kx<|zf<|pv 7) (rT<|pv 6) IG)) IG))))))))) ?_
 intro _;dsimp only[IP];obtain⟨_,_,_,_,_,_,_,_,N,_⟩:=id hR;generalize (ts i).rd.unit=un at N L;refine IB Z ?_;refine JC (σ':=[HA<|.int d,HA<|.ref n,HA<|.int u,HA<|.ref m,HA<|.ref j,HA<|.int u,HD,HD]) rfl ?_;apply Pf (p:=λv J=>v=HA (.int<|Li un u)/\J=H) (f:=λv=>[HA<|.int d,HA<|.ref n,HA<|.int u,HA<|.ref m,HA<|.ref j,v,HD,HD])
 .intro x;have C:=UM un u;refine HL<|IA N T.k7 T.k8 Z ⟨Z,_,Z,IK (λc=>?_)<|λc=>?_⟩
  rotate_left
  .rw[HF<|λz=>c<|HJ<|HR V.str z]at C;exact Kj rfl (x (HA<|.int u) H ⟨by rw[C],Z⟩)
  .rw[HI<|V.str.inj<|HK c]at C;refine HL<|HV ⟨.inl ⟨Ud,Ud⟩,?_⟩;exact x (HA<|.int<|7*u) H ⟨by rw[C],Z⟩
 rintro _ J ⟨rfl,A⟩;rw[A];clear A J;refine IB Z ?_;refine JC (σ':=[HA<|.int d,HA<|.ref n,HA<|.int u,HA<|.ref m,HA<|.ref j,HA<|.int<|Li un u,HA<|.int d,HD]) rfl ?_;have g:=rR (II b yr) (ov rs) un;refine⟨λz σ' H'=>Same H H'/\∃(day left:Int)(q:tX),σ'=[HA<|.int d,HA<|.ref n,HA<|.int u,HA<|.ref m,HA<|.ref j,HA<|.int left,HA<|.int day,q]/\Wq (kf (II b yr) (ov rs) un) (Jd (II b yr)<|ov rs) ps d (Li un u) l day left/\z=(l-day).toNat,⟨_,Same.refl H,d,Li un u,HD,Z,⟨AZ _,sZ,jM L⟩,Z⟩,?_⟩;intro z σ' H' w';obtain⟨r,day,left,q,rfl,B,rfl⟩:=w';have hs:=B.hs;have lt:=B.lt;refine⟨_,Z,Ii ?_⟩;refine⟨λσ2 S=>Same H S/\∃(D:Int)(q:tX),σ2=[HA<|.int d,HA<|.ref n,HA<|.int u,HA<|.ref m,HA<|.ref j,HA<|.int D,HA<|.int<|day+1,q]/\Wq (kf (II b yr) (ov rs) un) (Jd (II b yr)<|ov rs) ps d (Li un u) l (day+1) D,by intro σ2 S w';obtain⟨y1,D,q,y2,y3⟩:=w';exact ⟨(l-(day+1)).toNat,sZ,y1,day+1,D,q,y2,y3,Z⟩,?_⟩;refine HL<|HV ?_;refine JC (σ':=[HA<|.int d,HA<|.ref n,HA<|.int u,HA<|.ref m,HA<|.ref j,HA<|.int left,HA<|.int<|day+1,q]) rfl ?_;refine HY<|J0 (day+1) j b yr rs ⟨Z,hD.same r,G,?_⟩;have fr:=qvu (wk:=b) (yr:=yr) G (show 0<=day+1 by lia);rw[<- fr];have g:=g<|day+1;generalize ad:Jd (II b yr) (ov rs) (day+1)=fb at g;refine JC (σ':=[HA<|.int d,HA<|.ref n,HA<|.int u,HA<|.ref m,HA<|.ref j,HA<|.int left,HA<|.int<|day+1,HA<|.bl fb]) rfl ?_;refine HY<|HW m (day+1) ps ⟨Z,hq.same r,_,Z,?_⟩;have F:IQ (Jd (II b yr)<|ov rs) ps (day+1)=(fb || Jg ps (day+1)):=by unfold IQ;rw[ad]
 have t:IQ (kf (II b yr) (ov rs) un) ps (day+1)=(kf (II b yr) (ov rs) un (day+1) || Jg ps (day+1)):=rfl;cases e:Jg ps (day+1) with
 |true =>rw[e,Dt]at F t;exact Ia ⟨r,left,_,Z,(qws Y B L (left':=left)<|by rw[HI t]).2 λz=>by rw[F]at z;cases z.2⟩
 |false =>
  rw[e,Ca]at F t;refine Ii ?_;have X:=r _ _ N;apply Pf (p:=λv J=>(∃y,v=HA (.int y)/\y=if IQ (kf (II b yr) (ov rs) un) ps (day+1)=HG then left else left-1)/\J=H') (f:=λv=>[HA<|.int d,HA<|.ref n,HA<|.int u,HA<|.ref m,HA<|.ref j,v,HA<|.int<|day+1,HA<|.bl fb])
  .intro x;refine HL<|IA X T.k7 T.k8 Z ⟨Z,_,Z,IK (λo=>Ii ?_)<|λo=>HL ⟨_,Z,IK (λs=>?_)<|λs=>?_⟩⟩
   rotate_left 2
   .have I:KM un=Aa "court" := by simpa using o
    rw[HI I]at g;have M:fb=HG:=by simpa using s
    exact Kj rfl (x (HA<|.int left) H' ⟨⟨_,Z,by rw[t,g,M,HI Z]⟩,Z⟩)
   .refine(HL<|HV ?_);have nu:¬KM un=Aa "court" := by simpa using o
    rw[HF nu]at g;exact x (HA<|.int<|left-1) H' ⟨⟨_,Z,by rw[t,g,HF Ud]⟩,Z⟩
   .refine(HL<|HV ?_);have I:KM un=Aa "court" := by simpa using o
    rw[HI I]at g;have M:fb=HH:=by simpa using s
    exact x (HA<|.int<|left-1) H' ⟨⟨_,Z,by rw[t,g,M,HF Ud]⟩,Z⟩
  intro _ J w';obtain⟨⟨y,rfl,W⟩,A⟩:=w';rw[A];clear A J;obtain⟨R,O⟩:=qws Y B L W;rw[F]at R O;refine(HL<|HV ⟨_,Z,IK (λo=>HL ⟨_,Z,IK (λs=>?_)<|λs=>⟨r,y,_,Z,O λz=>s (by rw[z.2];rfl)⟩⟩)<|λo=>Ia ⟨r,y,_,Z,O λz=>o<|HJ z.1⟩⟩);have e:=R ⟨HK o,by cases fb with|false=>rfl|true=>cases s⟩;rw[<- e]at k;exact HL<|k _ r
def qu3 (T:Txt K mg a):FnOk P w K mg base Hw 3 a.M a.O (ap OZ) (Tb a 0):=by refine T.kM.fn.ko Xj λH _ Q E _ h=>?_;obtain⟨_,_,_,n,_,Y,p,_,_,_,D,N,i,j,rfl,_,_,_,_,_,_,_,_,b,_,k⟩:=h;exact absurd b<|Bj _
def Z8 (T:Txt K mg a){nn O:Nat}(hk:3<=O)(ih:FnOk P w K mg base Hw O a.M a.O (ap OZ) (Tb a nn)):FnOk P w K mg base Hw (O+1) a.M a.O (ap OZ) (Tb a<|nn+1):=by
 refine T.kM.fn.ko Xj λH vs Q E hr h=>?_;obtain⟨I,R,M,n,ts,Y,p,d,yr,A,D,N,i,j,rfl,hd,hH,hL,T0,C,ex,hB,s,_,hj,k⟩:=h;refine IE (qf (sI 5 Xj.nd<|pX zr (K7 (Ji hr) (pv 0) (pv 1)<|λ_ _=>rfl)<|pv 2)
  (qf (sI 6 Xj.nd<|pX zq (pv 5) qi)
  (qf (zb (pC Lq (pX zq (pv 5) qi) Io) (qj<|sI 6 Xj.nd<|pX zq (zc ih (hr.mono<|Al _) Z T.kM.mgx T.kM.fn.kp T.kM.bd .nil IT<|aN 0<|qd (pX zq (pX zq (pv 5) qi) qi) (qd (pX zq (pX zq (pv 5) qi) qi) (aN 3<|aL 4) zn) zn) qi) IG)
  (qf (zb (PW.pt<|Kh (pC KP (pv 6) Io)<|Ku<|PW.pt<|KC (pC (qr7 hr.units) (pX zq (pv 5) qi)<|zh qg)<|KW<|pC KP (pX zq (pX zr (pX zq (pv 5) qi)<|KN KQ qi) qi) Io) (rT<|zj<|aN 6<|qd Io qg ql) IG)
  (rT<|zj<|aN 6<|qd (rJ T.fA (qtp T) (hr.mono hk)<|aN 6<|qd (K7 (Ji hr) (pv 3) (pv 1)<|λ_ _=>rfl) (qd (pX zq (pv 5) qi) (qd (pX zq (pv 5) qi) (aL 4) zn) zn) zn) qg zl))))) ?_
 intro _;dsimp only[IP];obtain⟨us,hl,_,ai⟩:=hH i s;obtain⟨v,hv⟩:∃v,us[j]?=HA v:=⟨_,Ad<|sZ⟩;obtain⟨x,_,pp,_,_,_,rfl,B,h3,_,_,_,⟨up,h7,W⟩,_⟩:=ai j v hv;have S:=K8 hj;have ok:=C.ok i s _ S;have wf:=C.wf i s _ S;generalize (Y i).getD j Hz=st at B h3 W S ok wf k;obtain⟨s0,es⟩:∃s0,ID (II d yr) (ov A) ts Y 3 i st=s0:=⟨_,Z⟩;obtain⟨r0,er⟩:∃r0,Jm (II d yr) (ov A) ts Y i st=r0:=⟨_,Z⟩;have L:LsS (II d yr) (ov A) (ts i).rd st (ID (II d yr) (ov A) ts Y 3 i st) (Jm (II d yr) (ov A) ts Y i st):=RW C ex (m:=3) s ok wf;rw[es,er]at L k;refine MV λY2 Y3 Y4 E4 E3 E2=>?_;refine HY<|HP I _ ⟨Z,.inl<|HP _ (.inr (ts i).name) ⟨hd,Z,(Ph T0.nn s).symm⟩,HL<|Ib hl (Jz hv) ?_⟩;refine JC (σ':=[HA<|.ref I,HA<|.str (ts i).name,HA<|.int (j:Int),HA<|.ref R,HA<|.ref M,HA<|.ref x,HD]) rfl ?_;refine JM (u:=Y2) E2 ?_;refine HL<|IH B Z ?_;refine JC (σ':=[HA<|.ref I,HA<|.str (ts i).name,HA<|.int (j:Int),HA<|.ref R,HA<|.ref M,HA<|.ref x,HA<|.int st.day]) rfl ?_;refine JM (u:=Y3) E3 ?_;apply Pf (p:=λv J=>v=HA (oV s0)/\Same H J) (f:=λv=>[HA<|.ref I,HA<|.str (ts i).name,HA<|.int (j:Int),HA<|.ref R,HA<|.ref M,HA<|.ref x,v])
 .intro af;refine HL<|IH B Z ⟨Z,IB Z ?_⟩;rcases h3 with ⟨eb,rfl⟩|⟨t,b,O,eb,hb,rfl,ht⟩
  .exact LS rfl (Kj Z<|af (HA<|.int st.day) H ⟨by rw[<- es,VW eb];rfl,Same.refl H⟩)
  .obtain⟨b',ad,hbi,_,ae⟩:=wf.2 _ eb;rw[hb]at ad;cases ad;rw[Bb]at ae;refine Ii (HY<|IH B Z<|IH ht Z<|HL<|IH B Z<|IH ht Z<|HY<|Ic I R M n ts Y p d<|K9 yr A D N b O ⟨Z,hd,hH,hL,T0,C,ex,λc _=>hB c<|sZ,sZ,sZ,ae,λq H1 g G hq=>Hv _ _ _ _ ⟨Z,Z,SqT.of hq,Z,?_⟩⟩);refine JC (σ':=[HA<|.ref I,HA<|.str (ts i).name,HA<|.int (j:Int),HA<|.ref R,HA<|.ref M,HA<|.ref x,HA<|oV<|Jm (II d yr) (ov A) ts Y b<|(Y b).getD O Hz]) rfl ?_;exact af _ H1 ⟨by rw[<- es,XC T0 C s wf eb hb],g⟩
 rintro _ J ⟨rfl,sJ⟩;refine JM (u:=Y4) E4 ?_;apply SI (p:=λF=>Same H F/\r0=HD)
 .intro m1;refine HL ⟨Z,Hx<|IK (λc=>Ii ?_)<|λc=>?_⟩
  rotate_left
  .obtain⟨y,ey⟩:=qwt (r:=s0) λz=>c<|HJ z;refine HL<|IH (sJ _ _ B) Z ⟨JZ,λpe ak=>?_⟩;have g:=sJ.trans<|qx (o:=.lst []) ak;have e1:=qk (H:=J) (a:=pe) (o:=.lst []);generalize upd J pe _=J1 at g e1 |-;have U:=g _ _ B;have X:=g _ _ h7;apply use (p:=IW st.ps=HH)
   .intro m2;refine HW _ _ _ ⟨Z,Z,SqL.of X,SqL.of e1,IB Z ?_⟩;rcases Bm st.ps with e|⟨ini,⟨F,o⟩,e⟩
    .have eu:up=[]:=BW (by rw[W.length,e];rfl);rw[eu];exact Ia (Ia<|m2 (by rw[e];rfl))
    .rw[Bo]at e;rw[e]at W;obtain⟨vs,b,eu,hb,_⟩:=Xi W;rw[show (!up.isEmpty)=HG by rw[eu];simp];refine Ii<|HL<|IH U Z ⟨_,Z,Ib X ((eu ▸ Pj vs _))<|IH (g _ _ hb) Z ⟨Z,IB Z ?_⟩⟩;show if decide (oV o=V.non)=HG then _ else _;exact IK (λc3=>m1 J1 ⟨g,er.symm.trans<|hB i (Al i) st S (by rwa[e,oH])⟩) (λc3=>m2 (by rw[e,oH];exact(Cu _).mp c3))
   .intro hh;obtain⟨l,el⟩:∃l,r0=HA l:=by
     cases e:r0 with|some l=>exact⟨l,Z⟩|none=>rw[qww C ex s S (es.trans ey)<|er.trans e]at hh;cases hh
    rw[ey,el]at L k;rw[ey];obtain⟨hD,aj,_,ah,al⟩:=hL.same g;obtain⟨rl,ag,hR⟩:=al i s;exact UJ<|HP R _ ⟨Z,.inl<|HP _ (.inr (ts i).name) ⟨.inl ah,Z,ag.symm⟩,HL<|IH U Z<|HL<|IH U Z<|HL<|Ic y st.units l rl pp M ts i<|Hv st.ps d yr A ⟨Z,hR,⟨up,X,W.same g⟩,hD,aj,Th C ex 3 i st s ok wf y<|es.trans ey,L,λ_ s'=>⟨Ke _ _,λq G=>k q _ (g.trans<|s'.trans<|qx G) ((g.trans s').free G) qk⟩⟩⟩
  .have e0:=ZU<|HK c;rw[e0]at L;exact m1 J ⟨sJ,L⟩
 .rintro F ⟨sF,en⟩;rw[en]at k;exact HL ⟨Ke _ _,λq G=>k q _ (sF.trans<|qx G) (sF.free G) qk⟩
def qu4 (T:Txt K mg a):FnOk P w K mg base Hw 4 a.M a.O (ap OZ) (Tb a 1):=Z8 T Ud<|qu3 T
def qu5 (T:Txt K mg a):FnOk P w K mg base Hw 5 a.M a.O (ap OZ) (Tb a 2):=Z8 T Ud<|qu4 T
def qu6 (T:Txt K mg a):FnOk P w K mg base Hw 6 a.M a.O (ap OZ) (Tb a 3):=Z8 T Ud<|qu5 T
def qot (T:Txt K mg a):FnOk P w K mg base Hw 7 a.M a.O (ap OZ) (Tb a 4):=Z8 T Ud<|qu6 T
def qp9 (T:Txt K mg a):FnOk P w K mg base Hw 1 a.A4 a.CJ (ap Zf) Sj:=by
 refine T.bJ.fn.ko qx2 λH vs Q E hr h=>?_;obtain⟨p,d,ps,rfl,X,hl,hd,k⟩:=h;refine IE (qf (zb (PW.pt<|Kh (pC (P7 hr.units) (pv 0)<|zh qg)<|Ku<|pC Lq (pX zq (pX zr (pv 0)<|KN KQ qi) qi) Io) (rT<|pv 0) IG)
  (qf (zb (pC JO (pX zq (pX zr (pv 0)<|KN KQ qi) qi)<|pv 1) (rT<|Xa XM (pv 0) XI<|Vf<|KN KQ qi) IG)
  (rT<|qv Lo (Xa XM (pv 0) XI<|Vf<|KN KQ qi)<|zh<|qd (zj<|qd (pX zq (pX zr (pv 0)<|KN KQ qi) qi) (qd (qv Jq (pv 1) qi) qg zm) zn) qg zo))) ?_
 intro _;dsimp only[IP];obtain⟨us,M,ty⟩:=id X;apply SI (p:=λf=>Same H f/\IW ps=HG)
 .intro mm;have B:∀f,Same H f->IW ps=HH->Q (.ref p) f:=λf s e=>k p f s (.inl Z) (by rw[Pi e];exact X.same s);refine HL ⟨JZ,λq1 W=>?_⟩;obtain⟨b,n⟩:=IY (o:=.lst []) W;generalize upd H q1 _=f at b n |-;refine K9 _ _ _ _ _ _ ⟨Z,Z,SqL.of<|b _ _ M,SqL.of n,ty.same b,.nil,qya ps,Z,Hx<|IK (λI=>Ii ?_)<|λI=>?_⟩
  .have e:ps=[]:=List.map_eq_nil_iff.mp<|qyi I;exact(HL<|B f b (by rw[e];rfl))
  .obtain⟨O,⟨F,o⟩,l⟩:=qyb (ps:=ps) (by rw[show OP (ps.map K5) []=HH from (Cu _).mp I];rfl);have x:=ty;rw[l]at x;obtain⟨vs,c,i,C,G⟩:=Xi x;refine HL ⟨_,Z,Ib (b _ _ M) ((i ▸ Pj vs _))<|IH (b _ _ C) Z ⟨Z,IB Z ?_⟩⟩;show if (!decide (oV o=V.non))=HG then _ else _;refine IK (λm=>?_)<|λm=>?_
   .exact(HL<|B f b (by rw[l,XR];cases e:decide (oV o=V.non) with|false=>rfl|true=>rw[e]at m;cases m))
   .exact mm f ⟨b,by rw[l,XR];cases e:decide (oV o=V.non) with|true=>rfl|false=>rw[e]at m;exact absurd Z m⟩
 .rintro f ⟨b,hh⟩;obtain⟨O,F,rfl⟩:=Re hh;obtain⟨vs,c,i,C,G⟩:=Xi ty;have fd:=hd (F,HD)<|As.mpr<|.inr<|Aj.mpr Z;simp only at fd;have N:LC us HD (HA (-1))=vs:=by rw[i];exact N4 vs _
  have lv:vs.length<=1000:=by rw[G.length,Ab];rw[Ae]at hl;lia
  have u:=b _ _ M;have A:=b _ _ C;have y:Tups f (LC us HD<|HA (-1)) (O.map K5):=by rw[N];exact G.same b
  rw[To]at k;refine HL ⟨_,Z,Ib u ((i ▸ Pj vs _))<|IH A Z<|HL ⟨Z,Hx<|IK (λq=>?_)<|λq=>?_⟩⟩
  .have q:=V.int.inj<|HK q;rw[HF<|sZ,Br]at k;refine HL ⟨_,Z,_,Z,_,_,Z,SqL.of u,λL j=>?_⟩;have g:=qx (o:=.lst<|LC us HD<|HA (-1)) j;exact k L _ (b.trans g) (.inr<|b.free j) ⟨_,qk,y.same g⟩
  .have q:¬F=d:=λz=>q<|HJ<|HR V.int z;rw[HI<|sZ]at k;refine HL ⟨_,Z,_,Z,_,_,Z,SqL.of u,λL j=>?_⟩;obtain⟨g,n⟩:=IY (o:=.lst<|LC us HD<|HA (-1)) j;generalize upd f L _=H2 at g n |-;refine HL ⟨_,Z,Ib (g _ _ u) ((i ▸ Pj vs _))<|IH (g _ _ A) Z<|HL<|HV ⟨Ke _ _,λD ad=>?_⟩⟩;dsimp only[];obtain⟨t,U⟩:=IY (o:=.tup [V.int F,V.int<|d-1]) ad;generalize upd H2 D _=H3 at t U |-;refine⟨Mf _,λp3 Y=>?_⟩;obtain⟨r,S⟩:=IY (o:=.lst [V.ref D]) Y;generalize upd H3 p3 _=H4 at r S |-;refine(Hv _ _ _ _ ⟨Z,Z,r _ _<|t _ _ n,S,JJ (by rw[N,AG];lia),λp4 v=>?_⟩);have J:=qx (o:=.lst<|LC us HD (HA (-1))++[V.ref D]) v;have R:=b.trans<|g.trans<|t.trans r;refine k p4 _ (R.trans J) (.inr<|R.free v) ⟨_,qk,?_⟩;rw[Aq];exact(y.same<|g.trans<|t.trans<|r.trans J).snoc<|J _ _<|r _ _ U
def qtq (T:Txt K mg a):FnOk P w K mg base Hw 2 a.A5 a.CK (ap aH) (Sd a):=by
 refine T.fS.fn.ko LJ λH _ Q E hr h=>?_;obtain⟨x,rl,qa,al,ts,i,st,s',r,ac,_,ll,rfl,hx,ao,hR,_,ha,ad,no,ok,_,aj,Y,bc,k⟩:=h;refine IE (qf (XA (pv 0)<|Kw Z<|Ip (gI 4 LJ.nd)<|Ip (gI 5 LJ.nd)<|Ip (gI 6 LJ.nd)<|Ip (gI 7 LJ.nd)<|Ip (gI 8 LJ.nd)<|Ip (gI 9 LJ.nd)<|Ip (gI 10 LJ.nd)<|Ip (gI 11 LJ.nd) K0)
  (qf (XA (pv 2)<|Kw Z<|Ip (gI 12 LJ.nd)<|Ip (gI 13 LJ.nd)<|Ip (gI 14 LJ.nd) K0)
  (qf (zb (PW.pt<|Kh (pC JO (pv 13)<|fV 1)<|Ku<|qt Oe (pv 13) (fV 1) (by with_unfolding_all rfl)) (rT<|zj<|aN 4<|aN 5<|aN 6<|aN 7<|aN 8<|qd (pD T.bJ (qp9 T) hr<|aN 9<|aL 14) (qd JV (qd (qv Lo (pv 11)<|zh<|qd (zj<|aN 12<|aN 14<|qd zg qg ql) qg zo) qg zm) ql) zl) IG)
  (qf (zb (PW.pt<|Kh (pC KP (pX zq (pv 3) qi) Io)<|Kh (pC Kg (pv 14)<|pX zq (pv 3) qi)<|Ku<|PW.pt<|KC (pC Lq (pX zq (pv 3) qi) Io)<|KW<|pC Ta (pv 14)<|pX zq (pv 3) qi) (rT<|pv 0) IG)
  (qf (zb (qt Oe (pv 13) (fV 1) (by with_unfolding_all rfl)) (rT<|zj<|aN 4<|qd Io (aN 14<|qd (fV 1) (qd (zh qg) (qd (zh qg) (aN 10<|qd (qv Lo (pv 11)<|zh<|qd (zj<|aN 12<|aN 14<|qd zg qg ql) qg zo) qg zm) XW) XW) KZ) ql) IG)
  (qf (JD Av Z (Jk<|fV 1) (Kw Z<|Ip (gI 15 LJ.nd)<|Ip (gI 16 LJ.nd)<|Ip (gI 17 LJ.nd) K0)<|qj<|zb (PW.pt<|KC (pC JO (pv 15)<|pv 13)<|KW<|pC Kl (Jo A0 PySem.F.slot_list_count PySem.F.type_list_count qxr (pv 8)<|aL 13)<|pv 17) (rT<|zj<|aN 4<|aN 5<|aN 6<|qd (qv IL (pv 7)<|pv 16) (qd (qv Lo (pv 8)<|zh<|aL 13) (aN 9<|aN 10<|qd (qv Lo (pv 11)<|zh<|qd (zj<|aN 12<|aN 14<|qd zg qg ql) qg zo) qg zm) zm) zm) IG)
  (qf (zb (PW.pt<|KC (pC Lq (fV 1) Io)<|KC (pC JO (pv 13)<|pX zq (fV 1) qi)<|KW<|pC Lq (pX zq (pv 3) qi) Io) (rT<|zj<|aN 4<|aN 5<|aN 6<|aN 7<|aN 8<|qd (qv Lo (pv 9)<|zh<|qd (zj<|aN 14<|qd Io qg ql) qg zo) (aN 10<|qd (qv Lo (pv 11)<|zh<|qd (zj<|aN 12<|aN 14<|qd zg qg ql) qg zo) qg zm) zm) IG)
  (qf (zb (PW.pt<|KC (pC Lq (fV 1) Io)<|KC (pC JO (pv 13)<|pX zq (fV 1) qi)<|KW<|pC KP (pX zq (pv 3) qi) Io) (rT<|zj<|aN 4<|aN 5<|aN 6<|aN 7<|aN 8<|qd (pD T.bJ (qp9 T) hr<|aN 9<|aL 14) (aN 10<|qd (qv Lo (pv 11)<|zh<|qd (zj<|aN 12<|aN 14<|qd zg qg ql) qg zo) qg zm) zl) IG)
  (rT<|pv 0))))))))) ?_
 intro _;dsimp only[IP];obtain⟨_,pu,pp,pr,tv,used,ex,h2,h3,h4,h5,h6,⟨up,h7,t7⟩,⟨ur,X,t8⟩,n1,n2,_⟩:=id hx;cases ex;obtain⟨_,_,_,pl,_,sv,_,ul,W,g2,g3,g4,g5,g6⟩:=id hR;obtain⟨G,j,d⟩:=ac;have ha:H qa=HA (.tup [.str G,.str j,.int d]):=ha;have av:=t8.length;rw[Ab]at av;have lpl:=ok.pl;have ax:=t7.length;rw[Ab]at ax;have R:∀{J:Hp}{c:HC},Same H J->J c=HD->c∉ll:=λ{J c} z e m=>ao c m<|z.free e;have ag:∀{J:Hp},Same H J->(IZ (ts i).rd st s' r G d j).1=st->Q (.ref x) J:=λ{J} z e=>k x J z (by dsimp only;rw[e];exact hx.same z);have af:∀{J:Hp}{q4 D M pr':HC}{tv':V}{us':tG}(st':RS),(IZ (ts i).rd st s' r G d j).1=st'->Js st'=Js st->Same H J->J q4=HD->TieV ts J tv' (ts i).base st'.bv->J D=HA (.lst<|us'.map V.str)->(∀k,(us'.count k:Int)=gv st'.gr k)->us'.length<=st'.rows.length->AtQ J M st'.ps->AtR J pr' st'.rows->D∉ll->M∉ll->pr'∉ll->Q (.ref q4) (upd J q4<|.tup [.str<|Js st,tv',.int st'.day,.int st'.units,.ref D,.ref M,.bl st'.over,.ref pr']):=λst' e en z N b1 b2 b3 b4 b5 b6 b7 b8 b9=>k _ _ (z.trans<|qx N) (by dsimp only;rw[e,<- en];exact qwu N b1 b2 b3 b4 b5 b6 b7 b8 b9);refine Wp λY2 Y3 Y4 Y5 Y6 E6 E5 E4 E3 E2=>?_;refine HL<|HP _ _ ⟨Z,SqT.of<|h2,Z,_,_,Z,_,_,Z,_,_,Z,_,_,Z,_,_,Z,_,_,Z,_,_,Z,_,_,Z,Z,?_⟩;refine JM (u:=Y2) E2 ?_;refine HL<|HP _ _ ⟨Z,SqT.of<|ha,Z,_,_,Z,_,_,Z,_,_,Z,Z,?_⟩;refine Kj (σ':=iY x rl qa al st tv pu pp pr G j d HD HD<|HD) rfl ?_;refine JM (u:=Y3) E3 ?_;apply use (p:=Pe (ts i).rd j)
 .intro S;apply use (p:=¬Pe (ts i).rd j)
  .intro m2;refine HY<|IA W T.k7 T.k8 Z ⟨Z,Hx<|IK (λc=>Ii<|S<|.inl<|V.str.inj<|HK c)<|λc=>HY<|IA W T.k7 T.k8 Z<|HP _ _ ⟨Z,.inl<|SqL.of g3,Z,Rq _,IB Z ?_⟩⟩;show if Ko (.str j) ((ts i).rd.ends.map V.str)=HG then _ else _;rw[Rn];exact IK (λB=>S<|.inr B)<|λB=>m2 λz=>z.elim (λz=>c<|HJ<|HR V.str z) B
  .intro nE;refine JM (u:=Y4) E4 ?_;apply use (p:=under s' r d=HG)
   .intro S;have ah:under s' r d=HH->Q (.ref x) H:=λz=>ag (Same.refl H)<|R9 nE z;refine(HL<|IH ad Z ⟨Z,Hx<|IK (λc=>Ii<|HL<|ah (by rw[ZU<|HK c];rfl))<|λc=>?_⟩);obtain⟨y,rfl⟩:=qwt (r:=s') λz=>c<|HJ z;refine(HY<|IH ad Z<|HV<|Hx<|IK (λA=>Ii<|HL<|ah (by have A:=HK A;unfold under;dsimp only;rw[HM<|sZ];rfl))<|λA=>?_);have A:y<d:=by have:¬d<=y:=λz=>A<|HJ z;lia
    refine HL<|IH ad Z ⟨Z,IB Z ?_⟩;show if (!decide (oV r=V.non))=HG then _ else _;cases r with
    |none=>exact Ia (S (by unfold under;dsimp only;rw[HJ A];rfl))
    |some f =>
     refine Ii<|HY<|IH ad Z<|HV<|Hx<|IK (λc3=>HL<|ah ?_)<|λc3=>S ?_
     .have c3:=HK c3;unfold under;dsimp only;rw[HJ A,HM<|sZ];rfl
     .have c3:¬f<d:=λz=>c3<|HJ z;unfold under;dsimp only;rw[HJ A,HJ<|sZ];rfl
   intro un;refine JM (u:=Y5) E5 ?_;obtain⟨y,hy,_,_⟩:=oK un;have Y:=Y y hy;refine HY<|IA W T.k7 T.k8 Z<|HP _ _ ⟨Z,.inl<|SqL.of g4,Z,Rq _,IB Z ?_⟩;show if Ko (.str j) ((ts i).rd.anew.map V.str)=HG then _ else _;rw[Rn];refine IK (λcA=>?_)<|λcA=>?_
   .refine(Jw<|IA W T.k7 T.k8 Z ⟨JZ,λD nu=>⟨JZ,λM np=>?_⟩⟩);have g:=(qx (o:=.lst []) nu).trans<|qx (o:=.lst []) np;have U:=qx (o:=.lst []) np _ _<|qk (H:=H) (a:=D) (o:=.lst []);have e2:=qk (H:=upd H D<|.lst []) (a:=M) (o:=.lst []);have ay:=(qx (o:=.lst []) nu).free np;generalize upd (upd H D<|.lst []) M (.lst [])=H3 at g U e2 |-;refine IB Z ?_;refine(Jw ⟨Kk _ _ _,λt L=>⟨Mf _,λl C=>Hv _ _ _ _ ⟨Z,Z,qx C _ _<|qx L _ _<|g _ _ X,qk,JJ (by show ur.length+1<=100000;lia),λpn nn=>?_⟩⟩⟩);obtain⟨s,I,fR⟩:=XB (n:=G) (d:=d) (w:=Aa "anew") (g _ _ X) (t8.same g) L C nn;generalize hJ:upd (upd (upd H3 t _) l _) pn _=J3 at s I |-;clear hJ;exact⟨VN _ _ _ _ _ _ _ _,λq N=>af {st with day:=d,units:=(ts i).rd.many,ps:=[],gr:=[],bv:=.non,rows:=st.rows++[(G,d,Aa "anew")]} (Ux no nE un cA) (Vg ok.r0 Z) (g.trans s) N (.inl ⟨Z,Z⟩) (us':=[]) (s _ _ U) (λ_=>rfl) (AR _) ⟨[],s _ _ e2,.nil⟩ I (R (Same.refl H) nu) (R (Same.refl H) ay)<|R g fR⟩
   have nA:(ts i).rd.anew.contains j=HH:=(Cu _).mp cA;refine JM (u:=Y6) E6 ?_;refine MV λY7 Y8 Y9 E9 E8 E7=>?_;have au:ul.length=(ts i).rd.longer.length:=by rw[g6.length,Ab]
   refine HL<|IA W T.k7 T.k8 Z ⟨_,Z,⟨_,SqL.of g5⟩,KE (K:=K) (a:=pl) (xs:=ul) (λm σ H'=>H'=H/\(∃v1 v2 v3:tX,σ=(iY x rl qa al st tv pu pp pr G j d v1 v2<|v3))/\(((ts i).rd.longer.take m).find? λt=>decide (t.1=j) && decide (gv st.gr j<t.2.2))=HD) ⟨Z,HW HD HD HD Z,Z⟩ (λm σ H' _ h=>SqL.of<|h.1 ▸ g5) ?_ ?_⟩
   .intro m v σ H' hv w';obtain⟨eH,⟨v1,v2,v3,rfl⟩,hf⟩:=w';rw[eH];clear eH H';obtain⟨b,_,rfl,U,e2⟩:=g6.get' hv;rw[Ai]at U;cases eg:(ts i).rd.longer[m]? with
    |none=>rw[eg]at U;cases U
    |some z =>
     rw[eg]at U;cases U;obtain⟨zk,zu,zt⟩:=z;refine HP _ _ ⟨Z,SqT.of e2,Z,_,_,Z,_,_,Z,_,_,Z,Z,?_⟩;dsimp only[iY,Ja,AT,AU];refine HY ⟨Z,Hx<|IK (λA=>?_)<|λA=>Ia ?_⟩
     .have A:=V.str.inj<|HK A;refine HL ⟨.inl ⟨Z,_,SqL.of h4⟩,HL<|HW _ used j ⟨Z,Z,h4,HL<|HV<|Hx<|IK (λB=>?_)<|λB=>?_⟩⟩
      .have B:gv st.gr j<zt:=by have:=HK B;rw[<- h5 j];exact this
       have ef:LY (ts i).rd st.gr j=HA (zk,zu,zt):=qv8 hf eg (by simp only;rw[HJ A,HJ B];rfl);refine(Vv<|HV<|HY ⟨Mf _,λl1 ae=>Hv _ _ _ _ ⟨Z,Z,qx ae _ _ h4,qk,JJ (by show (used.map V.str).length+1<=100000;rw[Ab];lia),λD nu=>?_⟩⟩);have g:=(qx (o:=.lst [V.str j]) ae).trans<|qx (o:=.lst<|used.map V.str++[V.str j]) nu;have U:=qk (H:=upd H l1<|.lst [V.str j]) (a:=D) (o:=.lst<|used.map V.str++[V.str j]);have ar:=(qx (o:=.lst [V.str j]) ae).free nu;generalize upd (upd H l1<|.lst [V.str j]) D _=H3 at g U |-;refine HL<|IB Z ?_;refine(Jw ⟨Kk _ _ _,λt L=>⟨Mf _,λl C=>Hv _ _ _ _ ⟨Z,Z,qx C _ _<|qx L _ _<|g _ _ X,qk,JJ (by show ur.length+1<=100000;lia),λpn nn=>?_⟩⟩⟩);obtain⟨s,I,fR⟩:=XB (n:=G) (d:=d) (w:=Aa "longer") (g _ _ X) (t8.same g) L C nn;generalize hJ:upd (upd (upd H3 t _) l _) pn _=J3 at s I |-;clear hJ;exact⟨VN _ _ _ _ _ _ _ _,λq N=>af {st with units:=st.units+zu,gr:=JT st.gr (.inr j)<|.int<|gv st.gr j+1,rows:=st.rows++[(G,d,Aa "longer")]} (Nr no nE un nA ef) (Vg ok.r0 Z) (g.trans s) N (h3.same<|g.trans s) (us':=used++[j]) (by rw[s _ _ U,Aq];rfl) (λk=>Qv h5 k) (by show _<=(st.rows++[_]).length;rw[Ae,Ae];exact CQ h6 1) ⟨up,(g.trans s) _ _ h7,t7.same<|g.trans s⟩ I (R (Same.refl H) ar) n2<|R g fR⟩
      .have B:¬gv st.gr j<zt:=λq=>B (HJ (by rwa[h5 j]));exact⟨Z,HW _ _ _ Z,ZK hf eg (by simp only;rw[HM B,BI])⟩
     .have A:¬zk=j:=λq=>A<|HJ<|HR V.str q;exact⟨Z,HW _ _ _ Z,ZK hf eg (by simp only;rw[HM A,Cy])⟩
   intro σ H' w';obtain⟨eH,⟨v1,v2,v3,rfl⟩,hf⟩:=w';rw[eH];clear eH H';rw[au,Bc]at hf;have el:LY (ts i).rd st.gr j=HD:=hf;refine JM (u:=Y7) E7 ?_;cases O:(ts i).rd.still with
   |none =>rw[O]at g2;have g2:sv=.non:=g2;subst g2;exact(HL<|IA W T.k7 T.k8 Z ⟨Z,Hx<|LS Z<|Ia<|JM (u:=Y8) E8<|HL<|IA W T.k7 T.k8 Z ⟨Z,Hx<|LS Z<|Ia<|JM (u:=Y9) E9<|HL<|ag (Same.refl H)<|Nq nE nA el (by rw[O];exact λz e=>by cases e)⟩⟩)
   |some z =>
    rw[O]at g2;obtain⟨_,rfl,hz⟩:=g2;obtain⟨am,aq,aw⟩:=bc z O;apply use (p:=j≠z.1\/IW st.ps=HG)
    .intro S;refine HL<|IA W T.k7 T.k8 Z ⟨Z,Hx<|Ii<|HY<|IA W T.k7 T.k8 Z<|IH hz Z ⟨Z,Hx<|IK (λA=>?_)<|λA=>Ia<|S<|.inl λq=>A<|HJ<|HR V.str q⟩⟩;have A:=V.str.inj<|HK A;refine HL<|IH ad Z ⟨Z,IB Z ?_⟩;show if (!decide (oV r=V.non))=HG then _ else _;refine IK (λB=>?_) (λB=>S (.inr (Y.mp (ZU (by
      by_cases q:oV r=V.non
      .exact q
      .rw[HM q]at B;exact absurd Z B)))))
     have hh:IW st.ps=HH:=by
      cases e:IW st.ps with|false=>rfl|true=>rw[Y.mpr e]at B;cases B
     refine(rM<|HL ⟨Ke _ _,λt1 ak=>⟨Mf _,λl1 ae=>Hv _ _ _ _ ⟨Z,Z,qx ae _ _<|qx ak _ _ h7,qk,JJ (by show up.length+1<=100000;lia),λM np=>?_⟩⟩⟩);obtain⟨g,aQ,fQ⟩:=Q2 (d:=d) h7 t7 ak ae np;generalize upd (upd (upd H t1 _) l1 _) M _=H3 at g aQ |-;refine IB Z ?_;refine(Jw ⟨Kk _ _ _,λt L=>⟨Mf _,λl C=>Hv _ _ _ _ ⟨Z,Z,qx C _ _<|qx L _ _<|g _ _ X,qk,JJ (by show ur.length+1<=100000;lia),λpn nn=>?_⟩⟩⟩);obtain⟨s,I,fR⟩:=XB (n:=G) (d:=d) (w:=Aa "still") (g _ _ X) (t8.same g) L C nn;generalize hJ:upd (upd (upd H3 t _) l _) pn _=J3 at s I |-;clear hJ;exact⟨VN _ _ _ _ _ _ _ _,λq N=>af {st with ps:=st.ps++[(d,HD)],rows:=st.rows++[(G,d,Aa "still")]} (Ql no nE un nA O aq A hh) (Vg ok.r0 Z) (g.trans s) N (h3.same<|g.trans s) ((g.trans s) _ _ h4) h5 (by show _<=(st.rows++[_]).length;rw[Ae];lia) (aQ.same s) I n1 (R (Same.refl H) fQ)<|R g fR⟩
    intro d1;refine JM (u:=Y8) E8 ?_;apply use (p:=j=z.1\/j≠z.2\/IW st.ps=HH)
    .intro S;refine HL<|IA W T.k7 T.k8 Z ⟨Z,Hx<|Ii<|HY<|IA W T.k7 T.k8 Z<|IH hz Z ⟨Z,Hx<|IK (λA=>?_)<|λA=>Ia<|S<|.inr<|.inl λq=>A<|HJ<|HR V.str q⟩⟩;have A:=V.str.inj<|HK A;refine HL<|IH ad Z ⟨Z,IB Z ?_⟩;show if decide (oV r=V.non)=HG then _ else _;refine IK (λB=>?_) (λB=>S (.inr (.inr (by
      cases e:IW st.ps with
      |false=>rfl
      |true=>rw[Y.mpr e]at B;exact absurd Z B))))
     have hh:=Y.mp<|ZU<|HK B;refine(rM<|HL<|HW pp d st.ps ⟨Z,⟨up,h7,t7⟩,sZ,aj,λp3 H3 g f3 ai=>IB Z ?_⟩);refine(Jw ⟨Kk _ _ _,λt L=>⟨Mf _,λl C=>Hv _ _ _ _ ⟨Z,Z,qx C _ _<|qx L _ _<|g _ _ X,qk,JJ (by show ur.length+1<=100000;lia),λpn nn=>?_⟩⟩⟩);obtain⟨s,I,fR⟩:=XB (n:=G) (d:=d) (w:=Aa "goes on") (g _ _ X) (t8.same g) L C nn;generalize hJ:upd (upd (upd H3 t _) l _) pn _=J3 at s I |-;clear hJ;exact⟨VN _ _ _ _ _ _ _ _,λq N=>af {st with ps:=KL st.ps d,rows:=st.rows++[(G,d,Aa "goes on")]} (Uv no nE un nA O aw am A hh) (Vg ok.r0 Z) (g.trans s) N (h3.same<|g.trans s) ((g.trans s) _ _ h4) h5 (by show _<=(st.rows++[_]).length;rw[Ae];lia) (ai.same s) I n1 (f3.elim (λe=>e ▸ n2)<|R<|Same.refl H)<|R g fR⟩
    intro d2;exact JM (u:=Y9) E9 (HL<|ag (Same.refl H)<|Nq nE nA el (λ_ e=>by rw[O]at e;cases e;exact⟨d1,d2⟩))
 .intro eK;refine(rM<|HL<|HW pp d st.ps ⟨Z,⟨up,h7,t7⟩,sZ,aj,λp3 H3 g f3 ai=>?_⟩);refine(Jw ⟨Kk _ _ _,λt L=>⟨Mf _,λl C=>Hv _ _ _ _ ⟨Z,Z,qx C _ _<|qx L _ _<|g _ _ X,qk,JJ (by show ur.length+1<=100000;lia),λpn nn=>?_⟩⟩⟩);obtain⟨s,I,fR⟩:=XB (n:=G) (d:=d) (w:=Aa "ends") (g _ _ X) (t8.same g) L C nn;generalize hJ:upd (upd (upd H3 t _) l _) pn _=J3 at s I |-;clear hJ;exact⟨VN _ _ _ _ _ _ _ _,λq N=>af {st with ps:=KL st.ps d,over:=HG,rows:=st.rows++[(G,d,Aa "ends")]} (Uw no eK) (Vg ok.r0 Z) (g.trans s) N (h3.same<|g.trans s) ((g.trans s) _ _ h4) h5 (by show _<=(st.rows++[_]).length;rw[Ae];lia) (ai.same s) I n1 (f3.elim (λe=>e ▸ n2)<|R<|Same.refl H)<|R g fR⟩
def Mx (T:Txt K mg a):FnOk P w K mg base Hw 8 a.A6 a.CL (ap ZL) (Sv a):=by
 refine T.fE.fn.ko Vl λH vs Q E hr h=>?_;obtain⟨G,I,O,W,n,ts,Zq,Y,p,D,yr,L,N,i,ac,B,rfl,eY,sB,_,inj,hd,S,hL,T0,P0,_,ex,hB,av,c8,⟨o2,dc⟩,A,ha,k⟩:=h;refine IE (qf (sI 5 Vl.nd<|K7 (Ji hr) (pv 2) (pv 1)<|λ_ _=>rfl)
  (qf (sI 6 Vl.nd<|K7 (Ji hr) (pv 0) (pv 1)<|λ_ _=>rfl)
  (qf (zb (PW.pt<|KC (pC (qr7 hr.units) (pv 6)<|zh qg)<|KW<|Kx<|zf<|pX zq (pX zr (pv 6)<|KN KQ qi) qi) (qf (XA (pD T.fS (qtq T) hr<|qd (pX zr (pv 6)<|KN KQ qi) (aN 5<|aN 4<|qd (zc (qot T) (hr.mono Ud) Z T.kM.mgx T.kM.fn.kp T.kM.bd .nil IT<|aN 0<|aN 1<|qd (qv Jq (zd Ka (by rfl) T.kG KY<|aL 6) qi) (aN 2<|aL 3) zm) qg zl) zn)<|qy2 (pv 6) (KN KQ qi) qrr)
  (qj nc)) IG)
  (qf (sI 7 Vl.nd Io)
  (qf (zb (pC Lq (fV 5) Io) (qf (sI 8 Vl.nd<|K7 (Ji hr) (pv 0) (fV 5)<|λ_ _=>rfl)
  (qf (zb (PW.pt<|Kh (pC (Mw hr.units0) (pv 8)<|zh qg)<|Ku<|pC OV (pX zq (pX zr (pv 8)<|KN KQ qi) qi)<|pX zq (pv 4) qi) (qj nc) IG)
  (qj<|sI 7 Vl.nd<|zj<|qd (fV 5) (qd (qv Jq (zd Ka (by rfl) T.kG KY<|aL 8) qi) qg zm) KZ)))<|qj<|zb (pC OV (fV 5)<|pX zq (pv 4) qi) (qj nc) IG)
  (qj<|qz<|Jo A0 A5 A6 KF (pv 6)<|qd (zj<|qd (pX zq (pv 4) qi) (aN 7<|qd (pX zq (pv 4) qi) (qd (fV 5) (qd (zh qg) (qd (zh qg) (qd JV (qd (zh<|qd (zj<|qd (pX zq (pv 4) qi) (qd (pX zq (pv 4) qi) (qd zg qg ql) zn) zn) qg zo) qg XW) ql) XW) XW) KZ) zn) zn) qg zo)))))) ?_
 intro _;dsimp only[IP];obtain⟨us,hl,lu,c9⟩:=S i A;obtain⟨j,g,d⟩:=ac;have ha:H W=HA (.tup [.str j,.str g,.int d]):=ha;have ay:=hL.same sB;obtain⟨_,_,_,bu,cg⟩:=id ay;obtain⟨rl,bj,hR⟩:=cg i A;obtain⟨_,_,_,_,_,_,_,_,g1,_,_,_,_,_⟩:=id hR;have ao:∀{J:Hp}{c:HC},Same H J->J c=HD->c∉pl n p:=λ{J c} z e m=>by obtain⟨u,e'⟩:=S.ls c m;rw[z _ _ e']at e;cases e
 refine Wp λY2 Y3 Y4 Y5 Y6 E6 E5 E4 E3 E2=>?_;refine HY<|HP I _ ⟨Z,.inl<|HP _ (.inr (ts i).name) ⟨.inl bu,Z,bj.symm⟩,?_⟩;refine JC (σ':=[HA<|.ref G,HA<|.str (ts i).name,HA<|.ref I,HA<|.ref O,HA<|.ref W,HA<|.ref rl,HD,HD,HD]) rfl ?_;refine JM (u:=Y2) E2 ?_;refine HY<|HP G _ ⟨Z,.inl<|HP _ (.inr (ts i).name) ⟨.inl hd,Z,(Ph T0.nn A).symm⟩,?_⟩;refine JC (σ':=[HA<|.ref G,HA<|.str (ts i).name,HA<|.ref I,HA<|.ref O,HA<|.ref W,HA<|.ref rl,HA<|.ref<|p i,HD,HD]) rfl ?_;refine JM (u:=Y3) E3 ?_;apply SI (p:=λF=>Same H F/\LB (Y i)=HH)
 .intro m1;refine HL ⟨JZ,λak ar=>?_⟩;obtain⟨s,R⟩:=IY (o:=.lst []) ar;generalize upd H ak _=H1 at s R |-;have aj:=s _ _ hl;refine HW _ _ _ ⟨Z,Z,SqL.of aj,SqL.of R,IB Z ?_⟩;rcases Bm us with r|⟨vs,v,r⟩
  .have e0:Y i=[]:=BW (by rw[<- lu,r];rfl);rw[r];exact Ia (Ia<|m1 H1 ⟨s,by rw[e0];rfl⟩)
  .rw[Bo]at r;have ah:us.length=vs.length+1:=by rw[r,Ae];rfl
   have C:=c9 vs.length v (by rw[r,Ci]);have hj:vs.length<(Y i).length:=by lia
   have ej:(Y i).length-1=vs.length:=by lia
   have al:Y i≠[]:=λz=>by rw[z]at hj;cases hj
   have M:=K8 hj;have ro:=qwn al;rw[ej]at ro;have fL:K6 (II D yr) (ov L) ts Y i (j,g,d)=(Y i).dropLast++[(IZ (ts i).rd ((Y i).getD vs.length Hz) (ID (II D yr) (ov L) ts Y 3 i<|(Y i).getD vs.length Hz) (Jm (II D yr) (ov L) ts Y i<|(Y i).getD vs.length Hz) j d g).1]:=by unfold K6;rw[ej]
   have cx:∀y,ID (II D yr) (ov L) ts Y 3 i ((Y i).getD vs.length Hz)=HA y->(Jm (II D yr) (ov L) ts Y i ((Y i).getD vs.length Hz)=HD↔IW ((Y i).getD vs.length Hz).ps=HG):=λy e=>⟨λe'=>qww P0 ex A M e e',λe'=>hB i (Al i) _ M e'⟩;have ok:=P0.ok i A _ M;have ax:((Y i).getD vs.length Hz).rows.length<=100:=by have:=(P0.rl i A).2 _ M;lia
   have bq:=c8 _ M;obtain⟨x,X,pp,pr,tv,used,ev,h2,_⟩:=id C;have ag:JN us (-1)=HA (.ref x):=by rw[r,ev];exact Pj vs _
   rw[ev]at C;rw[show (!us.isEmpty)=HG by rw[r];simp];refine Ii<|HL ⟨_,Z,Ib aj ag<|IH (s _ _ h2) Z<|Hx<|IK (λc=>?_)<|λc=>m1 H1 ⟨s,ro.trans<|(Cu _).mp c⟩⟩;have rt:LB (Y i)=HG:=ro.trans c;have no:((Y i).getD vs.length Hz).over=HH:=by cases e:((Y i).getD vs.length Hz).over with|false=>rfl|true=>rw[e]at c;cases c
   refine(HL ⟨_,Z,Ib aj ag<|Vv<|HP _ _ ⟨Z,.inl ⟨_,SqL.of aj,Z⟩,HV<|HY<|Ic G I O n ts Y p D<|K9 yr L d N i vs.length ⟨(by show ([V.ref G,V.str (ts i).name,V.int<|(us.length:Int)-1,V.ref I,V.ref O]:tW)=_;rw[ah,show (((vs.length+1:Nat):Int)-1)=(vs.length:Int) by lia]),.inl<|s _ _ hd,S.same s,ay.same s,T0,P0,ex,hB,A,(by have:=T0.n4;lia),hj,λqs _ s2 _ cq=>?_⟩⟩⟩);have U:=s.trans s2;refine(Ic x rl W qs ts i ((Y i).getD vs.length Hz) _<|Hv _ (j,g,d) d (pl n p) ⟨Z,C.same U,(λc hc=>by obtain⟨u,e⟩:=S.ls c hc;rw[U _ _ e];exact sh),hR.same U,T0.rd i A,U _ _ ha,cq,no,ok,ax,bq,cx,dc,λ_ _ s3 bc=>?_⟩);have am:=U.trans s3;refine(HL ⟨_,Z,p i,us,-1,vs.length,Z,Z,am _ _ hl,(by rw[r];exact jY _ _),?_⟩);refine k _ (λb o nb e=>LHeld.kp A b o nb<|am _ _ e) ?_;rw[eY]at rt;rw[gd rt,<- eY,fL,<- ej];rw[<- ej]at bc;exact(S.same am).setL inj A (am _ _ hl) al bc
 rintro F ⟨sF,nr⟩;refine JM (u:=Y4) E4 ?_;refine na4 (σ':=[HA<|.ref G,HA<|.str (ts i).name,HA<|.ref I,HA<|.ref O,HA<|.ref W,HA<|.ref rl,HA<|.ref<|p i,HA .non,HD]) rfl ?_;refine JM (u:=Y5) E5 ?_;obtain⟨f,ef⟩:∃f,(tk (II D yr) (ov L) ts Zq (j,g,d) i).2=f:=⟨_,Z⟩;have aw:=nr;rw[eY]at aw;have t2:=fx (ac:=(j,g,d)) aw;have t3:=fo (ac:=(j,g,d)) aw;rw[ef,<- eY]at t2 t3;rw[ef]at av;have ae:∀{J:Hp},Same H J->Kn (ts i) g f=HH->Q .non J:=λ{J} z e=>k J (λb o _ e'=>z _ _ e') (by rw[t3 e];exact S.same z);have bw:Kn (ts i) g f=HG->(tk (II D yr) (ov L) ts Zq (j,g,d)<|i+1).1=put Y i (Y i++[KG (ts i) (j,g,d) f Y]):=t2;clear t2 t3;have aq:=sF _ _ g1;have cz:=sF _ _ ha;apply V5 (p:=λv _ J=>Same H J/\Kn (ts i) g f=HG/\∃tv,v=HA tv/\TieV ts J tv (ts i).base (KG (ts i) (j,g,d) f Y).bv) (f:=λv u=>[HA<|.ref G,HA<|.str (ts i).name,HA<|.ref I,HA<|.ref O,HA<|.ref W,HA<|.ref rl,HA<|.ref<|p i,v,u])
 .intro M;refine HL<|IA aq T.k7 T.k8 Z ⟨Z,IB Z ?_⟩;show if (!decide (Vx ts (ts i).base=V.non))=HG then _ else _;obtain eb|⟨b,eb⟩:(ts i).base=HD \/ ∃b,(ts i).base=HA b:=by
   cases (ts i).base with|none=>exact .inl rfl|some b=>exact .inr ⟨b,Z⟩
  .obtain⟨sc,de⟩:=UE (ts i).opens g;have eO:Kn (ts i) g f=decide ((ts i).opens=HA g):=by unfold Kn;rw[eb];exact Ca _
   refine LS (by rw[eb];rfl)<|HL<|IA aq T.k7 T.k8 Z<|HL<|IH cz Z ⟨sc,IB Z ?_⟩;rw[de];refine IK (λc=>ae sF ?_)<|λc=>?_
   .rw[eO];cases e:decide ((ts i).opens=HA g) with|false=>rfl|true=>rw[e]at c;cases c
   .refine Kj rfl (M (HA .non) HD F ⟨sF,?_,.non,Z,.inl ⟨?_,Z⟩⟩)
    .rw[eO];cases e:decide ((ts i).opens=HA g) with|true=>rfl|false=>rw[e]at c;exact absurd rfl c
    .unfold KG;rw[eb]
  .have au:Vx ts (ts i).base=.str (ts b).name:=by rw[eb];rfl
   have bi:=T0.ba i A b eb;have bn:b<n:=by lia
   have eO:Kn (ts i) g f=f b:=by unfold Kn;rw[o2 b eb,eb,HM<|sh];exact Dx _
   obtain⟨ub,bf,af,cp⟩:=S b bn;have hlbF:=sF _ _ bf;refine Wo (by rw[au];exact sh)<|HY<|IA aq T.k7 T.k8 Z<|HP G _ ⟨Z,.inl<|HP _ (.inr (ts b).name) ⟨.inl<|sF _ _ hd,au,(Ph T0.nn bn).symm⟩,?_⟩;refine JC (σ':=[HA<|.ref G,HA<|.str (ts i).name,HA<|.ref I,HA<|.ref O,HA<|.ref W,HA<|.ref rl,HA<|.ref<|p i,HA .non,HA<|.ref<|p b]) rfl ?_;refine HL ⟨JZ,λak ar=>?_⟩;have s:=sF.trans<|qx (o:=.lst []) ar;have R:=qk (H:=F) (a:=ak) (o:=.lst []);generalize upd F ak _=H1 at s R |-;have ad:=s _ _ bf;refine HW _ _ _ ⟨Z,Z,SqL.of ad,SqL.of R,IB Z ?_⟩;rcases Bm ub with r|⟨vs,v,r⟩
   .have e0:Y b=[]:=BW (by rw[<- af,r];rfl);rw[r];refine Ii<|Ii<|ae s ?_;rw[eO];cases e:f b with|false=>rfl|true=>exact absurd e0 ((av b bn).mp e).1
   .rw[Bo]at r;have ah:ub.length=vs.length+1:=by rw[r,Ae];rfl
    have C:=cp vs.length v (by rw[r,Ci]);have al:Y b≠[]:=λz=>by rw[z]at af;rw[ah]at af;cases af
    have ej:(Y b).length-1=vs.length:=by lia
    obtain⟨x,X,pp,pr,tv,used,ev,h2,_⟩:=id C;have ag:JN ub (-1)=HA (.ref x):=by rw[r,ev];exact Pj vs _
    have bz:=s _ _ g1;have fl:=av b bn;unfold RF at fl;rw[ej]at fl;rw[show ub.isEmpty=HH by rw[r];simp];refine Ia<|HL ⟨_,Z,Ib ad ag<|IH (s _ _ h2) Z<|HL<|IH (s _ _ ha) Z ⟨Z,Hx<|IK (λc=>?_)<|λc=>?_⟩⟩
    .refine ae s ?_;rw[eO];cases e:f b with|false=>rfl|true =>rw[HJ<|HR V.str (fl.mp e).2]at c;cases c
    .have en:Js ((Y b).getD vs.length Hz)=j:=by
      by_cases z:V.str (Js<|(Y b).getD vs.length Hz)=V.str j
      .exact V.str.inj z
      .rw[HM z]at c;exact absurd rfl c
     have fb:=fl.mpr ⟨al,en⟩
     refine HL<|IA bz T.k7 T.k8 Z<|HL<|HP _ _ ⟨Z,.inl ⟨_,SqL.of ad,Z⟩,HV ⟨Ke _ _,λt nt=>?_⟩⟩
     refine JC (σ':=[HA<|.ref G,HA<|.str (ts i).name,HA<|.ref I,HA<|.ref O,HA<|.ref W,HA<|.ref rl,HA<|.ref<|p i,HA<|.ref t,HA<|.ref<|p b]) rfl ?_
     refine M _ _ _ ⟨s.trans<|qx nt,by rwa[eO],.ref t,Z,.inr<|HW t b vs.length ⟨?_,eb,Z,?_⟩⟩
     .unfold KG;rw[eb];dsimp only;rw[HI fb,ej]
     .rw[qk,au,ah];show HA (HO.tup [V.str (ts b).name,V.int<|((vs.length+1:Nat):Int)-1])=_;rw[show (((vs.length+1:Nat):Int)-1)=(vs.length:Int) by lia]
 intro _ _ J w';obtain⟨sJ,op,tv,rfl,hT⟩:=w';refine JM (u:=Y6) E6 ?_;have ai:=sJ _ _ ha;have df:=sJ _ _ g1;have bt:=sJ _ _ hl;refine HL ⟨.inl ⟨Z,_,SqL.of bt⟩,HL<|IH ai Z<|HY<|IH ai Z<|HL<|IA df T.k7 T.k8 Z ⟨JZ,λX nu=>⟨JZ,λpp np=>?_⟩⟩⟩;have s3:=(qx (o:=.lst []) nu).trans<|qx (o:=.lst []) np;have R:=qx (o:=.lst []) np _ _<|qk (H:=J) (a:=X) (o:=.lst []);have e2:=qk (H:=upd J X<|.lst []) (a:=pp) (o:=.lst []);have cw:=(qx (o:=.lst []) nu).free np;generalize upd (upd J X<|.lst []) pp (.lst [])=J3 at s3 R e2 |-;refine HL<|IH (s3 _ _ ai) Z<|HL<|IH (s3 _ _ ai) Z ⟨Kk _ _ _,λt nt=>⟨Mf _,λl nl=>?_⟩⟩;have s4:=(qx (o:=.tup [V.str j,.int d,.str<|Aa "begins"]) nt).trans<|qx (o:=.lst [V.ref t]) nl;have c7:=(qx (o:=.tup [V.str j,.int d,.str<|Aa "begins"]) nt).free nl;have e3:AtR (upd (upd J3 t<|.tup [V.str j,.int d,.str<|Aa "begins"]) l<|.lst [V.ref t]) l [(j,d,Aa "begins")]:=⟨_,qk,.cons (qx (o:=.lst [V.ref t]) nl _ _ qk) .nil⟩;generalize upd (upd J3 t _) l _=J4 at s4 e3 |-;have bh:=s3.trans s4;have ca:=sJ.trans bh;refine⟨VN _ _ _ _ _ _ _ _,λq nq=>?_⟩;have hq:=qwu (ts:=ts) (l:=pl n p) (i:=i) (st:=KG (ts i) (j,g,d) f Y) (used:=[]) nq (hT.same bh) (s4 _ _ R) (λ_=>rfl) (AR _) ⟨[],s4 _ _ e2,.nil⟩ e3 (ao sJ nu) (ao sJ cw)<|ao (sJ.trans s3) c7;have s5:=ca.trans<|qx (o:=.tup [V.str j,tv,.int d,.int (ts i).rd.many,.ref X,.ref pp,.bl HH,.ref l]) nq;have hq:LRun ts (pl n p) (upd J4 q<|.tup [V.str j,tv,.int d,.int (ts i).rd.many,.ref X,.ref pp,.bl HH,.ref l]) (.ref q) i (KG (ts i) (j,g,d) f Y):=hq;generalize upd J4 q _=J5 at s5 hq |-;refine(HW _ _ _ ⟨Z,Z,s5 _ _ hl,KI (by have:=(P0.rl i A).1;lia),?_⟩);refine k _ (λb o nb e=>LHeld.kp A b o nb<|s5 _ _ e) ?_;rw[bw op];exact(S.same s5).app inj A (s5 _ _ hl) hq
def qri (T:Txt K mg a):FnOk P w K mg base Hw 1 a.A7 a.CM (ap aZ) S6:=by
 refine T.dP.fn.ko qR λH _ Q E _ h=>?_;obtain⟨x,g,_,i,st,L,r,_,rfl,F,l,k⟩:=h;refine IE (qf (sI 2 qR.nd<|pX zr (zh<|qd zg (qd zg qg ql) ql)<|T2 qw5 (by rfl) T.gL Ze<|qd (Kz KP (pX zq (pv 1) qi) Io<|LD _) qg MJ)
  (qf (zb (zf<|pX zq (pv 0) qi) (qj<|sI 2 qR.nd zg) IG)
  (rT<|zj<|qd (pX zq (pv 0) qi) (aN 2<|qd (pX zq (pv 1) qi) (qd (pX zq (pv 0) qi) (qd (pX zq (pv 0) qi) (qd (pX zq (pv 1) qi) (qd (pX zq (pv 0) qi) qg zn) zn) zn) zn) zn) zn))) ?_
 intro _;dsimp only[IP];obtain⟨_,_,m,s,_,_,ex,C,_,_,_,_,⟨B,M,R⟩,⟨D,O,A⟩,_,N,G⟩:=F;cases ex;refine⟨Ke _ _,λpl y=>?_⟩;obtain⟨d,u⟩:=IY (o:=.lst [V.str<|Aa "runs",V.str<|Aa "stands"]) y;generalize upd H pl _=H1 at d u |-;have b:=d _ _ C;have e:=d _ _ l;apply Pf (p:=λv J=>v=HA (.str<|MD st.over r)/\J=H1) (f:=λv=>[HA<|.ref x,HA<|.ref g,v])
 .intro t;have S:JN [V.str<|Aa "runs",V.str<|Aa "stands"] (if decide (oV r=V.non)=HG then 1 else 0)=HA (.str<|MD HH r):=by cases r <;>rfl
  refine HL<|IH e Z ⟨Z,.inr ⟨_,Z,_,_,_,_,Z,Z,SqL.of u,S,?_⟩⟩;refine JC (σ':=[HA<|.ref x,HA<|.ref g,HA<|.str<|MD HH r]) rfl ?_;refine HL<|IH b Z ⟨_,Z,IK (λc=>?_)<|λc=>?_⟩
  rotate_left
  .have I:st.over=HH:=by simpa using c
   exact Kj rfl (t (HA<|.str<|MD HH r) H1 ⟨by rw[I],Z⟩)
  .refine as2 (σ':=[HA<|.ref x,HA<|.ref g,HA<|.str<|Aa "over"]) rfl ?_;exact t (HA<|.str<|Aa "over") H1 ⟨by rw[MC.mpr c],Z⟩
 rintro _ J ⟨rfl,z⟩;rw[z];clear z J;refine HL<|IH b Z<|HY<|IH e Z<|HL<|IH b Z<|HL<|IH b Z<|HL<|IH e Z<|HL<|IH b Z ⟨YT _ _ _ _ _ _ _,λq n=>?_⟩;have j:=d.trans<|qx (o:=.tup [V.str<|Js st,.str<|MD st.over r,oV L,.int st.units,.ref m,oV r,.ref s]) n;exact k q m s _ j (d.free n) ⟨qk,⟨B,j _ _ M,R.same j⟩,⟨D,j _ _ O,A.same j⟩⟩ N G
def qu7 (T:Txt K mg a):FnOk P w K mg base Hw 3 a.AE a.CN (ap Zw) (PF a):=by
 refine T.lH.fn.ko qny λH _ Q E hr h=>?_;obtain⟨x,f,L,us,nms,bs,rk,rfl,v,r,g,u,k⟩:=h;refine IE (qf (Jb (pv 0) (pD T.dY (qop T) hr<|aL 1) Z)
  (qf (Jb (pv 0) Pl Z)
  (qj<|JD Av Z (Jk<|pv 1) (gI 2 qny.nd)<|qj<|Pk (Ji hr) (fV 0) (fV 2) (pv 2) Z))) ?_
 intro _;dsimp only[IP];refine HL<|J0 _ us nms bs rk ⟨Z,r,g,u,λc J no s1 M=>?_⟩;have x1:=s1 _ _ v;refine HL<|Hv _ _ _ _ ⟨Z,x1,T.kP,qp T.kW Ud,Ud,?_⟩;rw[T7];have B:c≠x:=λz=>by rw[z,v]at no;cases no
 have O:SameBut x H (upd J x<|.ins a.E f [(Aa "order",.ref c)]):=(SameBut.of s1).set;have X:=qk (H:=J) (a:=x) (o:=.ins a.E f [(Aa "order",.ref c)]);have I:=(qr (o:=.ins a.E f [(Aa "order",.ref c)]) B).trans M;generalize upd J x _=H2 at O X I |-;refine λd l=>?_;obtain⟨U,d3⟩:=IY (o:=.dK []) l;have x3:=U _ _ X;have m:d≠x:=λz=>by rw[z,X]at l;cases l
 have ad:c≠d:=λz=>by rw[<- z,I]at l;cases l
 have nd:=O.free m l;refine(HL<|Hv _ _ _ _ ⟨Z,x3,T.kP,qp T.kW Ud,(show 1<1000 by decide),?_⟩);rw[T6 _ _ Uk];have N:SameBut x H (upd (upd H2 d<|.dK []) x<|.ins a.E f<|Vw c d):=(O.trans<|SameBut.of U).set;have x4:=qk (H:=upd H2 d<|.dK []) (a:=x) (o:=.ins a.E f<|Vw c d);have o4:=(qr (o:=.ins a.E f<|Vw c d) B).trans<|U _ _ I;have d4:=(qr (o:=.ins a.E f<|Vw c d) m).trans d3;generalize upd (upd H2 d<|.dK []) x _=H4 at N x4 o4 d4 |-;have D:L≠x:=λz=>by rw[z,v]at r;cases r
 have rule:∀{H':Hp}{i:Nat}{y:V},SameBut x H H'->us[i]?=HA y->RuN a.B H' y (nm nms i) (Pc nms<|bo bs i):=λb e=>by obtain⟨p,C,fs,M,q,G,h3⟩:=g.2 _ _ e;refine HW p C fs ⟨M,b _ _ (λz=>?_) q,G,h3⟩;rw[z,v]at q;injection q with q;injection q with _ _ h5;rw[<- h5]at G;cases G
 refine(HL ⟨_,Z,⟨_,SqL.of<|N _ _ D r⟩,KE (K:=K) (a:=L) (xs:=us) (λi σ H'=>SameBut x H H'/\H' x=HA (.ins a.E f<|Vw c d)/\H' c=HA (.lst<|(JI nms bs nms.length).map V.str)/\∃(R:tX)(kvs:List (IC×V)),σ=[HA<|.ref x,HA<|.ref L,R]/\H' d=HA (.dK kvs)/\kvs.length<=i/\(kvs.map λkv=>kV kv.1)=(nms.take i).map V.str/\∀(j:Nat)(z:V),j<i->us[j]?=HA z->Ih kvs (.inr<|nm nms j)=HA z)
  ⟨N,x4,o4,HD,[],Z,d4,Al _,Z,λj z hj=>absurd hj<|Bj _⟩ (λi σ H' _ h=>SqL.of<|h.1 _ _ D r) ?_ ?_⟩)
 .intro i y σ H' Y w';obtain⟨t,s,S,R,kvs,rfl,F,hl,A,W⟩:=w';have hi:i<nms.length:=by rw[<- g.1];exact(Ac.mp Y).1
  obtain⟨p,C,fs,rfl,r1,r2,_⟩:=rule t Y;refine(HY<|IA s T.kP T.kW Z<|HL<|Ut r1 T.k7 (qp T.k8 Ud) r2<|HP d _ ⟨Z,DPut.k (k:=.inr<|nm nms i) F (by rw[Bv];have:=u.sm;lia),?_⟩);exact⟨λb o n e=>by rw[qr<|Iz e nd];exact t b o n e,(qr m.symm).trans s,(qr ad).trans S,_,_,Z,qk,Az (T5 _ _ _)<|CB hl,Qy _ u.nd hi A,U5 u.nd hi g.1 Y W⟩
 .intro σ H' w';obtain⟨t,s,S,R,kvs,rfl,F,hl,A,W⟩:=w';rw[g.1,Bc]at A;exact k H' t λ_ JF=>(Hv f c d kvs ⟨JF _ _ (.inr<|.inl Z) s,JF _ _ (.inl no) S,JF _ _ (.inl nd) F,A,λj y e=>W j y (Ac.mp e).1 e⟩)
def qpb (T:Txt K mg a):FnOk P w K mg base Hw 5 a.AF a.CO (ap Vs) (O7 a):=by
 refine T.bU.fn.ko qo5 λH _ Q E u h=>?_;obtain⟨x,e,pw,py,b,yr,rfl,hx,X,hy,ag,C,k⟩:=h;refine IE (qf (qz<|pD T.dH (qrg T) u<|aL 1)
  (qf (qz<|pD T.bV (qor T) u<|aL 2)
  (qf (Jb (pv 0) (Tr (N:=["within","week","yearly"]) (js:=[HD,HA 1,HA 2]) (XN:=["self","week","yearly"]) (xs:=Iy Vs) Z Z Z Uk (LH Z T.kK<|qd (LG (v:=.int 371) Z T.gU.choose_spec ⟨_,Z⟩) qg qe) (λ_ _ _ _ _ _=>Lr (i:=0) (show Ct (["within","week","yearly"]:tG) from by decide +kernel) Z (C6 Z)<|CG Z) (λ_ _ _ _ _ _=>Tu)<|λ_ _ _ _ _ _=>pD T.lW (qoq T) u<|aN 0<|aN 1<|aL 2) Z)
  (qf (Jb (pv 0) (Tr (N:=["within","self"]) (js:=[HD,HA 0]) (XN:=["self","week","yearly"]) (xs:=Iy Vs) Z Z Z Uk (LH Z T.kK<|qd (LG (v:=.int 371) Z T.gU.choose_spec ⟨_,Z⟩) qg qe) (λ_ _ _ _ _ _=>Lr (i:=0) (show Ct (["within","self"]:tG) from by decide +kernel) Z (C6 Z)<|CG Z) (λ_ _ _ _ _ _=>qvg<|Kx<|zf<|pX (qrz (K:=K) Z) (l0 (K:=K) Z (pv 1) Z)<|pv 0)<|λ_ _ _ _ _ _=>pv 0) Z)
  (qj<|Jb (pv 0) (pD T.l7 (qth T) u<|qd (fV 0) qg KZ) Z))))) ?_
 intro _;dsimp only[IP];refine HL<|HP _ _ ⟨Z,X,ag,λ_ s1=>?_⟩;refine HL<|HP _ _ ⟨Z,hy.same s1,C,λ_ s2=>?_⟩;have f:=s1.trans s2;have hly:=C.len;refine⟨_,Z,Ud,Ud,?_⟩;refine qpo (λv=>match v with | .int i=>.bl (fy b yr i)|_=>.non) (λσ'=>∃v,σ'=[v,HA<|.ref pw,HA<|.ref py]) aY (JJ (by rw[Ab,Ar];decide)) ⟨HD,Z⟩ (λv σ' H' RR J s O q=>?_) Rl λc t n s3 e3=>?_
 .obtain⟨v0,rfl⟩:=O;obtain⟨j,_,rfl⟩:=AQ.mp J;exact(Jw<|J0 _ _ _ _ _ ⟨Z,s _ _<|f _ _ X,(hy.same f).same s,sZ,λp m=>q _ p ⟨_,Z⟩ m⟩)
 have ad:t c=HA (.lst<|(II b yr).map V.bl):=by rw[e3];unfold II;rw[Cc,Cc];refine HR (λl=>HA<|HO.lst l)<|BL λj _=>?_;show V.bl (fy b yr<|0+(j:Int))=V.bl (fy b yr (j:Int));rw[BD]
 have r:=f.trans s3;have af:=r _ _ hx;refine HL<|Hv _ _ _ _ ⟨Z,af,T.kH,qp T.kN Ud,Ud,?_⟩;rw[T7];have F:c≠x:=λz=>by rw[z,f _ _ hx]at n;cases n
 have M:SameBut x H (upd t x<|.ins a.D e [(Aa "free_days",.ref c)]):=(SameBut.of r).set;have R:=(qr (o:=.ins a.D e [(Aa "free_days",.ref c)]) F).trans ad;have A:=qk (H:=t) (a:=x) (o:=.ins a.D e [(Aa "free_days",.ref c)]);generalize upd t x (.ins a.D e [(Aa "free_days",.ref c)])=H4 at M R A |-;refine⟨_,Z,Ud,Ud,?_⟩;refine qpp (λv=>match v with | .int i=>!((II b yr).getD i.toNat HG)|_=>HH) (λv=>v) (λσ'=>∃v,σ'=[v,HA<|.ref x]) aY (JJ (by rw[Ab,Ar];decide)) ⟨HD,Z⟩ (λv σ' H' N RR J s O kn ky=>?_) Rl λd g=>?_
 .obtain⟨v0,rfl⟩:=O;obtain⟨j,hj,rfl⟩:=AQ.mp J;have W:j<371:=by simpa using hj
  have ej:(0:Int)+(j:Int)=(j:Int):=BD _;rw[ej]at kn ky |-;have ae:j<(II b yr).length:=by rwa[Tq]
  have eg:(II b yr)[j]?=HA ((II b yr)[j]):=Ad ae;have Y:(II b yr).getD ((j:Int)).toNat HG=(II b yr)[j]:=by rw[Bb,Ak,eg];rfl
  refine(HL<|IA (s _ _ A) T.kH T.kN Z<|HL<|Ib (s _ _ R) (Jz (by rw[Ai,eg];rfl))<|IB Z ?_);cases eb:(II b yr)[j] with|true=>exact Ia (kn _ ⟨_,Z⟩ (by show (!_)=HH;rw[Y,eb];rfl))|false=>exact Ii (HL<|ky _ ⟨_,Z⟩ (by show (!_)=HG;rw[Y,eb];rfl))
 have m:=qx (o:=.lst<|(((An (371:Int).toNat).map λi=>V.int<|0+(i:Nat)).filter λv=>match v with | .int i=>!((II b yr).getD i.toNat HG)|_=>HH).map λv=>v) g;have U:upd H4 d (.lst<|(((An (371:Int).toNat).map λi=>V.int<|0+(i:Nat)).filter λv=>match v with | .int i=>!((II b yr).getD i.toNat HG)|_=>HH).map λv=>v) d=HA (.lst<|(Lw<|II b yr).map V.int):=by
  rw[qk];refine HR (λl=>HA<|HO.lst l) ?_;unfold Lw;rw[List.map_id',List.filter_map,Cc,Tq];refine(HR _<|List.filter_congr λi _=>?_).trans<|BL λi _=>?_
  .show (!((II b yr).getD (0+(i:Int)).toNat HG))=_;rw[BD,Bb]
  .show V.int (0+(i:Int))=_;rw[BD];rfl
 have S:=m _ _ A;have f5:=m _ _ R;generalize upd H4 d (.lst<|(((An (371:Int).toNat).map λi=>V.int<|0+(i:Nat)).filter λv=>match v with | .int i=>!((II b yr).getD i.toNat HG)|_=>HH).map λv=>v)=p at m U S f5 |-;refine(HL<|Hv _ _ _ _ ⟨Z,S,T.kH,qp T.kN Ud,(show 1<1000 by decide),?_⟩);rw[T6 _ _ Uk];have D:d≠x:=λz=>by rw[z,A]at g;cases g
 have G:SameBut x H (upd p x<|.ins a.D e [(Aa "free_days",.ref c),(Aa "open_days",.ref d)]):=(M.trans<|SameBut.of m).set;have L:=(qr (o:=.ins a.D e [(Aa "free_days",.ref c),(Aa "open_days",.ref d)]) F).trans f5;have o6:=(qr (o:=.ins a.D e [(Aa "free_days",.ref c),(Aa "open_days",.ref d)]) D).trans U;have y:=qk (H:=p) (a:=x) (o:=.ins a.D e [(Aa "free_days",.ref c),(Aa "open_days",.ref d)]);generalize upd p x (.ins a.D e [(Aa "free_days",.ref c),(Aa "open_days",.ref d)])=H6 at G L o6 y |-;refine(HL<|IA y T.kH T.kN Z<|HP _ _ ⟨Z,L,by rw[Tq];decide,λp7 _ I B e7=>?_⟩);have x7:=B _ _ y;refine(HL<|Hv _ _ _ _ ⟨Z,x7,T.kH,qp T.kN Ud,(show 2<1000 by decide),?_⟩);rw[Xw _ _ _ Uk Uk];have m7:p7≠x:=λz=>by rw[z,y]at I;cases I
 refine k _ ((G.trans<|SameBut.of B).set) λ_ JF=>(Hv _ c d p7 ⟨JF _ _ (.inr<|.inl Z) qk,JF _ _ (.inl<|f.free n)<|(qr F).trans<|B _ _ L,JF _ _ (.inl<|M.free D g)<|(qr D).trans<|B _ _ o6,JF _ _ (.inl<|G.free m7 I)<|(qr m7).trans e7,Tq _ _⟩)
def qtr (T:Txt K mg a):FnOk P w K mg base Hw 7 a.AG a.CP (ap Of) (O4 a):=by
 refine T.dS.fn.ok ql9 (λvs H Q E h=>?_)<|λ_ A _ s H vs Q E J h=>?_
 .obtain⟨_,_,_,_,_,_,_,_,rfl,_⟩:=h
  all_goals rfl
 .obtain⟨x,g,pw,vy,vr,p,yr,rs,rfl,hx,hw,hy,ca,c9,bw,hl,X,k⟩:=h;refine IE (qf (Jb (pv 0) (Rm T.nX (qpb T) (J.mono Ud) Z T.nZ T.bU.bd .nil IT<|aN 1<|qd (pD T.gG (qW T) J<|aL 2) qg zl) Z)
   (qf (qz<|pD T.lN (qrh T) J<|qd (pD T.gG (qW T) J<|aL 3) qg zl)
   (qf (Jb (pv 0) (pD T.lK (qyl T) J<|qd (pD T.gG (qW T) J<|aL 3) qg zl) Z)
   (qf (Jb (pv 0) (zh<|qd qi qg ql) Z)
   (qj<|JD Av Z (Jk<|fV 0) (gI 4 ql9.nd)<|qj<|qz<|Jo A0 A5 A6 KF (fV 0)<|qd (qv IL (pX zr (fV 0)<|KN KQ qi)<|JG (pv 0) T.kD T.fX (qk3 T) (J.mono Ud) T.bA.bd .nil IT<|aN 4<|qd (qv IL (pX zq (pv 4) qi) qi) qg zm) qg zm))))) ?_
  intro _;dsimp only[IP];have aj:∀r∈rs,r.1<=r.2.1:=λr hm=>(X r hm).2.1;obtain⟨c7,_⟩:=Mt aj;have bf:=Rx λr hm=>(X r hm).1;have lO:(ov rs).length<=100:=Az (NW _)<|Az (jZ aj)<|Az (Ei 3 hl) Ud;refine HL<|IB Z ?_;refine orP hy λ_ H0 s0 bz=>?_;intro f U nx nd _;have keep:Same H0 (upd (upd H0 U<|.own f) f<|.ins a.D U []):=λb u e=>by rwa[qr<|Iz e nx,qr<|Iz e nd]
  refine K9 f U _ _ _ _ ⟨Z,qk,keep _ _<|s0 _ _ hw,bz.same keep,c9,bw,λy b1 au=>⟨Z,?_⟩⟩;have ax:=au y λ_ _ _ e=>e;have s1:Same H y:=s0.trans<|b1.made nx nd;have N:=s1 _ _ hx;have ag:f≠x:=λz=>by rw[z,s0 _ _ hx]at nx;cases nx
  refine HL<|Hv _ _ _ _ ⟨Z,N,T.kD,qp T.kI Ud,Ud,?_⟩;rw[T7];have av:∀{H':Hp}{fs:tY},H' x=HA (.ins a.C g fs)->PatAt a.D H' f (II p yr)->∀o,PatAt a.D (upd H' x o) f (II p yr):=by rintro _ _ ad ⟨d,a1,a2,a3,g1,F,M,I,g5⟩ o;exact (Hv d a1 a2 a3 ⟨by rwa[qr ag],by rw[qr (λz=>by rw[z,ad]at F;cases F)];exact F,by rw[qr (λz=>by rw[z,ad]at M;cases M)];exact M,by rw[qr (λz=>by rw[z,ad]at I;cases I)];exact I,g5⟩)
  have b2:SameBut x y (upd y x<|.ins a.C g [(Aa "pattern",.ref f)]):=(SameBut.of<|Same.refl y).set;have x2:=qk (H:=y) (a:=x) (o:=.ins a.C g [(Aa "pattern",.ref f)]);have Y:=av N ax<|.ins a.C g [(Aa "pattern",.ref f)];generalize upd y x (.ins a.C g [(Aa "pattern",.ref f)])=H2 at b2 x2 Y |-;have aw:=(ca.same s1).but N b2;refine IB Z ?_;refine orR aw λ_ _ sa bc=>?_;refine HP _ _ ⟨Z,bc,hl,X,λ_ s3=>?_⟩;refine IB Z ?_;refine orR ((aw.same sa).same s3) λ_ _ sb c8=>?_;refine HP _ _ ⟨Z,c8,aj,Az hl Ud,λq W nq s4 bu=>?_⟩;have ao:=(sa.trans s3).trans sb;have ai:=ao.trans s4;have x4:=ai _ _ x2;refine(HL<|Hv _ _ _ _ ⟨Z,x4,T.kD,qp T.kI Ud,(show 1<1000 by decide),?_⟩);rw[T6 _ _ Uk];obtain⟨O,q4,t4⟩:=bu;have ak:q≠x:=λz=>by rw[z,x4]at q4;cases q4
  have b5:SameBut x y (upd W x<|.ins a.C g [(Aa "pattern",.ref f),(Aa "rows",.ref q)]):=(b2.trans<|SameBut.of ai).set;have S:=qk (H:=W) (a:=x) (o:=.ins a.C g [(Aa "pattern",.ref f),(Aa "rows",.ref q)]);have al:=av x4 (Y.same ai)<|.ins a.C g [(Aa "pattern",.ref f),(Aa "rows",.ref q)];have q5:=(qr (o:=.ins a.C g [(Aa "pattern",.ref f),(Aa "rows",.ref q)]) ak).trans q4;have t5:Tups (upd W x<|.ins a.C g [(Aa "pattern",.ref f),(Aa "rows",.ref q)]) O ((ov rs).map Jx):=Zc ((SameBut.of<|Same.refl W).set) x4 t4;generalize upd W x (.ins a.C g [(Aa "pattern",.ref f),(Aa "rows",.ref q)])=H5 at b5 S al q5 t5 |-;refine⟨JJ (by show 1<=100000;decide),λz hz=>?_⟩;obtain⟨C,z6⟩:=IY (o:=.lst [V.int 0]) hz;have x6:=C _ _ S;refine(HL<|Hv _ _ _ _ ⟨Z,x6,T.kD,qp T.kI Ud,(show 2<1000 by decide),?_⟩);rw[Xw _ _ _ Uk Uk];have af:z≠x:=λe=>by rw[e,S]at hz;cases hz
  have bh:q≠z:=λe=>by rw[<- e,q5]at hz;cases hz
  have b7:SameBut x y (upd (upd H5 z<|.lst [V.int 0]) x<|.ins a.C g<|L6 f q z):=(b5.trans<|SameBut.of C).set;have x7:=qk (H:=upd H5 z<|.lst [V.int 0]) (a:=x) (o:=.ins a.C g<|L6 f q z);obtain⟨d5,a1,a2,a3,g1,F,M,I,g5⟩:=al;have nz:∀{b:HC}{o:HO},H5 b=HA o->b≠z:=λh e=>by rw[e,hz]at h;cases h
  have ah:∀{b:HC}{l:tW},H5 b=HA (.lst l)->b≠x:=λh e=>by rw[e,S]at h;cases h
  have am:=PatAt.upd (o:=.ins a.C g<|L6 f q z) (C _ _ g1) (C _ _ F) (C _ _ M) (C _ _ I) ag (ah F) (ah M)<|ah I;have q7:=(qr (o:=.ins a.C g<|L6 f q z) ak).trans<|C _ _ q5;have z7:=(qr (o:=.ins a.C g<|L6 f q z) af).trans z6;have t7:Tups (upd (upd H5 z<|.lst [V.int 0]) x<|.ins a.C g<|L6 f q z) O ((ov rs).map Jx):=Zc ((SameBut.of C).set) S t5;have aq:y z=HD:=b5.free af hz;have bq:H q=HD:=s1.free<|b2.free ak<|ao.free nq;generalize upd (upd H5 z<|.lst [V.int 0]) x (.ins a.C g<|L6 f q z)=H7 at b7 x7 am q7 z7 t7 |-;have bj:=At.len t7;let D:Nat->Int:=λk=>(((ov rs).take k).map λr=>Iq (II p yr) r<|r.2.1+1).sum;refine(HL (IA x7 T.kD T.kI Z ⟨_,Z,⟨_,SqL.of q7⟩,KE (K:=K) (a:=q) (xs:=O) (λi σ H'=>SameBut x y H'/\H' x=HA (.ins a.C g<|L6 f q z)/\(H' f=HA (.ins a.D d5<|Xx a1 a2 a3)/\H' a1=HA (.lst<|(II p yr).map V.bl)/\H' a2=HA (.lst<|(Lw<|II p yr).map V.int)/\H' a3=HA (.lst<|(Oh<|II p yr).map V.int))/\H' q=HA (.lst O)/\Tups H' O ((ov rs).map Jx)/\H' z=HA (.lst<|((An<|i+1).map D).map V.int)/\∃v:tX,σ=[HA<|.ref x,HA<|.ref pw,HA vy,HA vr,v])
   ⟨b7,x7,am,q7,t7,z7,HD,Z⟩ (λi σ H' _ h=>SqL.of h.2.2.2.1) ?_ ?_⟩))
  .intro i w0 σ H8 bt w';obtain⟨R,G,j,q8,t8,L,v,rfl⟩:=w';obtain⟨c,t,rfl,w1,w2⟩:=t8.get' bt;obtain⟨r,w3,rfl⟩:=XH w1;have hi:i<(ov rs).length:=(Ac.mp w3).1;have r0:=bf r<|Au w3;have r1:=c7.ok r<|Au w3;have eL:∀m,((An<|m+1).map D).map V.int=((An m).map D).map V.int++[V.int<|D m]:=λm=>by rw[Bs,Aq,Aq];rfl
   have ay:(((An<|i+1).map D).map V.int).length<=90000:=by rw[Ab,Ab,Ar];exact Az (Nat.succ_le_of_lt<|Ay hi lO) Ud
   have ar:=L;rw[eL]at ar;refine HL<|IA G T.kD T.kI Z ⟨.inl ⟨Z,_,SqL.of L⟩,HL<|IA G T.kD T.kI Z<|IB Z<|Ib ar (T1 _ _)<|HL<|HW _ _ _ ⟨Z,G,Z,HY<|IH w2 Z<|HV<|Ic _ _ _ _ _ _ _ _ ⟨_,Z,G,Hv _ _ _ _ ⟨j.1,j.2.1,j.2.2.1,j.2.2.2,Tq _ _⟩,w2,r0,Eo<|Bh r0 r1,λH9 B=>?_⟩⟩⟩;refine HV<|HW _ _ _ ⟨Z,Z,B _ _ L,KI ay,?_⟩;have es:D i+Iq (II p yr) r (r.2.1+1)=D (i+1):=by show _=((((ov rs).take<|i+1).map λr=>Iq (II p yr) r<|r.2.1+1).sum);rw[Mi w3,Aq,List.sum_append];simp[D]
   dsimp only[];rw[es,<- eL (i+1)];refine⟨λb o n e=>by rw[qr<|Iz e aq];exact B _ _<|R b o n e,by rw[qr af.symm];exact B _ _ G,?_,by rw[qr bh];exact B _ _ q8,(t8.same B).upd<|B _ _ L,qk,_,Z⟩;exact PatAt.upd (B _ _ j.1) (B _ _ j.2.1) (B _ _ j.2.2.1) (B _ _ j.2.2.2) (nz g1) (nz F) (nz M)<|nz I
  .intro σ H8 w';obtain⟨R,G,j,q8,t8,L,v,rfl⟩:=w';rw[bj]at L;refine k H8 ((SameBut.of s1).trans R) λH9 JF=>Hv g f q z ⟨JF _ _ (.inr<|.inl Z) G,au H9 λb o hb ho=>?_,⟨O,JF _ _ (.inl bq) q8,qx4 JF t8⟩,JF _ _ (.inl<|s1.free aq) L⟩;rcases hb with hb|rfl|⟨t,rfl⟩
   .have ae:=(s0.trans keep).free hb;exact JF _ _ (.inl ae) (R _ _ (λe=>by rw[e,hx]at ae;cases ae) ho)
   .exact JF _ _ (.inl<|s0.free nx)<|R _ _ ag ho
   .exact JF _ _ (.inr<|.inr ⟨t,Z⟩) (R _ _ (λe=>by rw[e,N]at ho;cases ho) ho)
theorem X4 (T:Txt K mg a){cL Pt:HC}(hcl:a.Y.code=.ref cL)(LF:Lam.LamF mg base cL Pt):FnOk P w K mg base Hw 25 a.A8 a.CQ (ap RT) (Yx K Pt):=by
 refine T.mE.fn.ko KH λH _ Q E I h=>?_;obtain⟨l,L,rfl,hS,_,sg,k⟩:=h;refine IE (qf (sI 1 KH.nd<|zd qqo (by rfl) T.lA boot_sorted<|qd (pD T.bI (qos T) I<|qd (pD T.gF (aG T) I<|aN 0<|qd qi qg ql) (qd qi qg ql) zl) qg zl)
  (qf (sI 2 KH.nd<|pD T.dD (qyw T) I<|aN 0<|aN 1<|qd (pD T.bI (qos T) I<|qd (pD T.gF (aG T) I<|aN 0<|qd qi qg ql) (qd qi qg ql) zl) qg zl)
  (qf (sI 3 KH.nd<|qv Iw (pD T.gF (aG T) I<|aN 0<|qd qi qg ql)<|qv UD qi qi)
  (qf (qng (i:=4) KH.nd Z Z (N:=["_law_k","_law_script"]) (js:=[HD,HA 0]) (XN:=["_law_script","_law_names","_law_rules","_law_first","_law_week","_law_rows","_law_k","_law_cell","_law_acts_here","_law_yearly","_law_begin","_law_days","_law_by_name","_law_rule_here","_law_held","_law_name","_law_act","_law_kept","_law_told","_law_due"]) (xs:=Iy RT) Z Z Z Uk (LH Z T.kK<|qd (qv Iw (pD T.kJ (LI T) I<|aN 0<|qd qi qg ql) qi) qg zm) (λ_ _ _ _ _ _=>Lr (i:=0) (show Ct (["_law_k","_law_script"]:tG) from by decide +kernel) Z (C6 Z)<|CG Z) (λ_ _ _ _ _ _=>Tu)<|λ_ _ _ _ _ _=>qv IL qi<|qv Iw (qv IL (qv JL (pD T.kJ (LI T) I<|aN 1<|qd qi qg ql) qi)<|pv 0) qi)
  (qf (sI 5 KH.nd<|zh qg)
  (qf (JD Av Z (LH Z T.kK<|qd (qv Iw (pD T.kJ (LI T) I<|aN 0<|qd qi qg ql) qi) qg zm) (gI 6 KH.nd) (qf (sI 7 KH.nd<|qv JL (pD T.kJ (LI T) I<|aN 0<|qd qi qg ql)<|pX zr (zh<|qd qi (qd qi qg ql) ql)<|pv 6)
  (qj<|qz<|Jo A0 A5 A6 KF (pv 5)<|qd (zj<|qd (qv IL (pv 3)<|qv Iw (pv 7) qi) (qd (qv IL (qv IL (pv 3)<|qv Iw (pv 7) qi)<|qv Iw (qv JL (pv 7) qi) qi) (qd (pX zr (zh<|qd zg (qd zg qg ql) ql)<|qv Iw (qv JL (pv 7) qi) qi) qg zn) zm) zm) qg zo)))
  (qf (sI 8 KH.nd<|pD T.fO (qyy T) I<|aN 0<|aN 2<|aN 1<|aN 3<|qd (zd (qpc Z) (by rfl) T.fP qsd<|qd (pX zr (zh<|qd qi (qd qi (qd qi (qd qi qg ql) ql) ql) ql)<|qv Jq (zd Ka (by rfl) T.kG KY<|aL 2) qi) (qd (zd (qH Z) (by rfl) T.gY oN<|qd qi (qd (qv Jq (zd Ka (by rfl) T.kG KY<|aL 0) qi) qg zm) ql) qg zl) zn) qg zl)
  (qf (sI 9 KH.nd<|zh qg)
  (qf (zb (pC JO (qv Iw (qv JL (pD T.kJ (LI T) I<|aN 0<|qd qi qg ql) qi) qi) qi) (qf (sI 10 KH.nd<|qv Iw (qv IL (pD T.bN (qk6 T) I<|aL 3)<|qv Iw (qv JL (pD T.kJ (LI T) I<|aN 0<|qd qi qg ql) qi) qi) qi)
  (qj<|qz<|Jo A0 A5 A6 KF (pv 9)<|qd (zj<|aN 10<|qd (qv IL (pv 10)<|qv Iw (qv JL (pD T.kJ (LI T) I<|aN 0<|qd qi qg ql) qi) qi) qg zm) qg zo)) IG)
  (qf (sI 11 KH.nd<|zj<|aN 4<|aN 9<|aL 5)
  (qf (sI 12 KH.nd Pl)
  (qf (JD Av Z (Jk<|pv 2) (gI 13 KH.nd)<|qj<|Pk (Ji I) (pv 12) (fV 13) (pv 13) Z)
  (qf (sI 14 KH.nd Pl)
  (qf (JD Av Z (Jk<|pD T.bE (qk5 T) I<|aL 2) (gI 15 KH.nd)<|qj<|Pk (Ji I) (pv 14) (pv 15) (zh qg) Z)
  (qf (JD Av Z (Jk<|pD T.lD (qtj T) I<|aL 8) (gI 16 KH.nd)<|qj<|JD Av Z (Jk<|pD T.bE (qk5 T) I<|aL 2) (gI 15 KH.nd)<|qj<|qz<|pD T.fE (Mx T) I<|aN 14<|aN 15<|aN 12<|aN 11<|aL 16)
  (qf (sI 17 KH.nd<|T2 cW (by rfl) T.kL Le<|aL 8)
  (qf (sI 18 KH.nd<|pD T.lL (qyt T hcl LF) I<|qd (Rm T.mQ (qu7 T) (I.mono Ud) Z T.mP T.lH.bd .nil IT<|aL 2) (qd (Rm T.nI (qtr T) (I.mono Ud) Z T.mI T.dS.bd .nil IT<|aN 4<|aN 9<|aL 5) (aL 8) zl) zl)
  (qf (zb (PW.pt<|Kh (pC (qvq I.units) (pv 8)<|pv 17)<|Ku<|pC (qvq I.units) (T2 (qnn Z) (by rfl) T.kL Le<|aL 18)<|T2 (qnn Z) (by rfl) T.kL Le<|aL 14) (rT JV) IG)
  (qf (aE Av Z (pv 14) (gI 15 KH.nd) (qf (sI 19 KH.nd<|zh qg)
  (qf (JD Av Z (LH Z T.kK<|qd (zd Ka (by rfl) T.kG KY<|qd (K7 (Ji I) (pv 14) (pv 15)<|λ_ _=>rfl) qg zn) qg zl) (gI 6 KH.nd)<|qj<|qz<|Jo A0 A5 A6 KF (pv 19)<|qd (pD T.dP (qri T) I<|qd (pX zr (K7 (Ji I) (pv 14) (pv 15)<|λ_ _=>rfl)<|pv 6) (qd (zc (qot T) (I.mono Ud) Z T.kM.mgx T.kM.fn.kp T.kM.bd .nil IT<|aN 14<|aN 15<|aN 6<|aN 12<|aL 11) qg zl) zn) qg zl)
  (qj<|zb (Kx<|zf<|zc (qto T) (I.mono Ud) Z T.kQ.mgx T.kQ.fn.kp T.kQ.bd .nil IT<|qd (K7 (Ji I) (pv 18) (pv 15)<|λ_ _=>rfl) (aL 19) zn) (rT JV) IG))))
  (rT JV)))))))))))))))))))) ?_
 intro _;dsimp only[IP];rw[O1 (v:=V.ref l)]
 rotate_left
 .rfl
 refine Wp λY2 Y3 Y4 Y5 Y6 E6 E5 E4 E3 E2=>?_;refine HL<|HW _ _ _ ⟨Z,hS,Ud,_,26,Z,Ud,λ_ H1 _ s1 e1=>?_⟩;refine(HP _ _ ⟨Z,SqL.of e1,(by rw[ZI];decide),λpn O vj gh=>?_⟩);have ln:O.length=26:=gh.length_eq.trans<|ZI _ _;have nd:O.Nodup:=gh.nodup_iff.mpr SH;obtain⟨s2,e2⟩:=IY (o:=.lst<|O.map V.str) vj;generalize upd H1 pn _=H2 at s2 e2 |-;have sA:=s1.trans s2;refine JC (σ':=[HA<|.ref l,HA<|.ref pn,HD,HD,HD,HD,HD,HD,HD,HD,HD,HD,HD,HD,HD,HD,HD,HD,HD,HD]) rfl ?_;refine JM (u:=Y2) E2 ?_;refine Jw<|HW _ _ _ ⟨Z,sA.seq hS,Ud,_,11,Z,Ud,λpk _ _ s3 e3=>?_⟩;have sB:=sA.trans s3;have mk:=s3 _ _ e2;refine(K9 l pn pk L O _ ⟨Z,sB.seq hS,mk,ln,e3,(by rw[ZI];decide),Ol Ud,λF H4 us Ts rv _ s4 l1 l4 tok iw og=>?_⟩);refine JC (σ':=[HA<|.ref l,HA<|.ref pn,HA<|.ref F,HD,HD,HD,HD,HD,HD,HD,HD,HD,HD,HD,HD,HD,HD,HD,HD,HD]) rfl ?_;refine JM (u:=Y3) E3 ?_;have sC:=sB.trans s4;have rf:=s4 _ _ mk;have R4:RsL a H4 us (if rv=HG then Ts.reverse else Ts) O:=og.same<|oC λb o _ e=>e;refine HL<|HW _ _ _ ⟨Z,sC.seq hS,Ud,IJ ⟨Ud,Ud,Ud⟩<|IJ (pos Ud) ?_⟩;have f0:=BP (cell L 0) (show (10:Int) ^ (60:Int).toNat≠0 by decide);refine JC (σ':=[HA<|.ref l,HA<|.ref pn,HA<|.ref F,HA<|.int<|cell L 0 % 10 ^ (60:Int).toNat,HD,HD,HD,HD,HD,HD,HD,HD,HD,HD,HD,HD,HD,HD,HD,HD]) rfl ?_;refine JM (u:=Y4) E4 ?_;generalize cell L 0 % _=first at f0 |-
 obtain⟨nW,ip,fc⟩:=md7<|Jn L 2;have bW:=rbz ip<|Az fc Ud;refine HL<|HW l L 2 ⟨Z,sC.seq hS,Ud,Ud,IJ (pos Ud) ⟨_,Z,bW.1,bW.2,?_⟩⟩;let fW:V->V:=λv=>match v with
  |.int j=>.int (1+(Jn L 2 / 7+j) % 7)
  |_=>.non
 refine Z5 fW (λσ'=>∃v,σ'=[v,HA<|.ref l]) aY (JJ (by rw[Ab,Ar,ez ip];exact Az fc Ud)) ⟨HD,Z⟩ (λv σ' _ _ hv sm s4 qq=>?_) Rl λs my=>?_
 .obtain⟨v0,rfl⟩:=s4;obtain⟨j,A,rfl⟩:=AQ.mp hv;have qq:=qq [HA<|.int<|0+(j:Int),HA<|.ref l] ⟨_,Z⟩;exact HL<|HW l L 2 ⟨Z,(sC.trans sm).seq hS,Ud,Ud,IJ ⟨Ud,Ud⟩<|HL<|HV<|IJ (pos Ud)<|HV qq⟩
 have eW:((An (Jn L 2 % 7).toNat).map λ(j:Nat)=>V.int<|0+(j:Int)).map fW=(SG (Jn L 2) nW).map V.int:=by unfold SG;rw[ip,Bb,Cc,Cc];refine BL λj _=>?_;show V.int (1+(Jn L 2 / 7+(0+(j:Int))) % 7)=V.int (1+(Jn L 2 / 7+(j:Int)) % 7);rw[BD]
 rw[eW];obtain⟨sW,eK⟩:=IY (o:=.lst<|(SG (Jn L 2) nW).map V.int) my;generalize upd H4 s _=H5 at sW eK |-;clear eW;have fe:=V1 (Jn L 2) fc;generalize hwk:SG (Jn L 2) nW=wk at eK fe |-;have sD:=sC.trans sW;refine JC (σ':=[HA<|.ref l,HA<|.ref pn,HA<|.ref F,HA<|.int first,HA<|.ref s,HD,HD,HD,HD,HD,HD,HD,HD,HD,HD,HD,HD,HD,HD,HD]) rfl ?_;refine JM (u:=Y5) E5 ?_;refine⟨JZ,λg mh=>?_⟩;obtain⟨s6,e6⟩:=IY (o:=.lst []) mh;generalize upd H5 g _=H6 at s6 e6 |-;refine JC (σ':=[HA<|.ref l,HA<|.ref pn,HA<|.ref F,HA<|.int first,HA<|.ref s,HA<|.ref g,HD,HD,HD,HD,HD,HD,HD,HD,HD,HD,HD,HD,HD,HD]) rfl ?_;refine JM (u:=Y6) E6 ?_;refine Wp λY7 Y8 Y9 w9 u9 rh ou E9 E8 E7=>?_;obtain⟨_,ie,ii⟩:=rN<|Jn L 3;have bR:=rbz ie<|Az ii Ud;refine HL<|HW l L 3 ⟨Z,(sD.trans s6).seq hS,Ud,Ud,IJ (pos Ud) ⟨_,Z,bR.1,bR.2,Mj (lo:=0) (n:=(Jn L 3 % 3).toNat) (λi σ J=>Same H5 J/\(∃rz:tZ,At J g rz/\rz.length=i/\∀r∈rz,LV r)/\∃M v7:tX,σ=[HA<|.ref l,HA<|.ref pn,HA<|.ref F,HA<|.int first,HA<|.ref s,HA<|.ref g,M,v7,HD,HD,HD,HD,HD,HD,HD,HD,HD,HD,HD,HD]) ⟨s6,⟨[],⟨[],e6,.nil⟩,Z,λ_ h=>absurd h A9⟩,HD,HD,Z⟩ ?_ ?_⟩⟩
 .rintro i σ J S ⟨sJ,⟨rz,⟨uz,hz,tz⟩,lz,bf⟩,M,v7,rfl⟩;rw[ez ie]at S;have j8:i<2:=Ay S ii;have sx:uz.length=i:=by rw[tz.length,Ab,lz]
  rw[BD];refine JC (σ':=[HA<|.ref l,HA<|.ref pn,HA<|.ref F,HA<|.int first,HA<|.ref s,HA<|.ref g,HA<|.int (i:Int),v7,HD,HD,HD,HD,HD,HD,HD,HD,HD,HD,HD,HD]) rfl ?_;obtain⟨dv,ui,oo,re⟩:=YU j8;refine HL<|HW l L 12 ⟨Z,(sD.trans sJ).seq hS,Ud,Ud,Ke _ _,λq1 ga=>?_⟩;obtain⟨t1,b1⟩:=IY (o:=.lst [V.int 1,V.int 977]) ga;generalize upd J q1 _=J1 at t1 b1 |-;refine HL<|Ib b1 ui<|HV ⟨⟨oo,re⟩,?_⟩;refine JC (σ':=[HA<|.ref l,HA<|.ref pn,HA<|.ref F,HA<|.int first,HA<|.ref s,HA<|.ref g,HA<|.int (i:Int),HA<|.int<|Jn L 12 / dv,HD,HD,HD,HD,HD,HD,HD,HD,HD,HD,HD,HD]) rfl ?_;generalize Jn L 12 / dv=c;have o8:=t1 _ _ hz;refine HL ⟨.inl ⟨Z,_,SqL.of o8⟩,HY<|IJ (pos Ud)<|HV<|HY<|IJ (pos Ud)<|HV<|HL<|IJ ⟨Ud,Ud⟩<|IJ (pos Ud)<|HV ⟨Ke _ _,λq2 oz=>?_⟩⟩;obtain⟨t2,b2⟩:=IY (o:=.lst [V.str<|Aa "free",V.str<|Aa "open"]) oz;generalize upd J1 q2 _=J2 at t2 b2 |-;obtain⟨wd,su,vq⟩:=V3 c;refine HL<|IJ ⟨Ud,Ud⟩<|IJ (pos Ud)<|Ib b2 su ⟨Kk _ _ _,λt nt=>?_⟩;obtain⟨t3,b3⟩:=IY (o:=.tup<|Jx (first+c % 40,first+c % 40+c / 40 % 6,wd)) nt;have ak:=t1.trans<|t2.trans t3;have jw:=ak _ _ hz;refine HW _ _ _ ⟨Z,Z,jw,Ym (BN sx)<|Az (Bt j8) Ud,?_⟩;refine⟨λb o e=>by rw[qr<|Iz e mh];exact ak _ _<|sJ _ _ e,⟨rz++[(first+c % 40,first+c % 40+c / 40 % 6,wd)],⟨_,qk,?_⟩,by rw[Ae,lz];rfl,λr I=>?_⟩,_,_,Z⟩
  .rw[Aq];exact Vp (Tups.upd (tz.same ak) jw) ((qr (λz=>by have:=(t1.trans t2) _ _ hz;rw[<- z,nt]at this;cases this)).trans b3)
  .rcases As.mp I with h|h
   .exact bf r h
   .rw[Aj.mp h];exact TB f0 vq
 intro σ H7 w';obtain⟨il,⟨rz,uw,dc,bf⟩,M,v7,rfl⟩:=w';refine JM (u:=Y7) E7 ?_;have dc:rz.length<=12:=by rw[dc,ez ie];exact Az ii Ud
 have sE:=sD.trans il;obtain⟨LL,eLL⟩:∃LL:List TD,LL=if rv=HG then Ts.reverse else Ts:=⟨_,Z⟩;rw[<- eLL]at R4;have ft:LL.length=Ts.length:=by rw[eLL];split <;>simp
 have kq:∀t,t∈LL↔t∈Ts:=λt=>by rw[eLL];split <;>simp
 have mz:∀t∈LL,∃k,TdOk O t k:=λt ht=>by obtain⟨k,hk⟩:=Bx<|(kq t).mp ht;exact⟨k,tok k t hk⟩
 have fq:us.length=Ts.length:=by rw[R4.1,ft]
 have sy:=sW.trans il;obtain⟨_,uo,oq,vk⟩:=X8 (fq ▸ l1)<|fq ▸ l4;refine UJ ⟨rX _ _ _ _,λq1 ga=>?_⟩;obtain⟨t1,b1⟩:=IY (o:=.lst [V.int 16,.int 16,.int 10,.int 10]) ga;generalize upd H7 q1 _=H8 at t1 b1 |-;have bj:=sy.trans t1;obtain⟨fj,em,_,uj⟩:=QG (((L.map V.int).length:Int)-6) oq vk;have c8:=Az uj (show 16<=20 by decide);refine(HL<|HP _ _ ⟨Z,.inl ⟨_,SqL.of<|bj _ _ iw,Z⟩,HV<|Ib b1 uo<|HL<|HP _ _ ⟨Z,.inl ⟨_,(sE.trans t1).seq hS,Z⟩,HV<|HP _ _ ⟨Z,_,_,Z,l,F,pn,L,O,us,LL,first,fj,(by rw[<- em];rfl),(sE.trans t1).seq hS,bj _ _ iw,R4.same bj,ft ▸ l1,ft ▸ l4,?_,?_,bj _ _ rf,ln,nd,f0,c8,λpa H9 uA cq _ _ dm ea ta la a1 a2 rn fa=>?_⟩⟩⟩)
 .intro t ht;obtain⟨k,hk⟩:=mz t ht;exact hk.ls
 .have e0:=Ad (show 0<Ts.length by lia);refine⟨_,(kq _).mpr<|Au e0,(tok 0 _ e0).op ?_⟩;cases eb:Ts[0].base with|none=>rfl|some b=>exact absurd ((tok 0 _ e0).ba b eb)<|Bj _
 clear em;refine JC (σ':=[HA<|.ref l,HA<|.ref pn,HA<|.ref F,HA<|.int first,HA<|.ref s,HA<|.ref g,M,v7,HA<|.ref pa,HD,HD,HD,HD,HD,HD,HD,HD,HD,HD,HD]) rfl ?_;refine JM (u:=Y8) E8 ?_;have t9:=bj.trans dm;have sF:=sE.trans<|t1.trans dm;have jh:=Kt ta λb u e=>(Wt e).2;have ja:=UL ln nd a1 a2 (la ▸ c8) rn;have gz:cq.length<=20:=la ▸ c8;refine⟨JZ,λC kz=>?_⟩;obtain⟨dg,bt⟩:=IY (o:=.lst []) kz;generalize upd H9 C _=H10 at dg bt |-;refine JC (σ':=[HA<|.ref l,HA<|.ref pn,HA<|.ref F,HA<|.int first,HA<|.ref s,HA<|.ref g,M,v7,HA<|.ref pa,HA<|.ref C,HD,HD,HD,HD,HD,HD,HD,HD,HD,HD]) rfl ?_;refine JM (u:=Y9) E9 ?_;apply Pf (p:=λ_ J=>Same H9 J/\∃yr,AtP J C yr/\OkY yr) (f:=λv=>[HA<|.ref l,HA<|.ref pn,HA<|.ref F,HA<|.int first,HA<|.ref s,HA<|.ref g,M,v7,HA<|.ref pa,HA<|.ref C,v,HD,HD,HD,HD,HD,HD,HD,HD,HD])
 .intro mm;have ca:=(sF.trans dg).seq hS;refine HL<|HW l L 3 ⟨Z,ca,Ud,Ud,IJ ⟨Ud,Ud⟩<|IJ (pos Ud) ⟨Z,Hx<|IK (λc1=>?_)<|λc1=>?_⟩⟩
  rotate_left
  .exact Kj rfl (mm HD H10 ⟨dg,[],⟨[],bt,.nil⟩,rK⟩)
  .refine(HL ⟨first,rfl,HL<|HW l L 3 ⟨Z,ca,Ud,Ud,IJ ⟨Ud,Ud⟩<|IJ (pos Ud)<|HV<|IJ (pos Ud) ?_⟩⟩);refine JC (σ':=[HA<|.ref l,HA<|.ref pn,HA<|.ref F,HA<|.int first,HA<|.ref s,HA<|.ref g,M,v7,HA<|.ref pa,HA<|.ref C,HA<|.int<|(IV first+Jn L 3 / 6 % 20) % 355,HD,HD,HD,HD,HD,HD,HD,HD,HD]) rfl ?_;have jb:=BP (IV first+Jn L 3 / 6 % 20) (show (355:Int)≠0 by decide);have kr:=Cf (IV first+Jn L 3 / 6 % 20) (show (0:Int)<355 by decide);generalize (IV first+Jn L 3 / 6 % 20) % 355=bg at jb kr |-;refine HL ⟨.inl ⟨Z,_,SqL.of bt⟩,Jw<|HW l L 3 ⟨Z,ca,Ud,Ud,IJ ⟨Ud,Ud⟩<|IJ (pos Ud)<|HV ⟨Ke _ _,λt nt=>?_⟩⟩⟩;obtain⟨mj,tm⟩:=IY (o:=.tup [V.int bg,.int<|bg+Jn L 3 / 120 % 9]) nt;have uc:=mj _ _ bt;refine(HW _ _ _ ⟨Z,Z,uc,KI (by show 0<=90000;decide),?_⟩);refine mm (HA<|.int bg) _ ⟨λb o e=>by rw[qr<|Iz e kz];exact mj _ _<|dg _ _ e,[(bg,bg+Jn L 3 / 120 % 9)],⟨_,qk,.cons ((qr (λz=>by rw[z,bt]at nt;cases nt)).trans tm) .nil⟩,V0 _ jb kr⟩
 intro U rp w';obtain⟨o1,yr,ud,jz⟩:=w';refine JM (u:=w9) ou ?_;have j7:PartsOk wk yr rz:=⟨fe,jz,dc,bf⟩;refine Jw ⟨Kk _ _ _,λD ow=>?_⟩;obtain⟨fh,kc⟩:=IY (o:=.tup [V.ref s,.ref C,.ref g]) ow;generalize upd rp D _=H12 at fh kc |-;have aj:=o1.trans fh;have ij:=t9.trans aj;have fz:=(il.trans<|t1.trans<|dm.trans aj) _ _ eK;have fk:=ud.same fh;have i4:=uw.same<|t1.trans<|dm.trans aj;have sw:DaysAt H12 D wk yr rz:=HW s C g ⟨kc,fz,fk,i4⟩;refine JC (σ':=[HA<|.ref l,HA<|.ref pn,HA<|.ref F,HA<|.int first,HA<|.ref s,HA<|.ref g,M,v7,HA<|.ref pa,HA<|.ref C,U,HA<|.ref D,HD,HD,HD,HD,HD,HD,HD,HD]) rfl ?_;refine JM (u:=u9) rh ?_;refine Wp λve t6 oy uu rm ug vz vt vx ot=>?_;obtain⟨n,en⟩:∃n,n=Ts.length:=⟨_,Z⟩;obtain⟨Tt,hTt⟩:∃Tt:uE,∀k<n,Ts[k]?=HA (Tt k):=⟨λk=>Ts.getD k<|Ts[0]'(Ay Nat.zero_lt_one l1),λk hk=>by dsimp only;rw[Ak,Ad<|en ▸ hk];rfl⟩;have af:∀k<n,TdOk O (Tt k) k:=λk hk=>tok k _<|hTt k hk;have vf:∀j<n,LL[j]?=HA (Tt<|fR rv n j):=λj A=>by
  rw[<- hTt _ (Kf A),eLL];unfold fR;split
  .rw[Dj<|en ▸ A,en]
  .rfl
 have gs:us.length=n:=by rw[fq,en]
 have n4:n<=4:=en ▸ l4;have dr:∀{J:Hp},Same H12 J->∀j<n,∃rl,us[j]?=HA (.ref rl)/\RuleB a J rl (Tt<|fR rv n j) (KS O (Tt<|fR rv n j).base):=λ{J} z j A=>by obtain⟨rl,r1,r2⟩:=R4.2 j _<|vf j A;exact⟨rl,r1,r2.same<|ij.trans z⟩
 have bw:=eT (rv:=rv) af n4 ln nd;obtain⟨lo,eO,gO,aO⟩:=qs5 bw _<|Al _;rw[OY]at gO aO eO;have bz:lo.length=n:=by rw[(M9 gO.nd gO.lt aO).length_eq,Ar]
 obtain⟨T0,_⟩:=Os (rv:=rv) af n4 ln nd gO bz;have dj:=QD (rv:=rv) af n4 ln nd gO bz;rw[<- eO]at dj;have jd:=gg (rv:=rv) af gO bz;have ke:∀{J:Hp},Same H12 J->∀i<n,∃j rl,j<n/\nm (Jr O rv n) j=(Jy Tt rv n lo i).name/\us[j]?=HA (.ref rl)/\RuleT a J rl (Jy Tt rv n lo) i:=λz=>S9 af n4 ln nd (dr z) gO bz;have jl:∀{J:Hp}{bk:HC},Same H12 J->BookAt a.E J bk (Jr O rv n) (lo.map<|nm<|Jr O rv n) us->BookT a J bk n (Jy Tt rv n lo):=λ{J bk} z hb=>U3 af n4 ln nd (dr z) gO bz hb;have ah:=ij _ _ iw;refine λpb nb=>?_;obtain⟨ak,jc⟩:=IY (o:=.dK []) nb;generalize upd H12 pb _=H13 at ak jc |-;refine JC (σ':=[HA<|.ref l,HA<|.ref pn,HA<|.ref F,HA<|.int first,HA<|.ref s,HA<|.ref g,M,v7,HA<|.ref pa,HA<|.ref C,U,HA<|.ref D,HA<|.ref pb,HD,HD,HD,HD,HD,HD,HD]) rfl ?_;refine JM (u:=ve) ot ?_;refine HL ⟨_,Z,⟨_,SqL.of<|ak _ _ ah⟩,KE (K:=K) (a:=F) (xs:=us) (λj σ J=>Same H12 J/\(∃kv,J pb=HA (.dK kv)/\kv.length<=j/\∀j'<j,Ih kv (.inr<|nm (Jr O rv n) j')=us[j']?)/\∃Y:tX,σ=[HA<|.ref l,HA<|.ref pn,HA<|.ref F,HA<|.int first,HA<|.ref s,HA<|.ref g,M,v7,HA<|.ref pa,HA<|.ref C,U,HA<|.ref D,HA<|.ref pb,Y,HD,HD,HD,HD,HD,HD]) ⟨ak,⟨[],jc,Al _,λj' h=>absurd h<|Bj _⟩,HD,Z⟩ (λj σ J _ h=>SqL.of<|h.1 _ _ ah) ?_ ?_⟩
 .intro j v σ J hv w';obtain⟨sJ,⟨kv,i9,lx,dz⟩,Y,rfl⟩:=w';have A:j<n:=gs ▸ (Ac.mp hv).1;obtain⟨rl,e1,RB⟩:=dr sJ j A;have wa:=e1;rw[hv]at e1;cases e1;obtain⟨_,_,_,_,_,_,_,_,g1,_⟩:=RB;have vh:(Tt<|fR rv n j).name=nm (Jr O rv n) j:=by rw[(af _<|Kf A).nm,Td A]
  rw[vh]at g1;refine JC (σ':=[HA<|.ref l,HA<|.ref pn,HA<|.ref F,HA<|.int first,HA<|.ref s,HA<|.ref g,M,v7,HA<|.ref pa,HA<|.ref C,U,HA<|.ref D,HA<|.ref pb,HA<|.ref rl,HD,HD,HD,HD,HD,HD]) rfl ?_;refine Jw<|IA g1 T.k7 T.k8 Z<|HP pb _ ⟨Z,DPut.k (k:=.inr<|nm (Jr O rv n) j) i9<|Ym lx<|Az (Bt A)<|Az n4 Ud,?_⟩;refine⟨λb o e=>by rw[qr<|Iz e nb];exact sJ _ _ e,⟨_,qk,Az (T5 _ _ _)<|CQ lx 1,λj' ad=>?_⟩,_,Z⟩;rw[XY];by_cases z:j'=j
  .subst z;rw[HI Z,wa]
  .rw[HF<|λq=>z<|VX bw.nd (by rw[OY];exact Ay ad A) (by rwa[OY])<|CL.inj q];exact dz j'<|rO ad z
 intro σ c7 w';obtain⟨av,⟨vd,im,_,dz⟩,Y,rfl⟩:=w';refine JM (u:=t6) vx ?_;rw[gs]at dz;have ji:LawT a c7 n (Jy Tt rv n lo) pb D wk yr rz:=⟨sw.same av,bf,vd,im,λi S=>by obtain⟨j,rl,A,e1,e2,R⟩:=ke av i S;exact⟨rl,by rw[<- e1,dz j A,e2],R⟩⟩;generalize Jy Tt rv n lo=ts at T0 dj jd ke jl ji;have aq:=QI j7;refine λG nh=>?_;obtain⟨dw,i5⟩:=IY (o:=.dK []) nh;generalize upd c7 G _=H15 at dw i5 |-;refine JC (σ':=[HA<|.ref l,HA<|.ref pn,HA<|.ref F,HA<|.int first,HA<|.ref s,HA<|.ref g,M,v7,HA<|.ref pa,HA<|.ref C,U,HA<|.ref D,HA<|.ref pb,Y,HA<|.ref G,HD,HD,HD,HD,HD]) rfl ?_;refine JM (u:=oy) vt ?_;have ix:∀{J:Hp},Same H12 J->Yq a.B J us (Jr O rv n) (LO Tt rv n):=λz=>RsL.rules gs (dr z) af;refine HL<|J0 F us (Jr O rv n) (LO Tt rv n) (VM rv n) ⟨Z,(av.trans dw) _ _ ah,ix<|av.trans dw,bw,λqh _ jk ki i8=>?_⟩;rw[OY,<- dj]at i8;have rj:=ki _ _ i5;have tq:qh≠G:=λz=>by rw[z,i5]at jk;cases jk
 refine⟨_,Z,⟨_,SqL.of i8⟩,KE (K:=K) (a:=qh) (xs:=((An n).map λi=>(ts i).name).map V.str) (λi σ J=>Same c7 J/\J qh=HA (.lst<|((An n).map λi=>(ts i).name).map V.str)/\(∃p:tT,J G=HA (.dK<|Im i ts p)/\∀j<i,J (p j)=HA (.lst [])/\c7 (p j)=HD/\p j≠G/\p j≠qh/\∀j'<j,p j'≠p j)/\∃X:tX,σ=[HA<|.ref l,HA<|.ref pn,HA<|.ref F,HA<|.int first,HA<|.ref s,HA<|.ref g,M,v7,HA<|.ref pa,HA<|.ref C,U,HA<|.ref D,HA<|.ref pb,Y,HA<|.ref G,X,HD,HD,HD,HD]) ⟨dw.trans ki,i8,⟨λ_=>G,rj,λj A=>absurd A<|Bj _⟩,HD,Z⟩ (λi σ J _ h=>SqL.of h.2.1) ?_ ?_⟩
 .intro i v σ J hv w';obtain⟨s3,j9,⟨p,kx,jj⟩,X,rfl⟩:=w';have S:i<n:=by have:=(Ac.mp hv).1;rwa[Ab,Ab,Ar]at this
  rw[Ai,Ai,AS S]at hv;cases hv;refine JC (σ':=[HA<|.ref l,HA<|.ref pn,HA<|.ref F,HA<|.int first,HA<|.ref s,HA<|.ref g,M,v7,HA<|.ref pa,HA<|.ref C,U,HA<|.ref D,HA<|.ref pb,Y,HA<|.ref G,HA<|.str (ts i).name,HD,HD,HD,HD]) rfl ?_;refine⟨JZ,λpi ni=>HY<|HP G _ ⟨Z,DPut.k (k:=.inr (ts i).name) (qx ni _ _ kx)<|Ym (BN XD)<|Az (Bt S)<|Az n4 Ud,?_⟩⟩;have kg:pi≠G:=λz=>by rw[z,kx]at ni;cases ni
  have jx:pi≠qh:=λz=>by rw[z,j9]at ni;cases ni
  have ml:∀j<i,pi≠p j:=λj A z=>by rw[z,(jj j A).1]at ni;cases ni
  rw[QN T0.nn S];refine⟨λb o e=>by rw[qr<|Iz e nh,qr<|Iz (s3 _ _ e) ni];exact s3 _ _ e,by rwa[qr tq,qr<|By jx],⟨put p i pi,qk,λj A=>?_⟩,_,Z⟩;by_cases z:j=i
  .subst z;rw[JB];exact⟨by rw[qr kg,qk],s3.free ni,kg,jx,λj' ad=>by rw[Iv<|AD ad];exact By<|ml j' ad⟩
  .have A:=rO A z;obtain⟨g1,g2,g3,g4,g5⟩:=jj j A;rw[Iv z];exact⟨by rwa[qr g3,qr<|By<|ml j A],g2,g3,g4,λj' ad=>by rw[Iv<|AD<|Nat.lt_trans ad A];exact g5 j' ad⟩
 intro σ _ w';obtain⟨lm,_,⟨p,io,ao⟩,X,rfl⟩:=w';refine JM (u:=uu) vz ?_;rw[Ab,Ab,Ar]at io ao;have inj:∀j<n,∀j'<n,p j=p j'->j=j':=λj A j' ad e=>by
  rcases Nat.lt_trichotomy j j' with h|h|h
  .exact absurd e<|(ao j' ad).2.2.2.2 j h
  .exact h
  .exact absurd e.symm<|(ao j A).2.2.2.2 j' h
 have j5:=aj.trans<|av.trans lm;refine HL<|HW pa uA cq ⟨Z,j5 _ _ ea,jh.same j5,gz,λpd bh uD ae km bu dh ma hd td=>?_⟩;have o7:=td.same bu;have iy:ae.length=fj:=dh.length_eq.trans la;have rq:(ae.map (·.1)).Nodup:=(dh.map (·.1)).nodup_iff.mpr ja;have mw:∀t∈ae,0<=t.2.2:=λt ht=>Bh f0<|fa t<|dh.mem_iff.mp ht;have ee:=td.length;rw[Ab]at ee;have jp:∀j<n,bh (p j)=HA (.lst []):=λj A=>bu _ _ (ao j A).1;have jt:∀b o,(∀us,o ≠ .lst us)->bh b=HA o->b∉pl n p:=λb o no e m=>by obtain⟨j,A,rfl⟩:=Wn m;rw[jp j A]at e;exact no _ (A8 e).symm
 obtain⟨B,eB⟩:∃B,B=Kb (pl n p) bh:=⟨_,Z⟩;have ng:Same B bh:=by rw[eB];exact oC λb o _ e=>e
 have R6:∀b o,b∉pl n p->bh b=HA o->B b=HA o:=λb o nb e=>by rw[eB];exact Tf nb e
 have pB:∀j<n,B (p j)=HD:=λj A=>by rw[eB];unfold Kb;rw[HI<|Mn A]
 have se:∀b o,B b=HA o->b∉pl n p:=λb o e m=>by obtain⟨j,A,rfl⟩:=Wn m;rw[pB j A]at e;cases e
 have gx:Same c7 B:=λb o e=>R6 b o (λm=>by obtain⟨j,A,rfl⟩:=Wn m;rw[(ao j A).2.1]at e;cases e)<|(lm.trans bu) _ _ e;have ka:=ji.same gx;have aw:=av.trans gx;have dB:B pd=HA (.lst uD):=R6 _ _ (λm=>by obtain⟨j,A,rfl⟩:=Wn m;rw[(ao j A).1]at km;cases km) hd;have ld:B G=HA (.dK<|Im n ts p):=R6 _ _ (jt G (.dK<|Im n ts p) sh<|bu _ _ io)<|bu _ _ io;have tB:Tups B uD (ae.map KA):=Kt o7 λb u e=>R6 _ _ (jt b (.tup u) sh e) e;have dk:=aj.trans aw;refine⟨_,Z,⟨_,SqL.of hd⟩,KE (K:=K) (a:=pd) (xs:=uD) (λm σ J=>Same B J/\OL (II wk yr) (ov rz) ts n p ae m J/\∃X ag:tX,σ=[HA<|.ref l,HA<|.ref pn,HA<|.ref F,HA<|.int first,HA<|.ref s,HA<|.ref g,M,v7,HA<|.ref pa,HA<|.ref C,U,HA<|.ref D,HA<|.ref pb,Y,HA<|.ref G,X,ag,HD,HD,HD]) ⟨ng,YA jp,_,_,Z⟩ (λm σ J _ h=>SqL.of<|h.1 _ _ dB) ?_ ?_⟩
 .intro m v σ J hv w';obtain⟨sJ,bq,X,ag,rfl⟩:=w';have hm:m<ae.length:=ee ▸ (Ac.mp hv).1;have ku:m<20:=Ay hm<|iy ▸ c8;have fg:=Nat.lt_trans ku (show 20<300 by decide);have em:=Ad hm;obtain⟨b,eb,qb⟩:=tB.get (i:=m) (r:=KA ae[m]) (by rw[Ai,em];rfl);rw[hv]at eb;cases eb;generalize ae[m]=ac at em qb;have hD:=QL ma em<|mw ac<|Au em;obtain⟨hH,hP,hZ,hN⟩:=id bq;have wb:=X7 rq em;refine JC (σ':=[HA<|.ref l,HA<|.ref pn,HA<|.ref F,HA<|.int first,HA<|.ref s,HA<|.ref g,M,v7,HA<|.ref pa,HA<|.ref C,U,HA<|.ref D,HA<|.ref pb,Y,HA<|.ref G,X,HA<|.ref b,HD,HD,HD]) rfl ?_;refine HL<|J0 F us (Jr O rv n) (LO Tt rv n) (VM rv n) ⟨Z,(aw.trans sJ) _ _ ah,ix<|aw.trans sJ,bw,λgf J1 nv s1 cw=>?_⟩;rw[OY,<- dj]at cw;have mt:gf∉pl n p:=λm=>by obtain⟨u,e⟩:=hH.ls _ m;rw[nv]at e;cases e
  generalize eZ:KB (II wk yr) (ov rz) ts n (ae.take m)=Zq at hH hP hZ hN;refine⟨_,Z,⟨_,SqL.of cw⟩,KE (K:=K) (a:=gf) (xs:=((An n).map λi=>(ts i).name).map V.str) (λi σ J'=>Same B J'/\J' gf=HA (.lst<|((An n).map λi=>(ts i).name).map V.str)/\LHeld n ts (tk (II wk yr) (ov rz) ts Zq ac i).1 p J'/\∃X:tX,σ=[HA<|.ref l,HA<|.ref pn,HA<|.ref F,HA<|.int first,HA<|.ref s,HA<|.ref g,M,v7,HA<|.ref pa,HA<|.ref C,U,HA<|.ref D,HA<|.ref pb,Y,HA<|.ref G,X,HA<|.ref b,HD,HD,HD]) ⟨sJ.trans s1,cw,hH.same s1,_,Z⟩ (λi σ J' _ h=>SqL.of h.2.1) ?_ ?_⟩
  .intro i v σ J' hv w';obtain⟨W,oe,e9,X,rfl⟩:=w';have S:i<n:=by have:=(Ac.mp hv).1;rwa[Ab,Ab,Ar]at this
   rw[Ai,Ai,AS S]at hv;cases hv;refine JC (σ':=[HA<|.ref l,HA<|.ref pn,HA<|.ref F,HA<|.int first,HA<|.ref s,HA<|.ref g,M,v7,HA<|.ref pa,HA<|.ref C,U,HA<|.ref D,HA<|.ref pb,Y,HA<|.ref G,HA<|.str (ts i).name,HA<|.ref b,HD,HD,HD]) rfl ?_;refine Vv<|Ic G pb D b n ts Zq _<|Ic p wk yr rz (m+1) i ac B ⟨Z,Z,W,pB,inj,W _ _ ld,e9,ka,T0,RV T0 hP aq hD fg<|Bt S,Az ku Ud,aq,Nf T0 hP aq hD fg hZ S,qwx hP hN wb i<|Bt S,λst hs z hz=>?_,jd i S,S,W _ _ qb,λJ2 k2 uk=>?_⟩
   .rw[Mh<|Al i]at hs;exact Bh ((hZ i S st hs).2 z hz) hD
   .exact⟨λbb o e=>k2 bb o (se bb o e)<|W _ _ e,k2 _ _ mt oe,uk,_,Z⟩
  .intro σ J' w';obtain⟨W,_,e9,X,rfl⟩:=w';rw[Ab,Ab,Ar]at e9;exact⟨W,qyk bq T0 aq em hD fg (by rwa[eZ]),_,_,Z⟩
 intro σ uf w';obtain⟨jv,bq,X,ag,rfl⟩:=w';refine JM (u:=rm) ug ?_;refine MV λuh ue vi um vg pj=>?_;rw[ee]at bq;obtain⟨hH,hP,hZ,_⟩:=bq;rw[Bc]at hH hP hZ;generalize eZ:KB (II wk yr) (ov rz) ts n ae=Zq at hH hP hZ;have vc:∀i<n,Yp (II wk yr) (ov rz) ts Zq i:=λi S b hb st mm hh=>((hZ b (CF hb S) st mm).1 hh).1;refine HL<|HP pa uA ⟨Z,.inl<|SqL.of<|(dk.trans jv) _ _ ea,λpk o9=>?_⟩;obtain⟨ir,mn⟩:=IY (o:=.lst uA) o9;generalize upd uf pk _=H20 at ir mn |-;refine JC (σ':=[HA<|.ref l,HA<|.ref pn,HA<|.ref F,HA<|.int first,HA<|.ref s,HA<|.ref g,M,v7,HA<|.ref pa,HA<|.ref C,U,HA<|.ref D,HA<|.ref pb,Y,HA<|.ref G,X,ag,HA<|.ref pk,HD,HD]) rfl ?_;refine JM (u:=uh) pj ?_;have jq:=jv.trans ir;have ai:=aw.trans jq;refine HL<|λbk gy kj jr _=>?_;have du:Same H20 (upd (upd H20 gy<|.own bk) bk<|.ins a.E gy []):=ph kj jr;refine K9 bk gy F us (Jr O rv n) (LO Tt rv n) ⟨VM rv n,Z,qk,du _ _<|ai _ _ ah,ix<|ai.trans du,bw,λc9 vv o0=>⟨Z,?_⟩⟩;have gu:Same H20 c9:=vv.made kj jr;have jg:=o0 c9 λb o _ e=>e;rw[OY,eO]at jg;have om:=jl (ai.trans gu) jg;have bc:=ai.trans gu;refine Jw<|λtb gc kh jf _=>?_;have ax:Same c9 (upd (upd c9 gc<|.own tb) tb<|.ins a.C gc []):=ph kh jf;refine Ic tb gc s (.ref C) (.ref g) wk yr rz ⟨Z,qk,ax _ _<|bc _ _ fz,.inr ⟨C,Z,fk.same<|bc.trans ax⟩,.inr ⟨g,Z,i4.same<|bc.trans ax⟩,fe,jz,dc,bf,λau oj tab=>⟨Z,?_⟩⟩;have me:Same c9 au:=oj.made kh jf;have nj:TabAt a.D a.C au tb (II wk yr) (ov rz):=tab au λb o _ e=>e;have ay:=gu.trans me;have am:=jq.trans ay;have jm:au Pt=HA (.tbl #[]):=(sF.trans<|dk.trans am) _ _ sg;have i3:=(dk.trans am) _ _ ea;have gj:=jh.same<|dk.trans am;refine HL<|Ic bk tb pa uA cq n ts (II wk yr) ⟨ov rz,Z,T0,om.same me,nj,j7.tab,aq,i3,gj,gz,λt ht=>Bh f0<|fa t ht,.inl jm,λd gw j6 q y _ _ mr _ iq mo hT mi _ _=>?_⟩;have ut:j6=ae:=qs4 (iq.trans dh.symm) ((iq.map (·.1)).nodup_iff.mpr ja) mo ma;rw[ut,eZ]at hT mi;refine JC (σ':=[HA<|.ref l,HA<|.ref pn,HA<|.ref F,HA<|.int first,HA<|.ref s,HA<|.ref g,M,v7,HA<|.ref pa,HA<|.ref C,U,HA<|.ref D,HA<|.ref pb,Y,HA<|.ref G,X,ag,HA<|.ref pk,HA<|.ref d,HD]) rfl ?_;refine JM (u:=ue) vg ?_;have ar:KpT au gw:=KpT.of jm mr;have j4:=am _ _ ld;have gn:=jH ar gj;refine HY ⟨2,Ud,.inl<|Qp (ar.l i3) (ar.l<|ay _ _ mn) gn gn Qo,_,Z,Ia<|HL<|HP d _ ⟨Z,hT.1,λl1 ol=>?_⟩⟩;have i7:gw G=HA (.dK<|Im n ts p):=ar _ _ sh j4;obtain⟨iu,ju⟩:=IY (o:=.lst<|(Im n ts q).map λkv=>kV kv.1) ol;generalize upd gw l1 _=H24 at iu ju |-;refine HL<|HP G _ ⟨Z,iu _ _ i7,λl2 va=>?_⟩;obtain⟨gb,i6⟩:=IY (o:=.lst<|(Im n ts p).map λkv=>kV kv.1) va;have cg:=gb _ _ ju;generalize upd H24 l2 _=H25 at gb i6 cg |-;rw[NR]at i6 cg;have cx:=iu.trans gb;refine⟨1,Ud,.inl<|Qq cg i6,_,Z,Ia ?_⟩;refine JM (u:=vi) um ?_;have lw:KpL au H25:=λb o _ n2 e=>cx _ _<|ar b o n2 e;have iz:=cx _ _ i7;have ib:=hT.same cx;have o3:=(hH.same<|ir.trans ay).kl lw;have mq:=(ka.same am).kl lw λkv e=>cx _ _<|ar _ _ sh e;have sj:d≠G:=λz=>by have h1:=mi.1;rw[z,j4]at h1;cases h1
 have oh:pb≠G:=λz=>by rw[z,nh]at im;cases im
 refine HL<|HP G _ ⟨Z,iz,λo=>⟨λi σ' J=>Same (upd H25 G<|.frz o<|.dK<|Im n ts p) J/\∃M X di:tX,σ'=[HA<|.ref l,HA<|.ref pn,HA<|.ref F,HA<|.int first,HA<|.ref s,HA<|.ref g,M,v7,HA<|.ref pa,HA<|.ref C,U,HA<|.ref D,HA<|.ref pb,Y,HA<|.ref G,X,ag,HA<|.ref pk,HA<|.ref d,di],⟨Same.refl _,_,_,_,Z⟩,λi σ' J h=>h.1 _ _ qk,?_,?_⟩⟩
 .intro i kv σ' J i9 w';obtain⟨sJ,M,X,di,rfl⟩:=w';obtain⟨S,rfl⟩:=jI i9;have kF:KpL H25 J:=λb u n1 n2 e=>sJ _ _ (by
   rw[qr]
   .exact e
   .rintro rfl;rw[iz]at e;exact n1 _ (A8 e).symm)
  have gm:J G=HA (.frz o<|.dK<|Im n ts p):=sJ _ _ qk;have dJ:J d=HA (.dK<|Im n ts q):=sJ _ _ (by rw[qr sj];exact ib.1);have lh:=o3.kl kF;have sf:=mq.kl kF λkv e=>sJ _ _ (by rwa[qr oh]);have mx:=(ib.2 i S).kp λb o ho e=>by
   rcases ho with ⟨u,rfl⟩|⟨u,rfl⟩
   .exact kF.l e
   .exact kF.t e
  obtain⟨us',hl,lu,ux⟩:=lh i S;have lz:us'.length<=1000:=by rw[lu];exact Az (hP.rl i S).1<|Az (iy ▸ c8) Ud
  refine JC (σ':=[HA<|.ref l,HA<|.ref pn,HA<|.ref F,HA<|.int first,HA<|.ref s,HA<|.ref g,M,v7,HA<|.ref pa,HA<|.ref C,U,HA<|.ref D,HA<|.ref pb,Y,HA<|.ref G,HA<|.str (ts i).name,ag,HA<|.ref pk,HA<|.ref d,di]) rfl ?_;refine⟨JZ,λpu gq=>?_⟩;obtain⟨cz,jy⟩:=IY (o:=.lst []) gq;generalize upd J pu _=J1 at cz jy |-;refine JC (σ':=[HA<|.ref l,HA<|.ref pn,HA<|.ref F,HA<|.int first,HA<|.ref s,HA<|.ref g,M,v7,HA<|.ref pa,HA<|.ref C,U,HA<|.ref D,HA<|.ref pb,Y,HA<|.ref G,HA<|.str (ts i).name,ag,HA<|.ref pk,HA<|.ref d,HA<|.ref pu]) rfl ?_;have bm:=rb (n:=us'.length) lz;refine(HY<|HP G _ ⟨Z,.inl<|HP _ (.inr (ts i).name) ⟨.inr ⟨o,cz _ _ gm⟩,Z,(Ph T0.nn S).symm⟩,_,_,Z,.inl ⟨_,SqL.of<|cz _ _ hl,Z⟩,_,Z,bm.1,bm.2,Mj (lo:=0) (n:=((us'.length:Int)).toNat) (λj σ J'=>Same J J'/\(∃ws,J' pu=HA (.lst ws)/\ws.length=j/\∀j v,ws[j]?=HA v->∃q4 r4 r6,v=.ref q4/\AccAt J' q4 r4 r6 (Js<|(Zq i).getD j Hz) ((Zq i).getD j Hz) (ID (II wk yr) (ov rz) ts Zq 3 i<|(Zq i).getD j Hz) (Jm (II wk yr) (ov rz) ts Zq i<|(Zq i).getD j Hz)/\r4≠pu/\r6≠pu)/\∃M:tX,σ=[HA<|.ref l,HA<|.ref pn,HA<|.ref F,HA<|.int first,HA<|.ref s,HA<|.ref g,M,v7,HA<|.ref pa,HA<|.ref C,U,HA<|.ref D,HA<|.ref pb,Y,HA<|.ref G,HA<|.str (ts i).name,ag,HA<|.ref pk,HA<|.ref d,HA<|.ref pu]) ⟨cz,⟨[],jy,Z,λj v e=>by cases e⟩,_,Z⟩ ?_ ?_⟩)
  .intro j σ J' A w';obtain⟨W,⟨ws,df,al,ic⟩,M,rfl⟩:=w';rw[Bb]at A;rw[BD];refine JC (σ':=[HA<|.ref l,HA<|.ref pn,HA<|.ref F,HA<|.int first,HA<|.ref s,HA<|.ref g,HA<|.int (j:Int),v7,HA<|.ref pa,HA<|.ref C,U,HA<|.ref D,HA<|.ref pb,Y,HA<|.ref G,HA<|.str (ts i).name,ag,HA<|.ref pk,HA<|.ref d,HA<|.ref pu]) rfl ?_;have hv:=Ad A;have gp:=(ux j _ hv).more gq;obtain⟨x,hx⟩:∃x,us'[j]=.ref x:=by obtain⟨x,_,_,_,_,_,e,_⟩:=id gp;exact⟨x,e⟩
   rw[hx]at hv gp;refine HL ⟨.inl ⟨Z,_,SqL.of df⟩,HY<|HP G _ ⟨Z,.inl<|HP _ (.inr (ts i).name) ⟨.inr ⟨o,W _ _ gm⟩,Z,(Ph T0.nn S).symm⟩,HL<|Ib (W _ _ hl) (Jz hv)<|Vv<|Ic G pb D n ts Zq p wk<|K9 yr rz _ ae.length i j ⟨Z,.inr ⟨o,W _ _ gm⟩,lh.same W,sf.same W,T0,hP,aq,vc i S,S,Ay S n4,lu ▸ A,λqs J2 s2 _ si=>?_⟩⟩⟩;refine Ic x qs ts i ((Zq i).getD j Hz) _ _ (pu::pl n p) ⟨Z,gp.same<|W.trans s2,si,λq4 r4 r6 J3 s3 _ hA n4 n6=>?_⟩;have ig:=s2.trans s3;have cp:=ig _ _ df;refine HW _ _ _ ⟨Z,Z,cp,Ym (BN al)<|Az (Bt A) lz,?_⟩;have kp:∀b u,b≠pu->J3 b=HA u->upd J3 pu (.lst<|ws++[V.ref q4]) b=HA u:=λb u nb e=>by rwa[qr nb]
   have ne:∀{b:HC},b∉pu::pl n p->b≠pu:=λ{b} h z=>h (by rw[z];exact Am);refine⟨λb u e=>by rw[qr<|Iz e gq];exact ig _ _<|W _ _ e,⟨_,qk,by rw[Ae,al];rfl,λj' v e=>?_⟩,_,Z⟩;by_cases z:j'=j
   .rw[z,<- al,Ci]at e;cases e;rw[z];exact HW q4 r4 r6 ⟨Z,hA.but cp kp (ne n4)<|ne n6,ne n4,ne n6⟩
   .have ad:=(Ac.mp e).1;rw[Ae,AG]at ad;rw[AB (by rw[al]at ad |-;exact rO ad z)]at e;obtain⟨q5,r7,r8,e5,ua,n7,n8⟩:=ic j' v e;exact HW q5 r7 r8 ⟨e5,(ua.same ig).but cp kp n7 n8,n7,n8⟩
  .intro σ J' w';obtain⟨W,⟨ws,df,al,ic⟩,M,rfl⟩:=w';have aT:=mx.same W;refine(HY<|HP d _ ⟨Z,.inl<|HP _ (.inr (ts i).name) ⟨.inl<|W _ _ dJ,Z,(Ph T0.nn S).symm⟩,HL<|HP (.ref<|q i) (.ref pu) ⟨Z,.inr<|Hv (q i) pu _ ws ⟨Z,Z,.inl ⟨aT.1,df⟩,by rw[Ab,Ar,al,Bb,lu],by rwa[Ab,Ar,<- lu],λj _ y' ex ey=>?_⟩,λ_ s4=>⟨_,Z,Ia ⟨sJ.trans<|W.trans s4,_,_,_,Z⟩⟩⟩⟩);have A:j<(Zq i).length:=by have:=(Ac.mp ey).1;rwa[al,Bb,lu]at this
   rw[Ai,AS A]at ex;cases ex;obtain⟨q4,r4,r6,rfl,hA,_⟩:=ic j y' ey;have ok:=hP.ok i S _<|K8 A;have o2:=Az ok.rl (show 400<=1000 by decide);exact Q8 (aT.2 j A) hA (Az ok.pl o2) o2
 .intro σ' J w';obtain⟨sJ,M,X,di,rfl⟩:=w';exact k _
end
theorem DD {α:Type}{p:α->Prop}(h:∃x,p x):p h.choose:=h.choose_spec
set_option maxHeartbeats 4000000 in
theorem all_mk {l:PySem.W.OpenLaw}{w:HQ}{K:Ag}{h:HX}{mg:Str->tK}{fa:HC}(X:K.In h)(G:h.Ns A7 mg)(hfa:mg "law"=HA (.ref fa))
  {GV:tD}{He:tD}{Hh:tD}{Hk:tD}{Ho:tD}{Gy:tD}{Lw:tQ}{vsL:tO}{slL:tD}
  (FT:AM K A7 "Book"=HA (HA<|.ref EM))(Fm:AM K A7 "Counting"=HA (HA<|.ref BB))(Fc:AM K A7 "CourtDays"=HA (HA<|.ref BT))(Fx:AM K A7 "Pattern"=HA (HA<|.ref CC))(FU:AM K A7 "Rule"=HA (HA<|.ref EN))(G9:AM K A7 "Run"=HA (HA<|.ref Cl))(FG:AM K A7 "Table"=HA (HA<|.ref D2))(FH:AM K A7 "Weeks"=HA (HA<|.ref CT))(p0:Pm K BB "__init__" "Counting.__init__" cP f0)(p1:Pd K "kind_of" ZP f1)(p2:Pd K "is_whole" Zs f2)(p3:Pd K "is_stretch_of" cV f3)(p4:Pd K "place" Yz f4)(p5:Pd K "joined" ZO f5)(p6:Pd K "laid_over" Z4 f6)(p7:Pd K "overlay" Zr f7)(p8:Pm K BB "days_for" "Counting.days_for" eF f8)(p9:Pm K CT "days_for" "Weeks.days_for" cO f9)(p10:Pm K BB "reach" "Counting.reach" cY f10)(p11:Pd K "long_before" aX f11)(p12:Pm K CC "before_year" "Pattern.before_year" dF f12)(p13:Pm K CC "year_with" "Pattern.year_with" eE f13)(p14:Pd K "first_week" aD f14)(p15:Pm K CC "nth" "Pattern.nth" aW f15)(p16:Pd K "year_of" ZN f16)(p17:Pd K "weekday" Zp f17)(p18:Pd K "date_of" ZM f18)(p19:Pd K "day_of_year" aC f19)(p20:Pm K CC "before" "Pattern.before" cX f20)(p21:Pm K D2 "shift" "Table.shift" aV f21)(p22:Pm K D2 "before" "Table.before" cU f22)(p23:Pm K D2 "nth" "Table.nth" Z3 f23)(p24:Pm K BT "reach" "CourtDays.reach" cZ f24)(p25:Pm K BB "counted_in" "Counting.counted_in" c5 f25)(p26:Pm K BT "counted_in" "CourtDays.counted_in" eC f26)(p27:Pd K "full_day" Zo f27)(p28:Pm K D2 "next_open" "Table.next_open" cy f28)(p29:Pd K "first_due" Z2 f29)(p30:Pd K "last_day" Zn f30)(a31:AM K A7 "in_order"=HA (HA<|.ref f31))(l31:K.lookup f31=HA ⟨GW,GT,.func<|Bl "in_order" "in_order" (KO Po) (Jv Po) (Iy Po) .none GX GY GZ GU (.ref cL) Hc,GV⟩)(c31:BG K (.ref cL) "in_order"=HG)(k31:Bw K (.ref f31)=HG)(p32:Pm K EM "hanging" "Book.hanging" cT f32)(p33:Pm K EM "rule_of" "Book.rule_of" cG f33)(p34:Pm K Cl "is_over" "Run.is_over" aB f34)(p35:Pd K "is_running" aU f35)(p36:Pm K EN "role_in_still" "Rule.role_in_still" eD f36)(p37:Pm K EN "role" "Rule.role" Xk f37)(p38:Pm K Cl "is_halted" "Run.is_halted" cS f38)(p39:Pm K Cl "go_on" "Run.go_on" Zl f39)(p40:Pm K Cl "finish" "Run.finish" aS f40)(p41:Pm K Cl "lasts_to" "Run.lasts_to" Pr f41)(p42:Pm K Cl "starts_on" "Run.starts_on" Pq f42)(p43:Pm K Cl "is_under_way" "Run.is_under_way" ck f43)(p44:Pm K Cl "set_out" "Run.set_out" aR f44)(p45:Pm K Cl "begin_anew" "Run.begin_anew" cN f45)(p46:Pm K Cl "lengthen" "Run.lengthen" cR f46)(p47:Pm K Cl "halt" "Run.halt" Zk f47)(p48:Pm K Cl "works" "Run.works" Z1 f48)(p49:Pm K Cl "feel" "Run.feel" Zj f49)(a50:Bf K (.ref Cl) "__init__"=HA (HA<|.ref f50))(t50:CD K (.ref f50)=HA (.type "function"))(l50:K.lookup f50=HA ⟨Hf,Hd,.func<|Bl "__init__" "Run.__init__" (KO Oa) (Jv Oa) (Iy Oa) GF GB GC GD GA Gs GE,He⟩)(c50:BG K Gs "Run.__init__"=HG)(k50:Bw K (.ref f50)=HG)(pk50:∀(u0 u1 u2 u3 u4 u5:HE)(S:Setting),Dp K S (bindArgs (Bl "__init__" "Run.__init__" (KO Oa) (Jv Oa) (Iy Oa) GF GB GC GD GA Gs GE) ⟨[u0,u1,u2,u3,u4,u5],[]⟩)=HA [(Aa "self",u0),(Aa "rule",u1),(Aa "table",u2),(Aa "name",u3),(Aa "day",u4),(Aa "base",u5)])(p51:Pd K "take" Yt f51)(p52:Pm K Cl "state_word" "Run.state_word" cM f52)(p53:Pm K Cl "account" "Run.account" cF f53)(p54:Pd K "history" Xg f54)(p55:Pd K "untaken" Zi f55)(p56:Pd K "hanging_order" cK f56)(p57:Pd K "is_free_within" Xu f57)(p58:Pd K "counted_up" aP f58)(p59:Pd K "is_weekday" aM f59)(p60:Pd K "refuse_week" cE f60)(p61:Pd K "is_yearly" Z0 f61)(p62:Pd K "refuse_yearly" cJ f62)(p63:Pd K "list_or_empty" cQ f63)(p64:Pd K "is_row" Yy f64)(p65:Pd K "refuse_rows" cD f65)(p66:Pd K "_law_cell_at" aK f66)(p67:Pd K "_law_mixed" Zz f67)(p68:Pd K "_law_words" Zy f68)(a69:Bf K (.ref EN) "__init__"=HA (HA<|.ref f69))(t69:CD K (.ref f69)=HA (.type "function"))(l69:K.lookup f69=HA ⟨Hi,Hg,.func<|Bl "__init__" "Rule.__init__" (KO Oc) (Jv Oc) (Iy Oc) GL GH GI GJ GG Gu GK,Hh⟩)(c69:BG K Gu "Rule.__init__"=HG)(k69:Bw K (.ref f69)=HG)(pk69:∀(u0 u1 u2 u3 u4 u5 u6 u7 u8:HE)(S:Setting),Dp K S (bindArgs (Bl "__init__" "Rule.__init__" (KO Oc) (Jv Oc) (Iy Oc) GL GH GI GJ GG Gu GK) ⟨[u0,u1,u2,u3,u4,u5,u6,u7,u8],[]⟩)=HA [(Aa "self",u0),(Aa "name",u1),(Aa "who",u2),(Aa "owes",u3),(Aa "opens",u4),(Aa "base",u5),(Aa "many",u6),(Aa "unit",u7),(Aa "still",u8)])(p70:Pd K "_law_rule" Xf f70)(p71:Pd K "_law_book" Zh f71)(p72:Pd K "_law_menu" Xe f72)(p73:Pd K "_law_acts" Xd f73)(p74:Pd K "_law_hanging" cC f74)(p75:Pd K "_law_sorted" aJ f75)(p76:Pd K "_law_alike" Ob f76)(p77:Pd K "_law_year_day" cB f77)(p78:Pd K "_law_free" Zg f78)(p79:Pd K "_law_still" Zx f79)(p80:Pd K "_law_walked" aI f80)(p81:Pd K "_law_span" OZ f81)(p82:Pd K "_law_shut" Zf f82)(p83:Pd K "_law_turned" aH f83)(p84:Pd K "_law_met" ZL f84)(p85:Pd K "_law_account" aZ f85)(p86:Pm K EM "__init__" "Book.__init__" Zw f86)(p87:Pm K CC "__init__" "Pattern.__init__" Vs f87)(a88:Bf K (.ref D2) "__init__"=HA (HA<|.ref f88))(t88:CD K (.ref f88)=HA (.type "function"))(l88:K.lookup f88=HA ⟨Hl,Hj,.func<|Bl "__init__" "Table.__init__" (KO Of) (Jv Of) (Iy Of) GR GN GO GP GM Gv GQ,Hk⟩)(c88:BG K Gv "Table.__init__"=HG)(k88:Bw K (.ref f88)=HG)(pk88:∀(u0 u1 u2 u3:HE)(S:Setting),Dp K S (bindArgs (Bl "__init__" "Table.__init__" (KO Of) (Jv Of) (Iy Of) GR GN GO GP GM Gv GQ) ⟨[u0,u1,u2,u3],[]⟩)=HA [(Aa "self",u0),(Aa "week",u1),(Aa "yearly",u2),(Aa "rows",u3)])(a89:AM K A7 "law"=HA (HA<|.ref f89))(l89:K.lookup f89=HA ⟨Hq,Hm,.func<|Bl "law" "law" (KO RT) (Jv RT) (Iy RT) .none Hr Hs Ht Hn GS Hu,Ho⟩)(c89:BG K GS "law"=HG)(k89:Bw K (.ref f89)=HG)(Gh:AM K A7 "any"=HA HD)(Ga:AM K A7 "bool"=HA HD)(Fn:AM K A7 "enumerate"=HA HD)(Gi:AM K A7 "int"=HA HD)(Fd:AM K A7 "isinstance"=HA HD)(Gj:AM K A7 "len"=HA HD)(Gb:AM K A7 "list"=HA HD)(Gk:AM K A7 "max"=HA HD)(Gm:AM K A7 "min"=HA HD)(FV:AM K A7 "range"=HA HD)(Fy:AM K A7 "reversed"=HA HD)(FI:AM K A7 "sorted"=HA HD)(Gp:AM K A7 "str"=HA HD)(FW:AM K A7 "tuple"=HA HD)(ET:AM K A7 "MOST_WEEKDAYS"=HA (HA<|.int 6 FE))(F8:AM K A7 "MOST_YEARLY"=HA (HA<|.int 4 FR))(EF:AM K A7 "MOST_YEARLY_DAYS"=HA (HA<|.int 30 FC))(Fe:AM K A7 "SHORT_YEAR"=HA (HA<|.int 364 G6))(Fo:AM K A7 "LONG_YEAR"=HA (HA<|.int 371 G7))(Fp:AM K A7 "MOST_ROWS"=HA (HA<|.int 12 G8))(EU:AM K A7 "MOST_ROW_DAYS"=HA (HA<|.int 40 FF))(Gc:AM K A7 "TURN"=HA (HA<|.int 17 Gz))(EO:AM K A7 "DAYS_OF_A_WEEK"=HA (HA<|.int 7 FD))(FX:AM K A7 "WORDS"=HA (HA<|.ref FS))(FJ:K.lookup FS=HA ⟨.type "tuple",Gw,.seq #[.str (Aa "free") Gq,.str (Aa "open") Gr] Gx,Gy⟩)(lcL:K.lookup cL=HA ⟨ocL,Lw,.fields vsL,slL⟩)(vL:vsL[11]?=HA (.ref PL))(FY:OQ K EM=HG)(FZ:Og K EM f86=HG)(G0:Kp K EM K4=HG)(EV:I0 K EM "hanging" f32=HG)(F3:I0 K EM "rule_of" f33=HG)(Fq:OQ K BB=HG)(Fr:Og K BB f0=HG)(Fs:Kp K BB K4=HG)(J7:I0 K BB "counted_in" f25=HG)(fv:I0 K BB "days_for" f8=HG)(sT:I0 K BB "reach" f10=HG)(Ft:VQ K BB=HG)(mX:(AK K (.ref BB) (.ref BB) == HA HG)=HG)(sU:(AK K (.ref BB) (.ref CT) == HA HH)=HG)(dt:(AK K (.ref BB) (.ref BT) == HA HH)=HG)(EC:I0 K BB "days_for" f8=HG)(EH:I0 K BB "reach" f10=HG)(Ds:I0 K BB "counted_in" f25=HG)(Ff:OQ K BT=HG)(Fg:Og K BT f0=HG)(Fh:Kp K BT K4=HG)(E1:I0 K BT "counted_in" f26=HG)(bB:I0 K BT "days_for" f8=HG)(oD:I0 K BT "reach" f24=HG)(Fi:VQ K BT=HG)(da:(AK K (.ref BT) (.ref BB) == HA HG)=HG)(pz:(AK K (.ref BT) (.ref CT) == HA HH)=HG)(Ha:(AK K (.ref BT) (.ref BT) == HA HG)=HG)(EG:I0 K BT "reach" f24=HG)(D3:I0 K BT "counted_in" f26=HG)(Fz:OQ K CC=HG)(FA:Og K CC f87=HG)(FB:Kp K CC K4=HG)(EB:I0 K CC "before_year" f12=HG)(ED:I0 K CC "year_with" f13=HG)(F4:I0 K CC "nth" f15=HG)(EI:I0 K CC "before" f20=HG)(G3:OQ K EN=HG)(G4:Og K EN f69=HG)(G5:Kp K EN K4=HG)(EE:I0 K EN "role_in_still" f36=HG)(Fj:I0 K EN "role" f37=HG)(Ge:OQ K Cl=HG)(Gf:Og K Cl f50=HG)(Gg:Kp K Cl K4=HG)(F9:I0 K Cl "is_over" f34=HG)(EW:I0 K Cl "is_halted" f38=HG)(Fu:I0 K Cl "go_on" f39=HG)(Fa:I0 K Cl "finish" f40=HG)(F5:I0 K Cl "lasts_to" f41=HG)(EY:I0 K Cl "starts_on" f42=HG)(EJ:I0 K Cl "is_under_way" f43=HG)(Fb:I0 K Cl "set_out" f44=HG)(EQ:I0 K Cl "begin_anew" f45=HG)(EZ:I0 K Cl "lengthen" f46=HG)(Fv:I0 K Cl "halt" f47=HG)(Fk:I0 K Cl "works" f48=HG)(Fw:I0 K Cl "feel" f49=HG)(ER:I0 K Cl "state_word" f52=HG)(F6:I0 K Cl "account" f53=HG)(FK:OQ K D2=HG)(FL:Og K D2 f88=HG)(FM:Kp K D2 K4=HG)(F7:I0 K D2 "shift" f21=HG)(F0:I0 K D2 "before" f22=HG)(Fl:I0 K D2 "nth" f23=HG)(EK:I0 K D2 "next_open" f28=HG)(FN:OQ K CT=HG)(FO:Og K CT f0=HG)(FP:Kp K CT K4=HG)(nR:I0 K CT "counted_in" f25=HG)(qw:I0 K CT "days_for" f9=HG)(sX:I0 K CT "reach" f10=HG)(FQ:VQ K CT=HG)(sV:(AK K (.ref CT) (.ref BB) == HA HG)=HG)(sY:(AK K (.ref CT) (.ref CT) == HA HG)=HG)(oi:(AK K (.ref CT) (.ref BT) == HA HH)=HG)(ES:I0 K CT "days_for" f9=HG)(tnL:K.lookup PL=HD)
  : ∃(fd:BC)(c Pt:HC),(∀(s:Af)(v:HE),BindsTo s fd ⟨[v],[]⟩ [("_law_script",v)])/\PySem.W.tabIn K "in_order"=HA (c,Pt)/\K.lookup Pt=HD/\∀base:HX,K.In base->base.Ns A7 mg->Lam.LamF mg base c Pt->FnOk l.prog w K mg base Hw 25 fa fd ["_law_script"] (Yx K Pt):=by
 have e:=hfa.symm.trans<|Be X G a89;cases e;have F31:=Y1 (st:=Po) l31 c31 k31;have b31:=F31.binds (ps:=["acts"]) λ_ _ _ _ _ _=>OI λ_=>rfl;have F50:=j3 (st:=Oa) l50 c50 k50;have b50:Binds K _ ["self","rule","table","name","day","base"] []:=jR (ds:=[]) λus hl S=>Q3 (p:=λus=>Dp K S (bindArgs _ ⟨us,[]⟩)=HA (List.zip (["self","rule","table","name","day","base"]:tG)<|us++[])) (λu0 u1 u2 u3 u4 u5=>pk50 u0 u1 u2 u3 u4 u5 S) us (by rwa[Br]at hl);have F69:=j3 (st:=Oc) l69 c69 k69;have b69:Binds K _ ["self","name","who","owes","opens","base","many","unit","still"] []:=jR (ds:=[]) λus hl S=>rZ (p:=λus=>Dp K S (bindArgs _ ⟨us,[]⟩)=HA (List.zip (["self","name","who","owes","opens","base","many","unit","still"]:tG)<|us++[])) (λu0 u1 u2 u3 u4 u5 u6 u7 u8=>pk69 u0 u1 u2 u3 u4 u5 u6 u7 u8 S) us (by rwa[Br]at hl);have F88:=j3 (st:=Of) l88 c88 k88;have b88:Binds K _ ["self","week","yearly","rows"] []:=jR (ds:=[]) λus hl S=>Q4 (p:=λus=>Dp K S (bindArgs _ ⟨us,[]⟩)=HA (List.zip (["self","week","yearly","rows"]:tG)<|us++[])) (λu0 u1 u2 u3=>pk88 u0 u1 u2 u3 S) us (by rwa[Br]at hl);have F89:=Y1 (st:=RT) l89 c89 k89;have b89:=F89.binds (ps:=["_law_script"]) λ_ _ _ _ _ _=>OI λ_=>rfl;have T:Txt K mg (.mk ..):=⟨DD<|JK p0,DD<|Il X G p1,DD<|Il X G p2,DD<|Il X G p3,DD<|Il X G p4,DD<|Il X G p5,DD<|Il X G p6,DD<|Il X G p7,DD<|JK p8,DD<|JK p9,DD<|JK p10,DD<|Il X G p11,DD<|JK p12,DD<|JK p13,DD<|Il X G p14,DD<|JK p15,DD<|Il X G p16,DD<|Il X G p17,DD<|Il X G p18,DD<|Il X G p19,DD<|JK p20,DD<|JK p21,DD<|JK p22,DD<|JK p23,DD<|JK p24,DD<|JK p25,DD<|JK p26,DD<|Il X G p27,DD<|JK p28,DD<|Il X G p29,DD<|Il X G p30,⟨F31,Be X G a31,b31⟩,DD<|JK p32,DD<|JK p33,DD<|JK p34,DD<|Il X G p35,DD<|JK p36,DD<|JK p37,DD<|JK p38,DD<|JK p39,DD<|JK p40,DD<|JK p41,DD<|JK p42,DD<|JK p43,DD<|JK p44,DD<|JK p45,DD<|JK p46,DD<|JK p47,DD<|JK p48,DD<|JK p49,⟨F50,b50,t50⟩,DD<|Il X G p51,DD<|JK p52,DD<|JK p53,DD<|Il X G p54,DD<|Il X G p55,DD<|Il X G p56,DD<|Il X G p57,DD<|Il X G p58,DD<|Il X G p59,DD<|Il X G p60,DD<|Il X G p61,DD<|Il X G p62,DD<|Il X G p63,DD<|Il X G p64,DD<|Il X G p65,DD<|Il X G p66,DD<|Il X G p67,DD<|Il X G p68,⟨F69,b69,t69⟩,DD<|Il X G p70,DD<|Il X G p71,DD<|Il X G p72,DD<|Il X G p73,DD<|Il X G p74,DD<|Il X G p75,DD<|Il X G p76,DD<|Il X G p77,DD<|Il X G p78,DD<|Il X G p79,DD<|Il X G p80,DD<|Il X G p81,DD<|Il X G p82,DD<|Il X G p83,DD<|Il X G p84,DD<|Il X G p85,DD<|JK p86,DD<|JK p87,⟨F88,b88,t88⟩,⟨F89,Be X G a89,b89⟩,Be X G FT,Rk FY,Ra FZ,G0,JA EV,JA F3,Be X G Fm,Rk Fq,Ra Fr,Fs,JA J7,JA fv,JA sT,Ft,HU.mp mX,HU.mp sU,HU.mp dt,JA EC,JA EH,JA Ds,Be X G Fc,Rk Ff,Ra Fg,Fh,JA E1,JA bB,JA oD,Fi,HU.mp da,HU.mp pz,HU.mp Ha,JA EG,JA D3,Be X G Fx,Rk Fz,Ra FA,FB,JA EB,JA ED,JA F4,JA EI,Be X G FU,Rk G3,Ra G4,G5,JA EE,JA Fj,Be X G G9,Rk Ge,Ra Gf,Gg,JA F9,JA EW,JA Fu,JA Fa,JA F5,JA EY,JA EJ,JA Fb,JA EQ,JA EZ,JA Fv,JA Fk,JA Fw,JA ER,JA F6,Be X G FG,Rk FK,Ra FL,FM,JA F7,JA F0,JA Fl,JA EK,Be X G FH,Rk FN,Ra FO,FP,JA nR,JA qw,JA sX,FQ,HU.mp sV,HU.mp sY,HU.mp oi,JA ES,Bq X G Gh,Bq X G Ga,Bq X G Fn,Bq X G Gi,Bq X G Fd,Bq X G Gj,Bq X G Gb,Bq X G Gk,Bq X G Gm,Bq X G FV,Bq X G Fy,Bq X G FI,Bq X G Gp,Bq X G FW,⟨_,Be X G ET⟩,⟨_,Be X G F8⟩,⟨_,Be X G EF⟩,⟨_,Be X G Fe⟩,⟨_,Be X G Fo⟩,⟨_,Be X G Fp⟩,⟨_,Be X G EU⟩,⟨_,Be X G Gc⟩,⟨_,Be X G EO⟩,Be X G FX,λH=>.inr ⟨_,_,_,FJ,rfl,rfl,by show 2<=A4;rw[Bv];decide,.cons ⟨_,rfl⟩<|.cons ⟨_,rfl⟩<|.nil⟩⟩;exact⟨_,cL,PL,λs v=>.of_eq rfl,Lam.tab_mk a31 l31 rfl lcL vL,tnL,λbase _ _ LF=>X4 T rfl LF⟩
theorem walk {l:PySem.W.OpenLaw}{q:AJ}{loose:tG}{XP:(Str->tK)->HX->Prop}{YP:HQ->HX->Prop}{d d':DefRec}{K:Params->Ag}(hn:l.most=HA 63)(hdf:d.params.defaults=[])(hrec:(PyProof.Rows.recsOf q).find? (λe=>e.name == ("in_order" : Str))=HA d')
  (hY:∀(w:HQ)(h:HX),YP w h->(K w.params).In h)
  (F:∀(w:HQ)(mg:Str->tK)(fa:HC)(h:HX),(K w.params).In h->h.Ns A7 mg->mg d.name=HA (.ref fa) ->
   ∃(fd:BC)(c Pt:HC),(∀(s:Af)(u:HE),BindsTo s fd ⟨[u],[]⟩ [("_law_script",u)])/\PySem.W.tabIn (K w.params) "in_order"=HA (c,Pt)/\(K w.params).lookup Pt=HD /\
    ∀base:HX,(K w.params).In base->base.Ns A7 mg->Lam.LamF mg base c Pt->FnOk l.prog w (K w.params) mg base Hw 25 fa fd ["_law_script"] (Yx (K w.params) Pt)) :
  PySem.W.WalkO q loose XP YP l.row.toRowW d [] (λf vs=>PySem.call f vs) :=
 Lam.walk_tab (n:=63) (k:=25) (x := "_law_script") (dn := "in_order") (CX:=λ_=>Hw) (sp:=λw Pt=>Yx (K w.params) Pt) hn Ud hdf ⟨rfl,Ud,Ud⟩ hrec hY F (λ_ _ a Pt ns hl hP hS=>⟨a,ns,rfl,hS,hl,hP,λ_=>rfl⟩) λ_ _ _ _ _ z=>z
end K58
noncomputable section
namespace PySem.W.Fast
def tw7056428588912177755:=()
def tw3972419217684816859:=()
def tw13987474629435323907:=()
def tw2601881165085844146:=()
def tw12664695667003939372:=()
def tw12924479762800416106:=()
def tw14776684548153546722:=()
def tw6492459150446741839:=()
def tw3250867103735289334:=()
def tw5437052947028002708:=()
def tw15025988924044357078:=()
def tw4557322976204011232:=()
def tw10996016072832941060:=()
def tw12163762179156634383:=()
def tw2876818454934991853:=()
def tw13252877556600693565:=()
def tw14014729670768269617:=()
def tw11407127882105222516:=()
def tw1425695782488307297:=()
def tw13496222521851577950:=()
def tw4877955316942189205:=()
def tw407186651286798369:=()
def tw15716052871146210772:=()
def tw15250734449424035867:=()
def tw6303911839606734907:=()
def tw12015554827285994264:=()
def tw15415207032658080109:=()
def tw13107721369314910248:=()
def tw16634894278616513079:=()
def tw6168283363648218810:=()
def tw6106560492479651744:=()
def tw7057325822116447200:=()
def tw9019772683413063919:=()
def tw4479129179212589818:=()
def tw18071823914669376456:=()
def tw7338721301012024824:=()
def tw958175763406603883:=()
def tw17426324146962657990:=()
def tw6254880703151133149:=()
def tw3392089335984419259:=()
def tw12898274233399073072:=()
def tw3414025860453545697:=()
def tw819285145848587929:=()
def tw10444209405157900525:=()
def tw3623556747526350355:=()
def tw12608039600881009627:=()
def tw7324041716771584040:=()
def tw11044678044087486157:=()
def tw15586199795587611480:=()
def tw376040753365096504:=()
def tw9139420431024746649:=()
def tw14616264396138672965:=()
def tw15043247442025499449:=()
def tw15439482869569089898:=()
def tw8380161188125771079:=()
def tw5584214615668580409:=()
def tw11763484025742254838:=()
def tw743234616449689213:=()
def tw11569467175866562883:=()
def tw9674392826960295927:=()
def tw432173673441736575:=()
def tw4360921781157564590:=()
def tw4128873146299781552:=()
def tw18094108967058188376:=()
def tw4413921916270986412:=()
def tw14101980909177150784:=()
def tw304545600217212738:=()
def tw4050479049021919634:=()
def tw12767317047972178674:=()
def tw263618609403578450:=()
def tw14756954096099744568:=()
def tw531218720301510005:=()
def tw14621341076411268806:=()
def tw4563354190550649408:=()
def tw11903025312110593280:=()
def tw14941721387713759698:=()
def tw11697920157104315560:=()
def tw15167973081483031309:=()
def tw12516726072327919358:=()
def tw13152599414856101788:=()
def tw4267440397479053704:=()
def tw16410612897627625150:=()
def tw12867477878353793256:=()
def tw8219037885305998487:=()
def tw1517626332099304628:=()
def tw415297208966690070:=()
def tw4343275678837891838:=()
def tw10431444695999570512:=()
def tw2181077635206372311:=()
def tw8378946257390210502:=()
def tw12783608680915964639:=()
def tw2707084093961803780:=()
def tw9836976628774688148:=()
def tw6171666815995967580:=()
def tw7064642083680599837:=()
def tw4367664775403930895:=()
def tw4594737600915397043:=()
def tw17041638179959549649:=()
def tw6563130481499173636:=()
def tw7372483246741799390:=()
def tw2073083049412335347:=()
def tw4985984627732656134:=()
def tw3415385907024724359:=()
def tw6897713549268379919:=()
def tw5513743287219071407:=()
def tw3491093936696088663:=()
def tw8259762388283141483:=()
def tw3213366542110324476:=()
def tw14464454615048610330:=()
def tw12735988920109908340:=()
def tw13460348897551756270:=()
def tw12700758967041123809:=()
def tw3010628323404431064:=()
def tw14010288296444684616:=()
def tw2123460304225218126:=()
def tw17997215497143667997:=()
def tw2010377193736880505:=()
def tw11269712854188190196:=()
def tw13315050498976550093:=()
def tw15186978643778096400:=()
def tw13327015016742637693:=()
def tw2112244041158498711:=()
def tw2076912745661656025:=()
def tw739608262234513448:=()
def tw14128515990845563913:=()
def tw17179726383696026811:=()
def tw16172405554727478262:=()
def tw14379443795707444118:=()
def tw16922866555822529018:=()
def tw1284256445233246054:=()
def tw6395870637492598877:=()
def tw16374205168476537224:=()
def tw15206052810359927012:=()
def tw8135361654551095683:=()
def tw8914070860140865174:=()
def tw5045474881170808088:=()
def tw3735670848504168444:=()
def tw4582191074668594388:=()
def tw3026969878564815979:=()
def tw2334926040637639061:=()
def tw16363538247958871930:=()
def tw10547403254669553032:=()
def tw12656984093238479419:=()
def tw10265176838339875599:=()
def tw7918745687363470004:=()
def tw17000915294456180999:=()
def tw7595900434438953421:=()
def tw4123732816534951928:=()
def tw4223877878283343859:=()
def tw15786750976920375051:=()
def tw6920175781796813321:=()
def tw5000761654277533:=()
def tw4236769786201797576:=()
def tw8009911685336212206:=()
def tw3788175908138142734:=()
def tw7034456975140993879:=()
def tw8565808919735207253:=()
def tw11447111218052881124:=()
def tw3819318654332492470:=()
def tw580595025456190267:=()
def tw15780911169816963675:=()
def tw7900385581871240267:=()
def tw2667543944735818796:=()
def tw4533885061317102468:=()
def tw11375210094617051369:=()
def tw3851836601247595420:=()
def tw6532277121576247880:=()
def tw2503596143262241296:=()
def tw11841468490717924046:=()
def tw1628702484759261081:=()
def tw5919732426238212166:=()
def tw17722151991335325481:=()
def tw3332203419467503118:=()
def tw2559885220308449053:=()
def tw14177289821703601348:=()
def tw2718346148478427203:=()
def tw15672933731126265351:=()
def tw15277996179419896162:=()
def tw4335305523758884934:=()
def tw1596071045059446855:=()
def tw13211409022244131321:=()
def tw4095592600855040289:=()
def tw14995053053950093075:=()
def tw7991160584994428627:=()
def tw16558356644417558376:=()
def tw12866186172516680764:=()
def tw951666264811113583:=()
def tw6600235742525542171:=()
def tw15837656081964959985:=()
def tw11189666408599323974:=()
def tw4352479902863313673:=()
def tw16934641474093331268:=()
def tw4038154277770177308:=()
def tw12374118594661173493:=()
def tw6766836223368347569:=()
def tw4447156724835415810:=()
def tw4615903134362566312:=()
def tw5504682146767731998:=()
def tw15869633238182658876:=()
def tw10025304282382275122:=()
def tw1988334486517398090:=()
def tw17649736850439331137:=()
def tw9707383079857137382:=()
def tw12021780855483599098:=()
def tw9046911888081322316:=()
def tw6104540731293043785:=()
def tw2615200926359662025:=()
def tw574364031870376839:=()
def tw10338279233616985787:=()
def tw3084385404398009096:=()
def tw4478626383435131839:=()
def tw8336632266136107336:=()
def tw694195352789724966:=()
def tw15518290655059637117:=()
def tw7965904386604650621:=()
def tw5390859315795236016:=()
def tw2464646941433810758:=()
def tw4371460434581953858:=()
def tw2909520307500300176:=()
def tw16516765707443527683:=()
def tw1010036227011162704:=()
def tw101220180061086740:=()
def tw2976747739090511247:=()
def tw7257939301238153723:=()
def tw16624206262353318921:=()
def tw5739967056575397471:=()
def tw13460970174924403762:=()
def tw945616284717941977:=()
def tw11177025942729289650:=()
def tw5853755021271926372:=()
def tw5622074852130030842:=()
def tw6809627853046974693:=()
def tw7087070585325624768:=()
def tw18019848755407785446:=()
def tw5083802956539344190:=()
def tw1821324259962817307:=()
def tw11868663590672110209:=()
def tw17433652253981445742:=()
def tw6662816004475364142:=()
def tw500831662449136133:=()
def tw6942458953438488566:=()
def tw14333987730143859855:=()
def tw18173029937813896734:=()
def tw14330058374394573312:=()
def tw2375359432823861343:=()
def tw8066136319886152395:=()
def tw7498134696450353591:=()
def tw7869081771358507112:=()
def tw11290242111721505439:=()
def tw18148181628188003864:=()
def tw18039605507729984271:=()
def tw7587302592122083873:=()
def tw4646161855270098886:=()
def tw1339762866050315266:=()
def tw395274715002067686:=()
def tw5521834808087986427:=()
def tw18084179637146280971:=()
def tw15825453595272626534:=()
def tw15984116390329535362:=()
def tw15391910147053350722:=()
def tw18366613282480958025:=()
def tw12052731101048625264:=()
def tw4485992522620594204:=()
def tw222984079143438244:=()
def tw3184878254689218513:=()
def tw17501498357730441296:=()
def tw17267950891372617515:=()
def tw14651272233177266730:=()
def tw5956702717603313866:=()
def tw10006069997034645158:=()
def tw13383640546186164550:=()
def tw3166352501944072804:=()
def tw18114879427229942986:=()
def tw8488511286129053536:=()
def tw1937315633376692192:=()
def tw17360497411338579336:=()
def tw560294199448058631:=()
def tw8022274555375570245:=()
def tw3925156883952726148:=()
def tw9318153484774462861:=()
def tw14174911692277047990:=()
def tw3676925202563702786:=()
def tw2774465937006142918:=()
def tw6274745468897999266:=()
def tw15056475041612472155:=()
def tw10458133484139732390:=()
def tw8073850545620882863:=()
def tw2708759376683655577:=()
def tw17974708828381909550:=()
def tw14969532330704592651:=()
def tw14486763224448018420:=()
def tw5632403769872621155:=()
def tw6399843199800419745:=()
def tw12473814019055727361:=()
def tw17563766584643347462:=()
def tw5017752066487559851:=()
def tw12993742738802974860:=()
def tw13944283769372675045:=()
def tw9206448679628933837:=()
def tw7622506471107533216:=()
def tw8495136694399060414:=()
def tw3217688121694362829:=()
def tw18251011155349371827:=()
def tw7130542539066801507:=()
def tw14458328635198944005:=()
def tw2559792093968008054:=()
def tw10054606210026727052:=()
def tw16964408505406419419:=()
def tw17584972528177701747:=()
def tw10227860748572607092:=()
def tw7145467177911058533:=()
def tw10892495055214881605:=()
def tw7666717734017168273:=()
def tw8046152430724719843:=()
def tw1620923569779548698:=()
def tw15046784850164190028:=()
def tw5882016661654212703:=()
def tw18253994301921710658:=()
def tw6620414077646614969:=()
def tw5784878008043814431:=()
def tw682843674701043902:=()
def tw16542049817031322727:=()
def tw3387190219256064763:=()
def tw2572733415352831086:=()
def tw11726363656915446217:=()
def tw17517043451286075832:=()
def tw4306680951031487099:=()
def tw9477541755645224567:=()
def tw3516903499841193303:=()
def tw13640163779548991204:=()
def tw2331133602429207073:=()
def tw13417482049013853645:=()
def tw7396677344440461742:=()
def tw10833840881715055740:=()
def tw9629141925839892941:=()
def tw4484272951606997494:=()
def tw13759582372883629156:=()
def tw4980772168601690877:=()
def tw239494738604932383:=()
def tw9951387097553606158:=()
def tw14291041320151764764:=()
def tw9496001547120049932:=()
def tw195056234401823368:=()
def tw1272909422483924966:=()
def tw10315946632497565108:=()
def tw17047022106777703667:=()
def tw13959359363496314714:=()
def tw11444996371009714591:=()
def tw17708672457823332253:=()
def tw15862417778504700678:=()
def tw9685372807533074754:=()
def tw12102765504341220420:=()
def tw10434127373647858362:=()
def tw14025184786441272664:=()
def tw1570195690497322274:=()
def tw4589443979360014166:=()
def tw16478563410293023814:=()
def tw12200751051173849646:=()
def tw8388880467612941151:=()
def tw6658449376863661581:=()
def tw11080514799837658078:=()
def tw4207070813036874415:=()
def tw17505008326300782999:=()
def tw3121466170150909105:=()
def tw5569064092640198545:=()
def tw1207107461025613301:=()
def tw13023853895030793639:=()
def tw14987445939909669992:=()
def tw16373619957869671719:=()
def tw16131810465957876829:=()
def tw13175323471983218101:=()
def tw13057387894219733486:=()
def tw13651073235635976749:=()
def tw497996582950729786:=()
def tw15531662393491713766:=()
def tw13599111825609839854:=()
def tw8621497689492097996:=()
def tw17978223814470353687:=()
def tw17692587093201260202:=()
def tw4625112263053430661:=()
def tw10537368205650674457:=()
def tw13345004481089517823:=()
def tw923612196735932378:=()
def tw8494415810968740797:=()
def tw1909946977299228717:=()
def tw119128956436262042:=()
def tw12444826336899671653:=()
def tw3756310969187546234:=()
def tw4306020952194478113:=()
def tw6307485102314437417:=()
def tw12508887903431520465:=()
def tw15569301053362110957:=()
def tw12918488921030713093:=()
def tw13031727176197499936:=()
def tw6935613005779390074:=()
def tw7601049385945040471:=()
def tw13617532820288234217:=()
def tw5256893072875451122:=()
def tw5113088264467427856:=()
def tw16962200751623774467:=()
def tw1427199629715980436:=()
def tw15322072281847035195:=()
def tw12751448710244817182:=()
def tw5623560700783844021:=()
def tw4105119527796416972:=()
def tw10940746201898713412:=()
def tw7235008244334602677:=()
def tw1092203689909699606:=()
def tw14693108286670183467:=()
def tw14822909745668760880:=()
def tw14139673404752144152:=()
def tw1001364019761644609:=()
def tw6238385491575259209:=()
def tw18197788435385088538:=()
def tw13401145377216706161:=()
def tw4283805026073858011:=()
def tw8537670526726963000:=()
def tw2694659655349901960:=()
def tw6185059373408181714:=()
def tw13688264988650615366:=()
def tw13536756775473746075:=()
def tw13017952548469125531:=()
def tw14603733484376709069:=()
def tw16383142761492313047:=()
def tw9343205750585377714:=()
def tw9623198593203345469:=()
def tw14298807587401588175:=()
def tw3490606707438529032:=()
def tw9843589424385136253:=()
def tw10304161355868860256:=()
def tw938949173796276330:=()
def tw17038517959716647216:=()
def tw6766412804170198539:=()
def tw835264054353382585:=()
def tw11607423169885838246:=()
def tw14993532619740193115:=()
def tw10676249806840356891:=()
def tw2934763931521272204:=()
def tw15877809612151189227:=()
def tw2262145612141614753:=()
def tw11666849706020759975:=()
def tw2545321617209153598:=()
def tw7088960390033378664:=()
def tw5664065991736541099:=()
def tw1949998137767983616:=()
def tw14183359340029384665:=()
def tw5389286964187329049:=()
def tw605745726364826225:=()
def tw3341524277585069422:=()
def tw17854458874523406098:=()
def tw15003135572241301985:=()
def tw2913376764490082308:=()
def tw17128157166886480781:=()
def tw16799900206138805192:=()
def tw2467361348557120452:=()
def tw6230301628735319313:=()
def tw1920279796957514275:=()
def tw13330949044193452896:=()
def tw1983582443711085352:=()
def tw10754110931533018788:=()
def tw8894679837881580735:=()
def tw10205779694121074522:=()
def tw3168369102125221909:=()
def tw14498203210131803037:=()
def tw8972617920763444547:=()
def tw12727659293886028525:=()
def tw6399597520582402724:=()
def tw16281931710846346059:=()
def tw11237400042703463214:=()
def tw9471538535053456916:=()
def tw1455239885540311657:=()
def tw425906809450520257:=()
def tw13737138627675554518:=()
def tw2966421687746536028:=()
def tw10573853445409312037:=()
def tw6609530906005014513:=()
def tw4426327507899410628:=()
def tw13440687488756300592:=()
def tw11867492184537904139:=()
def tw9410787300890030630:=()
def tw3160406114087708390:=()
def tw9513287973196893156:=()
def tw17160580455817144764:=()
def tw15141492442448606143:=()
def tw7484545044088532220:=()
def tw7124964311399425660:=()
def tw14422175098513169240:=()
def tw2645666947548461159:=()
def tw17780206460257298959:=()
def tw12207731677375580193:=()
def tw5764403053278695847:=()
def tw4774186653801653638:=()
def tw7571466062470219880:=()
def tw4776905270195518211:=()
def tw13367658508176617402:=()
def tw10071987151552671378:=()
def tw15818070593358889659:=()
def tw18102184745266470594:=()
def tw1255441965285026819:=()
def tw4045914543962916361:=()
def tw14032701487284969331:=()
def tw2098816656575180306:=()
def tw15244289422453879517:=()
def tw4921522551588981272:=()
def tw5852150513334378463:=()
def tw9574441295812008086:=()
def tw13198137330996229680:=()
def tw7970857982732135533:=()
def tw9496204113668204148:=()
def tw5806588219758002223:=()
def tw3855681265518567203:=()
def tw13249986919514280070:=()
def tw3316331265633813560:=()
def tw9331051264364807164:=()
def tw7340097615445236898:=()
def tw6688880684600246194:=()
def tw14058611212835137937:=()
def tw1244189919165513264:=()
def tw790687272761591429:=()
def tw3924479915814348525:=()
def tw13562764422315227683:=()
def tw7999417536097910324:=()
def tw17985092145977783132:=()
def tw5682758860281438932:=()
def tw6707691414480624304:=()
def tw15650747767111793928:=()
def tw17203727411478140941:=()
def tw9698234811169993934:=()
def tw14449289192346325872:=()
def tw18042804956236484749:=()
def tw4643299947346467522:=()
def tw3338597657761605860:=()
def tw7089782259848865752:=()
def tw12246422771880479033:=()
def tw954978091086897387:=()
def tw5201534850172411155:=()
def tw5649529618282609841:=()
def tw3711860874295587326:=()
def tw3394688396488891534:=()
def tw9322092669450361440:=()
def tw4672342642552973459:=()
def tw11496141661421140079:=()
def tw3171359736320496672:=()
def tw10606042520136578878:=()
def tw5656279361657430295:=()
def tw11701486723268092488:=()
def tw11812829252261924591:=()
def tw15098270773043811213:=()
def tw9782040520347984039:=()
def tw4561764826621873767:=()
def tw8718876998368784458:=()
def tw11866233455278669866:=()
def tw5682786112777685751:=()
def tw2980196365728219065:=()
def tw16034710096556780803:=()
def tw7706524684881651447:=()
def tw8639443893581209891:=()
def tw10843001560316973223:=()
def tw9183762674601088589:=()
def tw14785702913238348652:=()
def tw1066697801064758085:=()
def tw14167907527405288103:=()
def tw11887166653327263084:=()
def tw13016487916493682864:=()
def tw17785482547790456263:=()
def tw12123981760162039514:=()
def tw12697681848595212036:=()
def tw16175403710261953751:=()
def tw9212345698078826218:=()
def tw8129204531475242639:=()
end PySem.W.Fast
end
open PySem PySem.W PyProof.Rows
set_option maxRecDepth 100000 in
set_option maxHeartbeats 0 in
theorem PySem.Challenge.cw_termcourt_k58_whole_by_days_holds : PySem.Challenge.rw_termcourt_k58_whole_by_days.Holds := by
 w_on; o_law; k_head; (case hw=>w_witness2)
 k_fill
 refine K58.walk (l:=PySem.Challenge.rw_termcourt_k58_whole_by_days) rfl rfl (by rfl) (λw h Y=>PySem.W.km_in_of Y) ?F
 case F =>
  intro w mg fa h KX G hmg
  apply K58.all_mk KX G hmg
  (case FT|Fm|Fc|Fx|FU|G9|FG|FH|a31|l31|c31|k31|a50|t50|l50|c50|k50|a69|t69|l69|c69|k69|a88|t88|l88|c88|k88|a89|l89|c89|k89|Gh|Ga|Fn|Gi|Fd|Gj|Gb|Gk|Gm|FV|Fy|FI|Gp|FW|ET|F8|EF|Fe|Fo|Fp|EU|Gc|EO|FX|FJ|lcL=>k_is)
  (case p0|p8|p9|p10|p12|p13|p15|p20|p21|p22|p23|p24|p25|p26|p28|p32|p33|p34|p36|p37|p38|p39|p40|p41|p42|p43|p44|p45|p46|p47|p48|p49|p52|p53|p86|p87=>refine' K58.pm_of ?pa ?pt ?pl ?pc ?pk; (case pa|pt|pl|pc|pk=>k_is))
  (case p1|p2|p3|p4|p5|p6|p7|p11|p14|p16|p17|p18|p19|p27|p29|p30|p35|p51|p54|p55|p56|p57|p58|p59|p60|p61|p62|p63|p64|p65|p66|p67|p68|p70|p71|p72|p73|p74|p75|p76|p77|p78|p79|p80|p81|p82|p83|p84|p85=>refine' K58.pd_of ?pa ?pl ?pc ?pk; (case pa|pl|pc|pk=>k_is))
  (case pk50|pk69|pk88=>intros; kernel_rfl)
  (case vL=>exact rfl)
  all_goals kernel_rfl
end
