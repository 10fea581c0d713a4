/-
  Part 1 of 37 of what the proof leans on: each part below says what it proves, and of what; no condition besides.
-/
import Derived.Orders
import Derived.Below
import Derived.KernelRfl
import Derived.Test.YthjjpdjdnhjdbaaGreatDoorProg
import Derived.WalkKit
import Derived.WalkSpells
import Derived.WalkLawsBesides
import Derived.Deep.QuietTactic
import Derived.Deep.RegionWith
import Derived.Deep.DrawnRows
import Derived.BigQuiet
import Derived.Lib.Hide
import Derived.Laws.StructEq
import Derived.Maps.AppendAt
import Derived.Deep.AppendLies
import Derived.OwnWalk
import Derived.Lib.BufSteps
set_option linter.unusedVariables false
set_option linter.unusedSimpArgs false
namespace Go.Proofs.YthjjpdjdnhjdbaaGreatDoor
open Go Go.RowKit
set_option linter.defProp false
theorem zhB{p:Prop}(h:p):Hid p:=Lib.hid h
def ze8:=@Array.getElem?_eq_some_iff
def ze9:=@List.all_eq_true
def zfa:=@List.mem_range
def zfb:=@List.map_congr_left
def zfc:=@Nat.lt_or_ge
def zfd:=@Array.getElem?_eq_none
def zfe:=@List.mem_filterMap
def zff:=@Bool.and_eq_true
def zfg:=@List.any_eq_true
def zfh:=@decide_eq_true_eq
def zfi:=@Bool.or_eq_true
def zfj:=@Array.getElem?_eq_getElem
def zfk:=@List.mem_map
def zfl:=@List.mem_filter
def zfm:=@Nat.le_refl
def zfn:=@Bool.false_or
def zfo:=@List.contains_iff_mem
def zfp:=@Bool.not_false
def zfq:=@Bool.not_true
def zfr:=@Bool.false_eq_true
def zfs:=@Ne.symm
def zft:=@Option.bind_some
def zfu:=@Bool.not_eq_true'
def zfv:=@Go.RowKit.Below.refl
def zfw:=@Nat.le_trans
def zfx:=@List.map_cons
def zfy:=@List.mem_cons
def zfz:=@List.nodup_cons
def zfA:=@List.mem_append_left
def zfB:=@List.map_append
def zfC:=@List.append_assoc
def zfD:=@List.nodup_append
def zfE:=@List.mem_append_right
def zfF:=@List.mem_append
def zfG:=@Bool.false_ne_true
def zfH:=@List.filterMap_cons_some
def zfI:=@List.mem_of_getElem?
def zfJ:=@Option.toList_none
def zfK:=@List.nil_append
def zfL:=@Option.toList_some
def zfM:=@List.cons_append
def zfN:=@List.head?_cons
def zfO:=@List.length_cons
def zfP:=@Nat.add_assoc
def zfQ:=@List.append_nil
def zfR:=@Nat.zero_add
def zfS:=@Go.ByteArray.toList_eq
def zfT:=@Go.RowKit.Below.heap_alloc
def zfU:=@Array.getElem?_modify
def zfV:=@Go.Sem.run_bind
def zfW:=@Go.Sem.run_pure
def zfX:=@Go.Result.andThen_ok
def zfY:=@Bool.eq_iff_iff
def zfZ:=@decide_eq_true
def zf0:=@decide_eq_false
def zf1:=@List.drop_succ_cons
def zf2:=@List.take_succ_cons
def zf3:=@Nat.add_mul
def zf4:=@List.length_append
def zf5:=@List.mem_singleton
def zf6:=@List.length_nil
def zf7:=@List.takeWhile_append_dropWhile
def zf8:=@Option.some.injEq
def zf9:=@Prod.mk.injEq
def zga:=@List.dropWhile_cons
def zgb:=@Option.map_some
def zgc:=@List.takeWhile_cons
def zgd:=@List.foldl_cons
def zge:=@List.mem_cons_of_mem
def zgf:=@List.isEmpty_cons
def zgg:=@Nat.zero_le
def zgh:=@List.mem_of_find?_eq_some
def zgi:=@Int.toNat_natCast
def zgj:=@List.flatMap_cons
def zgk:=@List.isEmpty_eq_false_iff
def zgl:=@List.take_add_one
def zgm:=@Bool.and_true
def zgn:=@List.getD_eq_getElem?_getD
def zgo:=@List.getElem?_eq_getElem
def zgp:=@Bool.or_eq_false_iff
def zgq:=@Bool.and_eq_false_iff
def zgr:=@Bool.not_eq_false'
def zgs:=@decide_eq_false_iff_not
def zgt:=@List.length_map
def zgu:=@List.length_pos_iff
def zgv:=@Option.isSome_iff_exists
def zgw:=@Option.some.inj
def zgx:=@Bool.true_and
def zgy:=@Bool.not_eq_true
def zgz:=@List.getElem?_of_mem
def zgA:=@List.getElem?_eq_some_iff
def zgB:=@List.getElem?_take
def zgC:=@Nat.lt_of_lt_of_le
def zgD:=@Option.isSome_none
def zgE:=@List.getElem?_toArray
def zgF:=@List.eq_nil_of_length_eq_zero
def zgG:=@Go.World.ownsRow.cells
def zgH:=@Go.WideShapes.add_plain
def zgI:=@List.mem_flatMap
def zgJ:=@List.flatMap_append
def zgK:=@List.map_nil
def zgL:=@Nat.mul_one
def zgM:=@Nat.add_zero
def zgN:=@Go.World.block_lt_of_cell?
def zgO:=@Go.Lib.hid
def zgP:=@List.take_of_length_le
def zgQ:=@Go.RowKit.Below.heap_setCell
def zgR:=@Bool.false_and
def zgS:=@Bool.and_false
def zgT:=@List.cons.injEq
def zgU:=@List.getElem?_set_self
def zgV:=@Go.Addr.mk.injEq
def zgW:=@List.getElem?_drop
def zgX:=@List.getElem?_cons_zero
def zgY:=@Nat.not_lt_zero
def zgZ:=@List.length_drop
def zg0:=@List.getElem?_map
def zg1:=@Go.MapKept.run_getObj_map
def zg2:=@List.not_mem_nil
def zg3:=@Option.bind_none
def zg4:=@Go.RowKit.Below.setCell
def zg5:=@Nat.le_of_lt
def zg6:=@Nat.le_of_eq
def zg7:=@Go.Lib.OthersKept.refl
def zg8:=@Option.map_eq_some_iff
def zg9:=@List.getElem?_cons_succ
def zha:=@List.drop_eq_getElem_cons
def zhb:=@List.drop_eq_nil_of_le
def zhc:=@Array.length_toList
def zhd:=@UInt8.toNat_inj
def zhe:=@List.take_zero
def zhf:=@List.mem_cons_self
def zhg:=@Go.IntKind.wrap_i64
def zhh:=@List.mem_of_mem_take
def zhi:=@List.take_length
def zhj:=@List.setIfInBounds_toArray
def zhk:=@List.set_cons_zero
def zhl:=@List.set_cons_succ
def zhm:=@Nat.lt_of_le_of_lt
def zhn:=@List.drop_drop
def zho:=@List.length_take
def zhp:=@Option.isSome_eq_false_iff
def zhq:=@Option.isNone_iff_eq_none
def zhr:=@List.length_replicate
def zhs:=@List.getElem?_replicate_of_lt
def zht:=@Go.Lib.run_eql_slice_nil
def zhu:=@Go.World.cell?_setCell_other
def zhv:=@List.getElem?_set_ne
def zhw:=@Classical.choose_spec
def zhx:=@Go.DataW.trod_string
def zhy:=@Go.DataW.trod_struct
def zhz:=@Go.DataW.trod_int
def zhA:=@Go.Value.slice.injEq
namespace Reg
def zN(o:Oper):List Nat:=(o.after.toList.filter fun e=>Region.binds .any e).map (·.on)
def slot(a:Act)(t:Tmp):Value:=a.tmps.getD t undef
def XA(ops:Array Oper):List Tmp:=ops.toList.filterMap (·.dst)
def At(see:Nat→List Tmp)(fact:Nat→List Value→World→Prop)(i:Nat)(a:Act)(w:World):Prop:=fact i ((see i).map (slot a)) w
def UV(ops:Array Oper)(see deps olds:Nat→List Nat)(i:Nat)(o:Oper):Bool:=((olds i).all fun t=>(List.range ops.size).all fun k=>match ops[k]? with|some ok=>ok.dst !=some t||(zN ok).contains i|none=>true)&&((zN o).all fun j=>decide (j<i))&&((deps i).all fun j=>(zN o).any fun k=>j==k||(deps k).contains j)&&((List.range ops.size).all fun k=>match(ops[k]?).bind (·.dst)with|some d=>!(see i).contains d||k==i||(deps i).contains k|none=>true)
def ok(ops:Array Oper)(see deps olds:Nat→List Nat):Bool:=(List.range ops.size).all fun i=>match ops[i]? with|some o=>UV ops see deps olds i o|none=>true
section
variable {P : Program} {ops : Array Oper} {Q : Exit → Act → World → Prop} {see deps olds : Nat → List Nat} {fact : Nat → List Value → World → Prop}
theorem xi(h:ok ops see deps olds=true){i:Nat}{o:Oper}(hi:ops[i]?=some o):UV ops see deps olds i o=true:=by have hlt:i<ops.size:=(ze8.1 hi).1;have:=ze9.1 h i (zfa.2 hlt);simpa[hi]using this
structure Inv (ops : Array Oper) (see : Nat → List Nat) (fact : Nat → List Value → World → Prop) (B : Nat) (a0 : Act) (w0 : World) (listed : Array Bool) (a : Act) (w : World) : Prop where
 defers : a.defers = a0.defers
 size : a.tmps.size = a0.tmps.size
 old : ∀ t, (∀ k o, ops[k]? = some o → o.dst = some t → listed.getD k true = false) → slot a t = slot a0 t
 below : Below B w0 w
 down : ∀ i o, ops[i]? = some o → listed.getD i true = true → ∀ j ∈ zN o, listed.getD j true = true
 facts : ∀ i, i < ops.size → listed.getD i true = true → At see fact i a w
def StepOk(P:Program)(ops:Array Oper)(Q:Exit→Act→World→Prop)(see deps olds:Nat→List Nat)(fact:Nat→List Value→World→Prop)(B:Nat)(a0:Act)(w0:World)(i:Nat)(o:Oper):Prop:=∀(a:Act)(w:World),a.tmps.size=a0.tmps.size→(∀t,t∉XA ops→slot a t=slot a0 t)→(∀t∈olds i,slot a t=slot a0 t)→Below B w0 w→(∀j∈deps i,At see fact j a w)→wpOp P ops Q i (fun a' w'=>∃v,a'=a.put o.dst v∧At see fact i a' w'∧Below B w w'∧∀j,j≠i→j<ops.size→At see fact j a w→At see fact j a w') a w
theorem yH(a:Act)(dst:Option Tmp)(v:Value)(t:Tmp)(h:dst≠some t):slot (a.put dst v) t=slot a t:=by cases dst with|none=>rfl|some d=>have hne:d≠t:=fun e=>h (by rw[e]);simp[slot,Act.put,Array.getElem?_setIfInBounds_ne hne]
theorem zy(a:Act)(d:Tmp)(v:Value)(h:d<a.tmps.size):slot (a.put (some d) v) d=v:=by simp[slot,Act.put,h]
theorem Wp(a:Act)(dst:Option Tmp)(v:Value):(a.put dst v).tmps.size=a.tmps.size:=by cases dst<;>simp[Act.put]
theorem xL(a:Act)(dst:Option Tmp)(v:Value):(a.put dst v).defers=a.defers:=by cases dst<;>rfl
theorem Lx{i:Nat}{a:Act}{w:World}{dst:Option Tmp}{v:Value}(h:∀d,dst=some d→d∉see i)(hf:At see fact i a w):At see fact i (a.put dst v) w:=by unfold At at*;have:(see i).map (slot (a.put dst v))=(see i).map (slot a):=zfb fun t ht=>yH a dst v t (fun e=>h t e ht);rw[this];exact hf
theorem Zh{listed:Array Bool}{j:Nat}(h:listed.getD j true=false):j<listed.size:=by rcases zfc j listed.size with h'|h';·{exact h'};simp[zfd h']at h
theorem Wq{listed:Array Bool}{i j:Nat}(h:(listed.setIfInBounds i true).getD j true=true):j=i∨listed.getD j true=true:=by by_cases e:j=i;·{exact .inl e};right;rw[getD_set_ne true (fun e'=>e e'.symm)]at h;exact h
theorem UX{t:Tmp}(h:t∉XA ops){k:Nat}{o:Oper}(hk:ops[k]?=some o):o.dst≠some t:=fun hd=>h (zfe.2 ⟨o,by have:=Array.mem_of_getElem? hk;simpa using this,hd⟩)
theorem Inv.rest{B:Nat}{a0:Act}{w0:World}{listed:Array Bool}{a:Act}{w:World}(h:Inv ops see fact B a0 w0 listed a w)(t:Tmp)(ht:t∉XA ops):slot a t=slot a0 t:=h.old t fun _ _ hk hd=>absurd hd (UX ht hk)
theorem ZI(hok:ok ops see deps olds=true){listed:Array Bool}(down:∀i o,ops[i]?=some o→listed.getD i true=true→∀j∈zN o,listed.getD j true=true):∀(n i:Nat)(o:Oper),i≤n→ops[i]?=some o→(∀j∈zN o,listed.getD j true=true)→∀j∈deps i,listed.getD j true=true:=by intro n;induction n with|zero=>intro i o hi ho hd j hj;have h:=xi hok ho;simp only[UV,zff,ze9,zfg,zfh]at h;obtain⟨k,hk,_⟩:=h.1.2 j hj;have:=h.1.1.2 k hk;omega|succ n ih=>intro i o hi ho hd j hj;have h:=xi hok ho;simp only[UV,zff,ze9,zfg,zfh]at h;obtain⟨k,hk,hjk⟩:=h.1.2 j hj;have hki:=h.1.1.2 k hk;rcases zfi _ _▸hjk with e|e;·{have:j=k:=by{simpa using e};subst this;exact hd j hk};have hko:k<ops.size:=by{have:=(ze8.1 ho).1;omega};exact ih k ops[k] (by omega) (zfj hko) (down k ops[k] (zfj hko) (hd k hk)) j (by simpa using e)
theorem wpAny_inv(hok:ok ops see deps olds=true){B:Nat}{a0:Act}{w0:World}(hstep:∀i o,ops[i]?=some o→StepOk P ops Q see deps olds fact B a0 w0 i o)(hend:∀a w,a.defers=a0.defers→a.tmps.size=a0.tmps.size→(∀t,t∉XA ops→slot a t=slot a0 t)→Below B w0 w→(∀i,i<ops.size→At see fact i a w)→Q .normal a w):∀(fuel:Nat)(listed:Array Bool)(a:Act)(w:World),listed.size=ops.size→(listed.toList.countP fun b=>!b)≤fuel→Inv ops see fact B a0 w0 listed a w→wpAny P .any ops Q fuel listed a w:=by have final:∀(listed:Array Bool)(a:Act)(w:World),listed.size=ops.size→Inv ops see fact B a0 w0 listed a w→Region.ready .any ops listed=[]→Q .normal a w:=by{intro listed a w hsz hI hr;have all:∀(n i:Nat),i<n→i<ops.size→listed.getD i true=true:=by{intro n;induction n with|zero=>intro i hi;omega|succ n ih=>intro i hi ho;cases hl:listed.getD i true with|true=>rfl|false=>have hmem:i∈Region.ready .any ops listed:=by{refine mem_ready.2 ⟨hl,ops[i],zfj ho,fun e he hb=>?_⟩;have hdir:e.on∈zN ops[i]:=zfk.2 ⟨e,zfl.2 ⟨by simpa using he,hb⟩,rfl⟩;have h:=xi hok (zfj ho);simp only[UV,zff,ze9,zfh]at h;have hlt:=h.1.1.2 _ hdir;have:=ih e.on (by omega) (by omega);have hs:e.on<listed.size:=by{omega};simp[hs]at this⊢;exact this};rw[hr]at hmem;cases hmem};exact hend a w hI.defers hI.size hI.rest hI.below fun i hi=>hI.facts i hi (all (i+1) i (by omega) hi)};intro fuel;induction fuel with|zero=>intro listed a w hsz hc hI;have hnil:Region.ready .any ops listed=[]:=by{rcases hr:Region.ready .any ops listed with _|⟨x,xs⟩;·{rfl};exfalso;have hx:x∈Region.ready .any ops listed:=by{rw[hr];simp};have h0:=(mem_ready.1 hx).1;have hlt:=Zh h0;have:false∈listed.toList:=by{have:listed[x]=false:=by{simpa[hlt]using h0};exact this▸(by{simp}:listed[x]∈listed.toList)};have hp:0<listed.toList.countP fun b=>!b:=List.countP_pos_iff.2 ⟨false,this,rfl⟩;omega};exact⟨hnil,final listed a w hsz hI hnil⟩|succ fuel ih=>intro listed a w hsz hc hI;refine⟨final listed a w hsz hI,fun i hi=>?_⟩;obtain⟨h0,o,ho,hall⟩:=mem_ready.1 hi;have hilt:i<ops.size:=(ze8.1 ho).1;have hdir:∀j∈zN o,listed.getD j true=true:=by{intro j hj;obtain⟨e,he,rfl⟩:=zfk.1 hj;obtain⟨he1,he2⟩:=zfl.1 he;have:=hall e (by simpa using he1) he2;rcases zfc e.on listed.size with h'|h';·{simp[h']at this⊢;exact this};simp[zfd h']at this};have hdeps:=ZI hok hI.down i i o (zfm _) ho hdir;have hdepslt:∀j∈deps i,j<ops.size:=by{intro j hj;have key:∀(n i:Nat)(o:Oper),i≤n→ops[i]?=some o→∀j∈deps i,j<i:=by{intro n;induction n with|zero=>intro i o hi ho j hj;have h:=xi hok ho;simp only[UV,zff,ze9,zfg,zfh]at h;obtain⟨k,hk,_⟩:=h.1.2 j hj;have:=h.1.1.2 k hk;omega|succ n ihn=>intro i o hi ho j hj;have h:=xi hok ho;simp only[UV,zff,ze9,zfg,zfh]at h;obtain⟨k,hk,hjk⟩:=h.1.2 j hj;have hki:=h.1.1.2 k hk;rcases zfi _ _▸hjk with e|e;·{have:j=k:=by{simpa using e};omega};have hko:k<ops.size:=by{have:=(ze8.1 ho).1;omega};have:=ihn k ops[k] (by omega) (zfj hko) j (by simpa using e);omega};have:=key i i o (zfm _) ho j hj;omega};have hOld:∀t∈olds i,slot a t=slot a0 t:=by{intro t ht;refine hI.old t fun k ok hk hd=>?_;have h:=xi hok ho;simp only[UV,zff,ze9]at h;have hkk:=h.1.1.1 t ht k (zfa.2 (ze8.1 hk).1);simp only[hk,hd,bne_self_eq_false,zfn,zfo]at hkk;cases hl:listed.getD k true with|false=>rfl|true=>have:=hI.down k ok hk hl i hkk;rw[this]at h0;cases h0};refine wpOp_mono ?_ (hstep i o ho a w hI.size hI.rest hOld hI.below fun j hj=>hI.facts j (hdepslt j hj) (hdeps j hj));rintro a' w'⟨v,rfl,hfi,hbw,hkeep⟩;have hnl:∀j,j<ops.size→listed.getD j true=true→i∉deps j:=by{intro j hj hlj hmem;have:=ZI hok hI.down j j ops[j] (zfm _) (zfj hj) (hI.down j ops[j] (zfj hj) hlj) i hmem;rw[this]at h0;cases h0};refine ih _ _ _ (by simpa using hsz) ?_ ⟨?_,?_,?_,?_,?_,?_⟩;·{have hls:i<listed.size:=Zh h0;have hv:listed[i]=false:=by{simpa[hls]using h0};have hset:(listed.setIfInBounds i true).toList=listed.toList.set i true:=by{simp};rw[hset,List.countP_set (by simpa using hls)];have h1:listed.toList[i]=false:=by{simpa using hv};simp only[h1,zfp,if_true,zfq,zfr,if_false];omega};·{rw[xL];exact hI.defers};·{rw[Wp];exact hI.size};·{intro t ht;have hne:o.dst≠some t:=fun hd=>by{have:=ht i o ho hd;have hls:i<listed.size:=Zh h0;simp[hls]at this};rw[yH _ _ _ _ hne];refine hI.old t fun k ok hk hd=>?_;have:=ht k ok hk hd;by_cases e:i=k;·{subst e;exact h0};rwa[getD_set_ne true e]at this};·{exact hI.below.trans hbw};·{intro j oj hoj hlj k hk;rcases Wq hlj with rfl|hl;·{rw[ho]at hoj;cases hoj;have hki:k≠j:=by{have h:=xi hok ho;simp only[UV,zff,ze9,zfh]at h;have:=h.1.1.2 k hk;omega};rw[getD_set_ne true (zfs hki)];exact hdir k hk};have:=hI.down j oj hoj hl k hk;by_cases e:i=k;·{subst e;rw[this]at h0;cases h0};rw[getD_set_ne true e];exact this};intro j hj hlj;rcases Wq hlj with rfl|hl;·{exact hfi};have hji:j≠i:=by{rintro rfl;rw[hl]at h0;cases h0};have hfj:=hkeep j hji hj (hI.facts j hj hl);refine Lx (fun d hd hmem=>?_) hfj;have h:=xi hok (zfj hj);simp only[UV,zff,ze9]at h;have:=h.2 i (zfa.2 hilt);simp only[ho,zft,hd]at this;simp only[zfi,zfu,beq_iff_eq,zfo]at this;rcases this with(h1|h1)|h1;·{simp[hmem]at h1};·{exact hji h1.symm};exact hnl j hj hl h1
theorem wp_region_facts{id:Nat}{a:Act}{w:World}(hm:P.follows .mixedOrders=true)(see deps olds:Nat→List Nat)(fact:Nat→List Value→World→Prop)(hok:ok ops see deps olds=true)(B:Nat)(hstep:∀i o,ops[i]?=some o→StepOk P ops Q see deps olds fact B a w i o)(hend:∀a' w',a'.defers=a.defers→a'.tmps.size=a.tmps.size→(∀t,t∉XA ops→slot a' t=slot a t)→Below B w w'→(∀i,i<ops.size→At see fact i a' w')→Q .normal a' w'):(Code.region id ops true).wp P Q a w:=by refine wp_region_any hm ?_;refine wpAny_inv hok (B:=B) (a0:=a) (w0:=w) hstep hend ops.size _ a _ (by simp) ?_ ⟨rfl,rfl,fun _ _=>rfl,(zfv _ _).drew,?_,?_⟩;·{refine zfw List.countP_le_length ?_;simp};·{intro i o hi hl;have hlt:i<ops.size:=(ze8.1 hi).1;simp[hlt]at hl};intro i hi hl;simp[hi]at hl
end
end Reg
namespace Reg
def putAll(a:Act):List (Tmp×Value)→Act|[]=>a|x::l=>putAll (a.put (some x.1) x.2) l
theorem Zi(l:List (Tmp×Value)):∀a:Act,(putAll a l).tmps.size=a.tmps.size:=by induction l with|nil=>intro a;rfl|cons x l ih=>intro a;rw[putAll,ih,Wp]
theorem Y9(l:List (Tmp×Value)):∀a:Act,(putAll a l).defers=a.defers:=by induction l with|nil=>intro a;rfl|cons x l ih=>intro a;rw[putAll,ih,xL]
theorem zO(l:List (Tmp×Value))(t:Tmp):∀a:Act,t∉l.map (·.1)→slot (putAll a l) t=slot a t:=by induction l with|nil=>intro a _;rfl|cons x l ih=>intro a h;simp only[zfx,zfy,not_or]at h;rw[putAll,ih _ h.2,yH];intro e;injection e with e;exact h.1 e.symm
theorem yU(l:List (Tmp×Value))(t:Tmp)(v:Value):∀a:Act,t<a.tmps.size→(l.map (·.1)).Nodup→(t,v)∈l→slot (putAll a l) t=v:=by induction l with|nil=>intro a _ _ h;(cases h)|cons x l ih=>intro a ht hn h;simp only[zfx,zfz]at hn;rw[putAll];rcases zfy.1 h with rfl|h;·{rw[zO _ _ _ hn.1,zy _ _ _ ht]};exact ih _ (by rw[Wp];exact ht) hn.2 h
def fin(a:Act)(vals:List (Tmp×Value))(free:List Tmp)(g:Tmp→Value):Act:=putAll a (vals++free.map fun t=>(t,g t))
def fr(a:Act)(vals late:List (Tmp×Value))(free:List Tmp)(early:Nat→Bool)(i:Nat)(g:Tmp→Value):Act:=if early i then fin a vals free g else fin a (vals++late) free g
def xY(ops:Array Oper)(late:List (Tmp×Value))(early:Nat→Bool)(i:Nat):List Tmp:=match ops[i]? with|some o=>if early i then(o.looksAt ops).filter fun t=>(late.map (·.1)).contains t else[]|none=>[]
def NE(ops:Array Oper)(n:Nat)(vals late:List (Tmp×Value))(free:List Tmp)(sf:Nat→List Tmp)(early:Nat→Bool):Bool:=(((vals++late).map (·.1)++free).all fun t=>decide (t<n)&&(XA ops).contains t)&&((XA ops).all fun t=>((vals++late).map (·.1)++free).contains t)&&decide (((vals++late).map (·.1)++free).Nodup)&&decide ((XA ops).Nodup)&&((List.range ops.size).all fun i=>match ops[i]? with|none=>true|some o=>((zN o).all fun j=>decide (j<i))&&((xY ops late early i).all fun t=>(List.range ops.size).all fun k=>match ops[k]? with|some ok=>ok.dst !=some t||(zN ok).contains i|none=>true)&&((o.looksAt ops).all fun t=>!(XA ops).contains t||(xY ops late early i).contains t||(zN o).any fun j=>((ops[j]?).bind (·.dst))==some t)&&((sf i).all fun t=>free.contains t&&(o.dst==some t||(zN o).any fun j=>((ops[j]?).bind (·.dst))==some t)))
def xF(ops:Array Oper)(sf:Nat→List Tmp)(i:Nat):List Tmp:=(((ops[i]?).bind (·.dst)).toList)++sf i
def ZZ(ops:Array Oper)(i:Nat):List Nat:=((ops[i]?).map zN).getD []
def yO(ops:Array Oper)(vals:List (Tmp×Value))(p:Nat→List Value→World→Prop)(i:Nat)(vs:List Value)(w:World):Prop:=match(ops[i]?).bind (·.dst)with|some d=>(∀v,(d,v)∈vals→vs.head?=some v)∧p i vs.tail w|none=>p i vs w
section
variable {P : Program} {ops : Array Oper} {Q : Exit → Act → World → Prop}
theorem X0(o:Oper)(a a':Act)(hsz:a.tmps.size=a'.tmps.size)(h:∀t∈o.looksAt ops,slot a t=slot a' t):Region.wanted o (yielded ops a.tmps)=Region.wanted o (yielded ops a'.tmps):=by unfold Region.wanted;cases hg:o.guard with|none=>rfl|some gw=>obtain⟨g,want⟩:=gw;have hy:yielded ops a.tmps g=yielded ops a'.tmps g:=by{unfold yielded;cases ht:(ops[g]?).bind (·.dst)with|none=>rfl|some t=>have:=h t (by simp[Oper.looksAt,hg,ht]);have e:a.tmps[t]?=a'.tmps[t]?:=by{rcases zfc t a.tmps.size with hlt|hge;·{have hlt':t<a'.tmps.size:=hsz▸hlt;simp only[slot,Array.getD_eq_getD_getElem?,zfj hlt,zfj hlt',Option.getD_some]at this;rw[zfj hlt,zfj hlt',this]};rw[zfd hge,zfd (show a'.tmps.size≤t from hsz▸hge)]};simp only[zft,e]};simp only[hy]
theorem VO(o:Oper)(hs:∀cs b,o.op≠ .select cs b)(a a':Act)(h:∀t∈o.looksAt ops,slot a t=slot a' t):execOp a.eval o=execOp a'.eval o:=execOp_congr o hs fun x hx=>by cases x with|tmp t=>exact h t (zfA _ (zfe.2 ⟨.tmp t,by simpa using hx,rfl⟩))|_=>rfl
def Does(P:Program)(ops:Array Oper)(vals:List (Tmp×Value))(sf:Nat→List Tmp)(p:Nat→List Value→World→Prop)(B:Nat)(F:Act)(i:Nat)(o:Oper)(w:World):Prop:=if Region.wanted o (yielded ops F.tmps)=true then Oper.wp P o F w (fun a' w'=>∃v,a'=F.put o.dst v∧(∀d u,o.dst=some d→(d,u)∈vals→v=u)∧p i ((sf i).map (slot a')) w'∧Below B w w'∧∀j,j≠i→j<ops.size→p j ((sf j).map (slot F)) w→p j ((sf j).map (slot F)) w') (fun _ _ _=>False)else(∀d u,o.dst=some d→(d,u)∈vals→undef=u)∧p i ((sf i).map (slot (F.put o.dst undef))) w
theorem Ys{o:Oper}{a F:Act}{K K':Act→World→Prop}{r:Result Next}(h:∀v w,K' (F.put o.dst v) w→K (a.put o.dst v) w)(hnd:∀d w,¬K' (({F with defers:=d::F.defers}:Act).put o.dst undef) w)(hh:o.upon P F K' (fun _ _ _=>False) r):o.upon P a K Q r:=by cases r with|ok n w=>(cases n with|value v=>exact h _ _ hh|skip=>exact h _ _ hh|defer d=>exact absurd hh (hnd d w)|enter f args=>refine Calls.mono hh ?_;intro e w' he;(cases e with|returned v=>exact h _ _ he|panicked c=>exact(he:False).elim|outgrown=>obtain⟨_,_,hf⟩:=he;exact hf.elim)|row row args=>refine Rows.mono hh ?_;intro u w' he;exact h _ _ he|_=>exact(hh:False).elim)|halt x w=>cases x<;>exact(hh:False).elim
theorem Yf(a:Act)(vals late:List (Tmp×Value))(free:List Tmp)(early:Nat→Bool)(i:Nat)(g:Tmp→Value):(fr a vals late free early i g).tmps.size=a.tmps.size:=by unfold fr fin;split<;>rw[Zi]
theorem wp_region_run{id:Nat}{a:Act}{w:World}(hm:P.follows .mixedOrders=true)(hs:Region.noSelect ops=true)(vals late:List (Tmp×Value))(free:List Tmp)(sf:Nat→List Tmp)(early:Nat→Bool)(p:Nat→List Value→World→Prop)(n:Nat)(hn:a.tmps.size=n)(hok:NE ops n vals late free sf early=true)(B:Nat)(hstep:∀i o,ops[i]?=some o→∀(g:Tmp→Value)(w':World),Below B w w'→(∀j∈zN o,p j ((sf j).map (slot (fr a vals late free early i g))) w')→Does P ops (vals++late) sf p B (fr a vals late free early i g) i o w')(hend:∀(g:Tmp→Value)(w':World),Below B w w'→(∀i,i<ops.size→p i ((sf i).map (slot (fin a (vals++late) free g))) w')→Q .normal (fin a (vals++late) free g) w'):(Code.region id ops true).wp P Q a w:=by have hok':=hok;simp only[NE,zff,ze9,zfh,zfo]at hok;obtain⟨⟨⟨⟨hk1,hk2⟩,hnod⟩,hdn⟩,hop⟩:=hok;have hkeys:∀(l:List (Tmp×Value))(g:Tmp→Value),(l++free.map fun t=>(t,g t)).map (·.1)=l.map (·.1)++free:=fun l g=>by{simp[List.map_map,Function.comp_def]};have hopi:∀i o,ops[i]?=some o→(∀j∈zN o,j<i)∧(∀t∈o.looksAt ops,t∈XA ops→t∈xY ops late early i∨∃j∈zN o,(ops[j]?).bind (·.dst)=some t)∧(∀t∈sf i,t∈free∧(o.dst=some t∨∃j∈zN o,(ops[j]?).bind (·.dst)=some t)):=by{intro i o hi;have:=hop i (zfa.2 (ze8.1 hi).1);simp only[hi,zff,ze9,zfh,zfi,zfu,zfg,beq_iff_eq]at this;refine⟨this.1.1.1,fun t ht hd=>?_,fun t ht=>⟨by simpa using(this.2 t ht).1,(this.2 t ht).2⟩⟩;rcases this.1.2 t ht with(h|h)|h;·{simp[hd]at h};·{exact .inl (by simpa using h)};exact .inr h};have hnod1:(vals.map (·.1)++free).Nodup:=by{have h:=hnod;simp only[zfB,zfC]at h;have h1:=zfD.1 h;have h2:=zfD.1 h1.2.1;exact zfD.2 ⟨h1.1,h2.2.1,fun x hx y hy=>h1.2.2 x hx y (zfE _ hy)⟩};have hlatefree:∀t,t∈late.map (·.1)→t∉vals.map (·.1)++free:=by{intro t ht hm;have h:=hnod;simp only[zfB,zfC]at h;have h1:=zfD.1 h;have h2:=zfD.1 h1.2.1;rcases zfF.1 hm with hv|hf;·{exact h1.2.2 t hv t (zfA _ ht) rfl};exact h2.2.2 t ht t hf rfl};have hslot:∀(i:Nat)(a':Act),a'.tmps.size=a.tmps.size→(∀t,t∉XA ops→slot a' t=slot a t)→∀t,(t∉XA ops∨t∈free∨(∃v,(t,v)∈vals∧slot a' t=v)∨(early i=false∧∃v,(t,v)∈late∧slot a' t=v)∨(early i=true∧t∈late.map (·.1)∧slot a' t=slot a t))→slot a' t=slot (fr a vals late free early i (slot a')) t:=by{intro i a' hsz hrest t ht;have hfree':t∈free→∀l,(l.map (·.1)++free).Nodup→slot (fin a l free (slot a')) t=slot a' t:=by{intro hf l hl;rw[fin,yU _ t (slot a' t) a (by rw[hn];exact(hk1 t (zfE _ hf)).1) (by rw[hkeys];exact hl) (zfE _ (zfk.2 ⟨t,hf,rfl⟩))]};have hval':∀v,(t,v)∈vals++late→∀l,(t,v)∈l→(l.map (·.1)++free).Nodup→slot (fin a l free (slot a')) t=v:=by{intro v hv l hl hnn;rw[fin,yU _ t v a (by rw[hn];exact(hk1 t (zfA _ (zfk.2 ⟨_,hv,rfl⟩))).1) (by rw[hkeys];exact hnn) (zfA _ hl)]};unfold fr;rcases ht with ht|ht|⟨v,hv,hs⟩|⟨he,v,hv,hs⟩|⟨he,ht,hs⟩;·{have no:t∉(vals++late).map (·.1)++free:=fun hm=>ht (hk1 t hm).2;have no1:t∉vals.map (·.1)++free:=fun hm=>no (by simp only[zfB,zfC];rcases zfF.1 hm with h|h;·{exact zfA _ h};exact zfE _ (zfE _ h));split;·{rw[hrest t ht,fin,zO _ _ _ (by rw[hkeys];exact no1)]};rw[hrest t ht,fin,zO _ _ _ (by rw[hkeys];exact no)]};·{split;·{exact(hfree' ht _ hnod1).symm};exact(hfree' ht _ hnod).symm};·{split;·{rw[hval' v (zfA _ hv) vals hv hnod1,hs]};rw[hval' v (zfA _ hv) _ (zfA _ hv) hnod,hs]};·{rw[if_neg (by rw[he];exact zfG),hval' v (zfE _ hv) _ (zfE _ hv) hnod,hs]};rw[if_pos he,hs,fin,zO _ _ _ (by rw[hkeys];exact hlatefree t ht)]};have hslotE:∀(a':Act),a'.tmps.size=a.tmps.size→(∀t,t∉XA ops→slot a' t=slot a t)→∀t,(t∉XA ops∨t∈free∨∃v,(t,v)∈vals++late∧slot a' t=v)→slot a' t=slot (fin a (vals++late) free (slot a')) t:=by{intro a' hsz hrest t ht;rcases ht with ht|ht|⟨v,hv,hs⟩;·{rw[hrest t ht,fin,zO];rw[hkeys];intro hm;exact ht (hk1 t hm).2};·{rw[fin,yU _ t (slot a' t) a (by rw[hn];exact(hk1 t (zfE _ ht)).1) (by rw[hkeys];exact hnod) (zfE _ (zfk.2 ⟨t,ht,rfl⟩))]};rw[hs,fin,yU _ t v a (by rw[hn];exact(hk1 t (zfA _ (zfk.2 ⟨_,hv,rfl⟩))).1) (by rw[hkeys];exact hnod) (zfA _ hv)]};have hallOk:ok ops (xF ops sf) (ZZ ops) (xY ops late early)=true:=by{refine ze9.2 fun i hi=>?_;have hlt:=zfa.1 hi;rw[zfj hlt];obtain⟨h1,h2,h3⟩:=hopi i ops[i] (zfj hlt);simp only[UV,zff,ze9,zfh,zfg,zfi,beq_iff_eq];have hold:∀t∈xY ops late early i,∀k∈List.range ops.size,(match ops[k]? with|some ok=>ok.dst !=some t||(zN ok).contains i|none=>true)=true:=by{have:=hop i (zfa.2 hlt);rw[zfj hlt]at this;simp only[zff,ze9]at this;exact this.1.1.2};refine⟨⟨⟨hold,h1⟩,fun j hj=>⟨j,by simpa[ZZ,hlt]using hj,.inl rfl⟩⟩,fun k hk=>?_⟩;have hklt:=zfa.1 hk;rw[zfj hklt];cases hd:ops[k].dst with|none=>simp[hd]|some d=>simp only[zft,hd,zfi,zfu,beq_iff_eq,zfo];by_cases hm:d∈xF ops sf i;·{have uniq:∀j,(ops[j]?).bind (·.dst)=some d→j=k:=by{intro j hj;cases hoj:ops[j]? with|none=>rw[hoj]at hj;(cases hj)|some oj=>rw[hoj]at hj;have hjlt:j<ops.size:=(ze8.1 hoj).1;have key:∀(l:List Oper)(x y:Nat)(ox oy:Oper),(l.filterMap (·.dst)).Nodup→l[x]?=some ox→l[y]?=some oy→ox.dst=some d→oy.dst=some d→x=y:=by{intro l;induction l with|nil=>intro x y ox oy _ hx;simp at hx|cons z l ih=>intro x y ox oy hnn hx hy hdx hdy;have hl:(l.filterMap (·.dst)).Nodup:=by{cases hz:z.dst with|none=>simpa[List.filterMap_cons,hz]using hnn|some dz=>rw[zfH (h:=hz)]at hnn;exact(zfz.1 hnn).2};have hz0:z.dst=some d→d∉l.filterMap (·.dst):=fun hz=>by{rw[zfH (h:=hz)]at hnn;exact(zfz.1 hnn).1};cases x with|zero=>(cases y with|zero=>rfl|succ y=>simp at hx hy;subst hx;exact absurd (zfe.2 ⟨oy,zfI hy,hdy⟩) (hz0 hdx))|succ x=>cases y with|zero=>simp at hx hy;subst hy;exact absurd (zfe.2 ⟨ox,zfI hx,hdx⟩) (hz0 hdy)|succ y=>simp at hx hy;rw[ih x y ox oy hl hx hy hdx hdy]};exact key ops.toList j k oj ops[k] hdn (by simpa using hoj) (by simp[hklt]) (by simpa using hj) hd};unfold xF at hm;rw[zfj hlt]at hm;rcases zfF.1 hm with hm|hm;·{left;right;have:ops[i].dst=some d:=by{simpa using hm};exact(uniq i (by rw[zfj hlt];simpa using this)).symm};rcases(h3 d hm).2 with h|⟨j,hj,hjd⟩;·{left;right;exact(uniq i (by rw[zfj hlt];simpa using h)).symm};right;have:=uniq j hjd;subst this;simpa[ZZ,hlt]using hj};left;left;simpa using hm};have hfree:∀(d:Tmp)(v:Value),(d,v)∈vals++late→d∉free:=by{intro d v hv hf;have:=(zfD.1 hnod).2.2 d (zfk.2 ⟨_,hv,rfl⟩) d hf;exact this rfl};refine wp_region_facts hm (xF ops sf) (ZZ ops) (xY ops late early) (yO ops (vals++late) p) hallOk B ?_ ?_;·{intro i o hi a' w' hsz hrest hold hB hdeps;obtain⟨h1,h2,h3⟩:=hopi i o hi;have hilt:i<ops.size:=(ze8.1 hi).1;have hdepsi:ZZ ops i=zN o:=by{simp[ZZ,hi]};have toP:∀j,At (xF ops sf) (yO ops (vals++late) p) j a' w'→p j ((sf j).map (slot a')) w':=by{intro j hj;unfold At yO xF at hj;cases hd:(ops[j]?).bind (·.dst)with|none=>simpa[hd]using hj|some d=>simp only[hd]at hj;simpa using hj.2};have exact_of:∀j∈zN o,∀t v,(ops[j]?).bind (·.dst)=some t→(t,v)∈vals++late→slot a' t=v:=by{intro j hj t v hd hv;have:=hdeps j (by rw[hdepsi];exact hj);unfold At yO xF at this;simp only[hd]at this;simpa using this.1 v hv};have agree:∀t∈o.looksAt ops,slot a' t=slot (fr a vals late free early i (slot a')) t:=by{intro t ht;refine hslot i a' hsz hrest t ?_;by_cases hd:t∈XA ops;·{right;rcases h2 t ht hd with ho|⟨j,hj,hjd⟩;·{right;right;right;have hs:=hold t ho;unfold xY at ho;rw[hi]at ho;simp only at ho;cases he:early i with|false=>rw[he]at ho;simp at ho|true=>rw[he]at ho;simp only[if_true,zfl,zfo]at ho;exact⟨rfl,ho.2,hs⟩};have hmem:t∈(vals++late).map (·.1)++free:=hk2 t hd;rcases zfF.1 hmem with hv|hf;·{obtain⟨⟨t',v⟩,hv2,rfl⟩:=zfk.1 hv;have hs:=exact_of j hj _ v hjd hv2;rcases zfF.1 hv2 with h|h;·{exact .inr (.inl ⟨v,h,hs⟩)};cases he:early i with|false=>exact .inr (.inr (.inl ⟨rfl,v,h,hs⟩))|true=>exfalso;have hol:t'∈xY ops late early i:=by{unfold xY;rw[hi];simp only[he,if_true,zfl,zfo];exact⟨ht,zfk.2 ⟨_,h,rfl⟩⟩};have hjlt:j<ops.size:=by{have:=h1 j hj;omega};have:=hop i (zfa.2 hilt);rw[hi]at this;simp only[zff,ze9]at this;have hw:=this.1.1.2 t' hol j (zfa.2 hjlt);rw[zfj hjlt]at hw hjd;simp only[zft]at hjd;simp only[hjd,bne_self_eq_false,zfn,zfo]at hw;have a1:=(hopi j ops[j] (zfj hjlt)).1 i hw;have a2:=h1 j hj;omega};exact .inl hf};exact .inl hd};have agreeF:∀j,(sf j).map (slot (fr a vals late free early i (slot a')))=(sf j).map (slot a')∨j≥ops.size:=by{intro j;rcases zfc j ops.size with hj|hj;·{left;refine zfb fun t ht=>?_;obtain⟨_,_,h3⟩:=hopi j ops[j] (zfj hj);exact(hslot i a' hsz hrest t (.inr (.inl (h3 t ht).1))).symm};exact .inr hj};have agreeL:∀j,j<ops.size→(sf j).map (slot (fr a vals late free early i (slot a')))=(sf j).map (slot a'):=fun j hj=>(agreeF j).resolve_right (by omega);have hD:=hstep i o hi (slot a') w' hB (fun j hj=>by have hjlt:j<ops.size:=by{have:=h1 j hj;omega};rw[agreeL j hjlt];exact toP j (hdeps j (by rw[hdepsi];exact hj)));have finish:∀(v:Value)(w'':World),(∀d u,o.dst=some d→(d,u)∈vals++late→v=u)→p i ((sf i).map (slot ((fr a vals late free early i (slot a')).put o.dst v))) w''→Below B w' w''→(∀j,j≠i→j<ops.size→p j ((sf j).map (slot (fr a vals late free early i (slot a')))) w'→p j ((sf j).map (slot (fr a vals late free early i (slot a')))) w'')→∃v',a'.put o.dst v=a'.put o.dst v'∧At (xF ops sf) (yO ops (vals++late) p) i (a'.put o.dst v) w''∧Below B w' w''∧∀j,j≠i→j<ops.size→At (xF ops sf) (yO ops (vals++late) p) j a' w'→At (xF ops sf) (yO ops (vals++late) p) j a' w'':=by{intro v w'' hex hp hb hkeep;have hput:(sf i).map (slot (a'.put o.dst v))=(sf i).map (slot ((fr a vals late free early i (slot a')).put o.dst v)):=by{refine zfb fun t ht=>?_;by_cases hd:o.dst=some t;·{have htlt:t<n:=(hk1 t (zfE _ (h3 t ht).1)).1;rw[hd,zy _ _ _ (by rw[hsz,hn];exact htlt),zy _ _ _ (by rw[Yf,hn];exact htlt)]};rw[yH _ _ _ _ hd,yH _ _ _ _ hd];exact hslot i a' hsz hrest t (.inr (.inl (h3 t ht).1))};refine⟨v,rfl,?_,hb,fun j hji hj hat=>?_⟩;·{unfold At yO xF;simp only[hi,zft];cases hd:o.dst with|none=>rw[hd]at hp hput;simp only[zfJ,zfK];rw[hput];exact hp|some d=>rw[hd]at hp hput;simp only[zfL,zfM,zfK,zfx,zfN,List.tail_cons];refine⟨fun u hu=>?_,by rw[hput];exact hp⟩;have hdlt:d<n:=(hk1 d (zfA _ (zfk.2 ⟨_,hu,rfl⟩))).1;rw[zy _ _ _ (by rw[hsz,hn];exact hdlt),hex d u hd hu]};have hpj:=toP j hat;have hnew:=hkeep j hji hj (by rw[agreeL j hj];exact hpj);rw[agreeL j hj]at hnew;unfold At yO xF at hat⊢;cases hd:(ops[j]?).bind (·.dst)with|none=>simp only[hd,zfJ,zfK]at hat⊢;exact hnew|some d=>simp only[hd]at hat⊢;exact⟨hat.1,by simpa using hnew⟩};have hsel:∀cs b,o.op≠ .select cs b:=fun cs b=>Region.noSelect_spec hs i o cs b hi;unfold wpOp;simp only[hi];unfold Does at hD;rw[←X0 o a' (fr a vals late free early i (slot a')) (by rw[Yf,hsz]) agree]at hD;split;·{rename_i hw;rw[if_pos hw]at hD;left;unfold Oper.wp at hD⊢;rw[←VO o hsel a' _ agree]at hD;refine Ys (F:=fr a vals late free early i (slot a')) ?_ ?_ hD;·{rintro v w''⟨v',he,hex,hp,hb,hkeep⟩;cases hd:o.dst with|none=>rw[hd]at he hp hex;have:=finish v w'' (by rw[hd];exact fun d u h=>by cases h) (by rw[hd];exact hp) hb hkeep;rw[hd]at this;exact this|some d=>rw[hd]at he hp;have hdlt:d<n:=(hk1 d (hk2 d (zfe.2 ⟨o,by have:=Array.mem_of_getElem? hi;simpa using this,hd⟩))).1;have hvv:v=v':=by{have h1:slot ((fr a vals late free early i (slot a')).put (some d) v) d=slot ((fr a vals late free early i (slot a')).put (some d) v') d:=congrArg (fun x=>slot x d) he;rwa[zy _ _ _ (by rw[Yf,hn];exact hdlt),zy _ _ _ (by rw[Yf,hn];exact hdlt)]at h1};subst hvv;have:=finish v w'' hex (by rw[hd];exact hp) hb hkeep;rw[hd]at this;exact this};rintro d w''⟨v,he,_⟩;have h1:=congrArg (fun x=>x.defers.length) he;simp only[xL,zfO]at h1;omega};rename_i hw;rw[if_neg (by simpa using hw)]at hD;exact finish undef w' hD.1 hD.2 (zfv _ _) (fun _ _ _ h=>h)};intro a' w' hdf hsz hrest hB hall;have hfin:a'=fin a (vals++late) free (slot a'):=by{have ht:a'.tmps=(fin a (vals++late) free (slot a')).tmps:=by{refine Array.ext (by rw[fin,Zi,hsz]) fun t h1 h2=>?_;have hs:=hslotE a' hsz hrest t (by by_cases hd:t∈XA ops;·{right;have hmem:t∈(vals++late).map (·.1)++free:=hk2 t hd;rcases zfF.1 hmem with hv|hf;·{right;obtain⟨⟨t',v⟩,hv2,rfl⟩:=zfk.1 hv;obtain⟨o,ho,hod⟩:=zfe.1 hd;obtain⟨i,hi,hoi⟩:=List.mem_iff_getElem.1 ho;have hi':i<ops.size:=by{simpa using hi};have:=hall i hi';unfold At yO xF at this;have hio:ops[i]?=some o:=by{rw[zfj hi'];simpa using hoi};simp only[hio,zft,hod]at this;exact⟨v,hv2,by simpa using this.1 v hv2⟩};exact .inl hf};exact .inl hd);simpa[slot,h1,h2]using hs};have hd:a'.defers=(fin a (vals++late) free (slot a')).defers:=by{rw[hdf,fin,Y9]};obtain⟨x,y⟩:=a';simp only at ht hd;cases hF:fin a (vals++late) free (slot ⟨x,y⟩)with|mk x' y'=>rw[hF]at ht hd;simp only at ht hd;rw[ht,hd]};have hq:=hend (slot a') w' hB (fun i hi=>by have:=hall i hi;rw[←hfin];unfold At yO xF at this;cases hd:(ops[i]?).bind (·.dst)with|none=>simpa[hd]using this|some d=>simp only[hd]at this;simpa using this.2);rw[←hfin]at hq;exact hq
def zco(f:Nat→Oper→Prop):Nat→List Oper→Prop|_,[]=>True|i,o::l=>f i o∧zco f (i+1) l
theorem Sd{f:Nat→Oper→Prop}:∀(l:List Oper)(k i:Nat)(o:Oper),zco f k l→l[i]?=some o→f (k+i) o|[],_,_,_,_,h=>by simp at h|x::l,k,0,o,h,he=>by simp at he;subst he;exact h.1|x::l,k,i+1,o,h,he=>by have:=Sd l (k+1) i o h.2 (by simpa using he);rwa[zfP,Nat.add_comm 1 i]at this
theorem S2(F:Act)(d:Tmp)(v:Value)(h:d<F.tmps.size)(e:F.put (some d) v=F):slot F d=v:=by rw[←e,zy _ _ _ h]
def Uf(P:Program)(ops:Array Oper)(E F:Act)(o:Oper)(w:World):Prop:=if Region.wanted o (yielded ops E.tmps)=true then Oper.wp P o E w (fun a' w'=>∃v,a'=E.put o.dst v∧F.put o.dst v=F∧Below w.heap.size w w') (fun _ _ _=>False)else F.put o.dst undef=F
theorem VD{id:Nat}{a:Act}{w:World}(hm:P.follows .mixedOrders=true)(hs:Region.noSelect ops=true)(vals late:List (Tmp×Value))(early:Nat→Bool)(n:Nat)(hn:a.tmps.size=n)(hok:NE ops n vals late [] (fun _=>[]) early=true)(hstep:∀E F:Act,E=putAll a vals→F=putAll a (vals++late)→∀w',Below w.heap.size w w'→zco (fun i o=>Uf P ops (if early i then E else F) F o w') 0 ops.toList)(hend:∀w',Below w.heap.size w w'→Q .normal (putAll a (vals++late)) w'):(Code.region id ops true).wp P Q a w:=by have hfin:∀g l,fin a l [] g=putAll a l:=fun g l=>by{simp[fin]};have hok':=hok;simp only[NE,zff,ze9,zfh,zfo,zfQ]at hok;obtain⟨⟨⟨⟨hk1,hk2⟩,hnod⟩,hdn⟩,hop⟩:=hok;refine wp_region_run hm hs vals late [] (fun _=>[]) early (fun _ _ _=>True) n hn hok' w.heap.size ?_ ?_;·{intro i o hi g w' hB _;have hD:=Sd ops.toList 0 i o (hstep _ _ rfl rfl w' hB) (by simpa using hi);have hfr:fr a vals late [] early i g=if early i then putAll a vals else putAll a (vals++late):=by{unfold fr;rw[hfin,hfin]};rw[hfr];rw[zfR]at hD;have hex:∀(v:Value),(putAll a (vals++late)).put o.dst v=putAll a (vals++late)→∀d u,o.dst=some d→(d,u)∈vals++late→v=u:=by{intro v hv d u hd hu;have hdlt:d<n:=(hk1 d (zfk.2 ⟨_,hu,rfl⟩)).1;rw[hd]at hv;have h1:=S2 _ d v (by rw[Zi,hn];exact hdlt) hv;rw[←h1,yU (vals++late) d u a (by rw[hn];exact hdlt) hnod hu]};generalize(if early i=true then putAll a vals else putAll a (vals++late))=E at hD⊢;unfold Uf at hD;unfold Does;split;·{rename_i hw;rw[if_pos hw]at hD;unfold Oper.wp at hD⊢;refine Ys (F:=E) ?_ ?_ hD;·{rintro v w''⟨v',he,hF,hb⟩;refine⟨v',he,hex v' hF,trivial,hb.mono (by have:=hB.size;omega),fun _ _ _ h=>h⟩};rintro d w''⟨v,he,_⟩;have h1:=congrArg (fun x=>x.defers.length) he;simp only[xL,zfO]at h1;omega};rename_i hw;rw[if_neg hw]at hD;exact⟨hex undef hD,trivial⟩};intro g w' hB _;rw[hfin];exact hend w' hB
theorem wp_region_vals{id:Nat}{a:Act}{w:World}(hm:P.follows .mixedOrders=true)(hs:Region.noSelect ops=true)(vals:List (Tmp×Value))(n:Nat)(hn:a.tmps.size=n)(hok:NE ops n vals [] [] (fun _=>[]) (fun _=>false)=true)(hstep:∀F:Act,F=putAll a vals→∀w',Below w.heap.size w w'→zco (fun _ o=>Uf P ops F F o w') 0 ops.toList)(hend:∀w',Below w.heap.size w w'→Q .normal (putAll a vals) w'):(Code.region id ops true).wp P Q a w:=by refine VD hm hs vals [] (fun _=>false) n hn hok ?_ ?_;·{intro E F _ hF w' hB;rw[zfQ]at hF;exact hstep F hF w' hB};intro w' hB;rw[zfQ];exact hend w' hB
theorem doesV_val{E F:Act}{o:Oper}{w:World}{v:Value}(hr:(execOp E.eval o).run P w= .ok (.value v) w)(hw:Region.wanted o (yielded ops E.tmps)=true)(hF:F.put o.dst v=F):Uf P ops E F o w:=by unfold Uf;rw[if_pos hw];unfold Oper.wp;rw[hr];exact⟨v,rfl,hF,zfv _ _⟩
theorem doesV_skip{E F:Act}{o:Oper}{w:World}(hw:Region.wanted o (yielded ops E.tmps)=false)(hF:F.put o.dst undef=F):Uf P ops E F o w:=by unfold Uf;rw[if_neg (by rw[hw];exact zfG)];exact hF
theorem doesV_call{E F:Act}{o:Oper}{w:World}{v:Value}{f:FuncId}{args:Array Value}(hc:Calls P f args w fun e w'=>e= .returned v∧Below w.heap.size w w')(hr:(execOp E.eval o).run P w= .ok (.enter f args) w)(hw:Region.wanted o (yielded ops E.tmps)=true)(hF:F.put o.dst v=F):Uf P ops E F o w:=by unfold Uf;rw[if_pos hw];unfold Oper.wp;rw[hr];refine Calls.mono hc ?_;rintro e w'⟨rfl,hb⟩;exact⟨v,rfl,hF,hb⟩
end
end Reg
structure Val where
 k : Int
 n : Int
 s : ByteArray
abbrev emp:ByteArray:=⟨#[]⟩
abbrev Val.v(a:Val):Value:= .agg #[.int .i64 a.k,.int .i64 a.n,.string a.s]
def Val.eq(a b:Val):Bool:=decide (a.k=b.k)&&(decide (a.n=b.n)&&decide (a.s.toList=b.s.toList))
theorem zv{a b:ByteArray}(h:a.toList=b.toList):a=b:=by rw[zfS,zfS]at h;obtain⟨⟨x⟩⟩:=a;obtain⟨⟨y⟩⟩:=b;simp at h;rw[h]
theorem Val.eq_iff{a b:Val}:a.eq b=true↔a=b:=by obtain⟨k,n,s⟩:=a;obtain⟨k',n',s'⟩:=b;simp only[Val.eq,zff,zfh,Val.mk.injEq];constructor;·{rintro⟨h1,h2,h3⟩;exact⟨h1,h2,zv h3⟩};rintro⟨h1,h2,h3⟩;exact⟨h1,h2,by rw[h3]⟩
theorem Val.eq_self(a:Val):a.eq a=true:=Val.eq_iff.2 rfl
theorem Val.eq_false{a b:Val}(h:a≠b):a.eq b=false:=by cases e:a.eq b;·{rfl};exact absurd (Val.eq_iff.1 e) h
def tt:Val:=⟨1,1,emp⟩
def ff:Val:=⟨1,0,emp⟩
def nl:Val:=⟨0,0,emp⟩
def tv(b:Bool):Val:=if b then tt else ff
def iv(n:Int):Val:=⟨2,n,emp⟩
theorem S3(w:World)(k n k' n':Int)(s s':ByteArray):(Op.equalIn 10000 80 (.agg #[.int .i64 k,.int .i64 n,.string s]) (.agg #[.int .i64 k',.int .i64 n',.string s'])).run Tryz.prog w= .ok (Val.eq ⟨k,n,s⟩ ⟨k',n',s'⟩) w:=by simp[go_sem,Tryz.underlying80,Tryz.underlying3,Tryz.underlying9];by_cases h1:k=k'<;>by_cases h2:n=n'<;>by_cases h3:s.toList=s'.toList<;>simp[Val.eq,h1,h2,h3]
theorem Se(w:World)(k n k' n':Int)(s s':ByteArray):(binOp .eql 80 (.agg #[.int .i64 k,.int .i64 n,.string s]) (.agg #[.int .i64 k',.int .i64 n',.string s'])).run Tryz.prog w= .ok (.bool (Val.eq ⟨k,n,s⟩ ⟨k',n',s'⟩)) w:=by rw[run_eql_struct,S3];rfl
theorem Sf(w:World)(k n k' n':Int)(s s':ByteArray):(binOp .neq 80 (.agg #[.int .i64 k,.int .i64 n,.string s]) (.agg #[.int .i64 k',.int .i64 n',.string s'])).run Tryz.prog w= .ok (.bool !(Val.eq ⟨k,n,s⟩ ⟨k',n',s'⟩)) w:=by rw[run_neq_struct,S3];rfl
theorem mixed:Tryz.prog.follows .mixedOrders=true:=by kernel_rfl
def Bx(w:World)(b:Nat)(a:Val):Prop:=w.heap[b]?=some (.cells #[.int .i64 a.k,.int .i64 a.n,.string a.s] 80 (0,0))
theorem Bx.cell0{w:World}{b:Nat}{a:Val}(h:Bx w b a):w.cell? ⟨b,0,none⟩=some (.int .i64 a.k):=by unfold Bx at h;simp[World.cell?,h]
theorem Bx.cell1{w:World}{b:Nat}{a:Val}(h:Bx w b a):w.cell? ⟨b,1,none⟩=some (.int .i64 a.n):=by unfold Bx at h;simp[World.cell?,h]
theorem Bx.cell2{w:World}{b:Nat}{a:Val}(h:Bx w b a):w.cell? ⟨b,2,none⟩=some (.string a.s):=by unfold Bx at h;simp[World.cell?,h]
theorem Bx.lt{w:World}{b:Nat}{a:Val}(h:Bx w b a):b<w.heap.size:=by rcases zfc b w.heap.size with hlt|hge;·{exact hlt};unfold Bx at h;rw[zfd hge]at h;cases h
theorem Bx.below{w w':World}{b B:Nat}{a:Val}(h:Bx w b a)(hb:Below B w w')(hlt:b<B):Bx w' b a:=(hb.block b hlt).trans h
theorem Bx.after{w w':World}{b:Nat}{a:Val}(h:Bx w b a)(hb:Below w.heap.size w w'):Bx w' b a:=h.below hb h.lt
theorem Bx.new(w:World)(a:Val):Bx (w.alloc (.cells #[.int .i64 a.k,.int .i64 a.n,.string a.s] 80)) w.heap.size a:=by show(w.heap.push _)[w.heap.size]?=_;simp
theorem Bx.alloc{w:World}{b:Nat}{a:Val}(h:Bx w b a)(o:Obj):Bx (w.alloc o) b a:=(zfT w o b h.lt).trans h
theorem Bx.load{w:World}{b:Nat}{a:Val}(h:Bx w b a):(Instr.loadAt 80 (.pointer (some ⟨b,0,none⟩))).run Tryz.prog w= .ok a.v w:=by have h0:=h.cell0;have h1:=h.cell1;have h2:=h.cell2;go_simp
theorem zn{P:Program}{F:Act}{w:World}{x:Operand}{o:Oper}(ho:o.op= .move x):(execOp F.eval o).run P w= .ok (.value (F.eval x)) w:=by simp[execOp,ho]
theorem Zz{P:Program}{F:Act}{w:World}{x:Operand}{o:Oper}(ho:o.op= .assign x):(execOp F.eval o).run P w= .ok (.value (F.eval x)) w:=by simp[execOp,ho]
theorem zq{P:Program}{F:Act}{w:World}{t:Tmp}{x y:Operand}{o:Oper}(b:Bool)(ho:o.op= .pick (.tmp t) x y)(ht:Reg.slot F t= .bool b):(execOp F.eval o).run P w= .ok (.value (if b then F.eval x else F.eval y)) w:=by have e:F.eval (.tmp t)= .bool b:=ht;simp only[execOp,ho,e];cases b<;>simp[asBool]
theorem xj{F:Act}{w:World}{b:Nat}{a:Val}{t:Tmp}{o:Oper}(h:Bx w b a)(ho:o.op= .load 80 (.tmp t))(ht:Reg.slot F t= .pointer (some ⟨b,0,none⟩)):(execOp F.eval o).run Tryz.prog w= .ok (.value a.v) w:=by have e:F.eval (.tmp t)= .pointer (some ⟨b,0,none⟩):=ht;simp[execOp,ho,e,h.load]
theorem ya{F:Act}{w:World}{f:FuncId}{args:Array Operand}{ats:Array TypeId}{vs:Array Value}{o:Oper}(hE:∀args w,(callFunc f args).run Tryz.prog w= .ok (.enter f args) w)(ho:o.op= .call {callee:= .value (.func f),args:=args,argTypes:=ats})(hv:args.map F.eval=vs):(execOp F.eval o).run Tryz.prog w= .ok (.enter f vs) w:=by have h:=hE (args.map F.eval) w;subst hv;simp[execOp,ho,resolve,go_sem,h]
theorem Bx.frozen{w:World}{b:Nat}{a:Val}(h:Bx w b a)(i:Nat):w.frozen? ⟨b,i,none⟩=false:=by unfold Bx at h;simp[World.frozen?,h]
theorem Bx.new1(w:World)(a:Val)(o:Obj):Bx ((w.alloc o).alloc (.cells #[.int .i64 a.k,.int .i64 a.n,.string a.s] 80)) (w.heap.size+1) a:=by have:=Bx.new (w.alloc o) a;simpa using this
def zd0(w:World)(b:Nat)(a:Val):World:=((w.setCell ⟨b,0,none⟩ (.int .i64 a.k)).setCell ⟨b,1,none⟩ (.int .i64 a.n)).setCell ⟨b,2,none⟩ (.string a.s)
theorem Bx.put{w:World}{b:Nat}{x:Val}(h:Bx w b x)(a:Val):Bx (zd0 w b a) b a:=by unfold Bx at h;simp[Bx,zd0,World.setCell,zfU,h]
theorem zH{B:Nat}{w0 w:World}{b:Nat}(h:Below B w0 w)(hb:B≤b)(a:Val):Below B w0 (zd0 w b a):=((h.setCell hb _).setCell hb _).setCell hb _
theorem zb(w:World)(o:Obj):Below w.heap.size w (w.alloc o):=(zfv _ _).alloc (zfm _) _
theorem xr(w:World)(o o':Obj):Below w.heap.size w ((w.alloc o).alloc o'):=(zb _ _).alloc (by simp) _
theorem Yt{P:Program}{F:Act}{w:World}{t:Tmp}{k:Nat}{vs:Array Value}{v:Value}{o:Oper}(ho:o.op= .extract (.tmp t) k)(ht:Reg.slot F t= .tuple vs)(hv:vs[k]?=some v):(execOp F.eval o).run P w= .ok (.value v) w:=by have e1:F.eval (.tmp t)= .tuple vs:=ht;simp only[execOp,ho,e1,zfV,Instr.extract,hv,zfW,zfX]
theorem WK{P:Program}{F:Act}{w:World}{t:Tmp}{ty:TypeId}{o:Oper}(b:Bool)(ho:o.op= .unOp .not ty (.tmp t))(ht:Reg.slot F t= .bool b):(execOp F.eval o).run P w= .ok (.value (.bool !b)) w:=by have e1:F.eval (.tmp t)= .bool b:=ht;simp[execOp,ho,e1,Op.unary]
end Go.Proofs.YthjjpdjdnhjdbaaGreatDoor
