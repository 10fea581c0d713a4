/-
  Part 3 of 37 of what the proof leans on: each part below says what it proves, and of what; no condition besides.
-/
import Derived.Test.YthjjpdjdnhjdbaaGreatDoorQ01
import Derived.Test.YthjjpdjdnhjdbaaGreatDoorQ02
set_option linter.unusedVariables false
set_option linter.unusedSimpArgs false
namespace Go.Proofs.YthjjpdjdnhjdbaaGreatDoor
open Go
set_option maxRecDepth 100000
def zm:List UInt8:=[116,97,98,108,101]
def zj:List UInt8:=[99,104,101,99,107]
def zE:List UInt8:=[118,105,101,119]
def zT:List UInt8:=[102,114,111,109]
def zG:List UInt8:=[106,111,105,110]
def Y6:List UInt8:=[111,110]
def zl:List UInt8:=[119,104,101,114,101]
def zr:List UInt8:=[112,105,99,107]
def ze:List UInt8:=[103,114,111,117,112]
def Z0:List UInt8:=[98,111,111,108]
def XE:List UInt8:=[105,110,116]
def Z4:List UInt8:=[116,101,120,116]
def zf:List UInt8:=[110,117,108,108]
def zh:List UInt8:=[117,110,105,113,117,101]
def zP:List UInt8:=[114,101,102]
def zL:List UInt8:=[114,101,115,116,114,105,99,116]
def zU:List UInt8:=[99,97,115,99,97,100,101]
def zV:List UInt8:=[115,101,116,110,117,108,108]
def xT:List UInt8:=[99,111,117,110,116]
def Wi:List UInt8:=[115,117,109]
def Wj:List UInt8:=[109,105,110]
def Wl:List UInt8:=[109,97,120]
def yV:List UInt8:=[116,114,117,101]
def zW:List UInt8:=[102,97,108,115,101]
def VH:List UInt8:=[97,110,100]
def Ny:List UInt8:=[111,114]
def VI:List UInt8:=[110,111,116]
def X5:List UInt8:=[40]
def X6:List UInt8:=[41]
def Xc:List UInt8:=[91]
def Y7:List UInt8:=[93]
def yG:List UInt8:=[44]
def Yd:List UInt8:=[61]
def LA:List UInt8:=[60]
def LB:List UInt8:=[43]
def LC:List UInt8:=[45]
def LD:List UInt8:=[42]
def Xd:List UInt8:=[63]
def kws:List (List UInt8):=[zm,zj,zE,zT,zG,Y6,zl,zr,ze,Z0,XE,Z4,zf,zh,zP,zL,zU,zV,xT,Wi,Wj,Wl,yV,zW,VH,Ny,VI]
def isW(s:List UInt8)(t:Tk):Bool:=(t.k !=1)&&(t.t.data.toList==s)
def xO(l:List UInt8):Bool:=Za l&&!kws.contains l
structure Cl where
 name : ByteArray
 kind : Int
 nul : Bool
 uni : Bool
 ref : ByteArray
 act : Int
structure Tb where
 name : ByteArray
 cols : List Cl
 checks : List (List Nd)
structure Ag where
 fn : Int
 col : Int
structure Vw where
 name : ByteArray
 frm : ByteArray
 wth : ByteArray
 on0 : Int
 on1 : Int
 whr : List Nd
 pick : List Int
 grp : Bool
 aggs : List Ag
structure Df where
 k : Int
 t : Tb
 v : Vw
def tb0:Tb:=⟨emp,[],[]⟩
def vw0:Vw:=⟨emp,emp,emp,0,0,[],[],false,[]⟩
def zS:List Tk→Option (ByteArray×List Tk)|[]=>none|t::r=>if t.k==0&&xO t.t.data.toList then some (t.t,r)else none
def xN:List Tk→Option (Int×List Tk)|[]=>none|t::r=>if t.k==1&&(t.v.k==2&&(decide (0≤t.v.n)&&decide (t.v.n≤99)))then some (t.v.n,r)else none
def zQ(s:List UInt8):List Tk→Option (List Tk)|[]=>none|t::r=>if isW s t then some r else none
def zc(s:List UInt8):List Tk→Bool×List Tk|[]=>(false,[])|t::r=>if isW s t then(true,r)else(false,t::r)
def Y8:List (List UInt8)→Int→Tk→Option Int|[],_,_=>none|s::ws,i,t=>if isW s t then some i else Y8 ws (i+1) t
def Zu(ws:List (List UInt8)):List Tk→Option (Int×List Tk)|[]=>none|t::r=>(Y8 ws 0 t).map fun i=>(i,r)
def Un:List (List UInt8):=[LB,LC,LD,Yd,LA,VH,Ny,VI]
def xP(n:Nat):List UInt8:=99::Lib.itoa (n:Int)
def Wm(l:List UInt8):Option Nat:=(List.range 100).find? fun n=>l==xP n
def yh:List Tk→Option (Nd×List Tk)|[]=>none|t::r=>if isW zf t then(if(zc Xd r).1 then some (⟨10,0,nl⟩,(zc Xd r).2)else some (⟨1,0,nl⟩,r))else if isW yV t then some (⟨1,0,tt⟩,r)else if isW zW t then some (⟨1,0,ff⟩,r)else match Y8 Un 2 t with|some i=>some (⟨i,0,nl⟩,r)|none=>if t.k==1 then some (⟨1,0,t.v⟩,r)else if t.k==0 then(Wm t.t.data.toList).map fun(n:Nat)=>((⟨0,(n:Int),nl⟩:Nd),r)else none
def YP:Nat→List Tk→Option (List Nd×List Tk)|0,_=>none|_+1,[]=>none|n+1,t::r=>if isW Y7 t then some ([],r)else(yh (t::r)).bind fun p=>(YP n p.2).map fun q=>(p.1::q.1,q.2)
def xu(l:List Tk):Option (List Nd×List Tk):=(zQ Xc l).bind fun r=>(YP (r.length+1) r).bind fun p=>if p.1.length≤100 then some p else none
def zB(l:List Tk):Option (Cl×List Tk):=(zS l).bind fun a=>(Zu [Z0,XE,Z4] a.2).bind fun k=>if(zc zP (zc zh (zc zf k.2).2).2).1 then(zS (zc zP (zc zh (zc zf k.2).2).2).2).bind fun b=>(Zu [zL,zU,zV] b.2).map fun c=>(⟨a.1,k.1+1,(zc zf k.2).1,(zc zh (zc zf k.2).2).1,b.1,c.1⟩,c.2)else some (⟨a.1,k.1+1,(zc zf k.2).1,(zc zh (zc zf k.2).2).1,emp,0⟩,(zc zh (zc zf k.2).2).2)
def T6{α:Type}(p:List Tk→Option (α×List Tk)):Nat→List Tk→Option (List α×List Tk)|0,_=>none|n+1,l=>(p l).bind fun a=>if(zc yG a.2).1 then(T6 p n (zc yG a.2).2).map fun q=>(a.1::q.1,q.2)else some ([a.1],a.2)
def YQ{α:Type}(p:List Tk→Option (α×List Tk))(l:List Tk):Option (List α×List Tk):=T6 p (l.length+1) l
def xx:Nat→List Tk→Option (List (List Nd)×List Tk)|0,_=>none|n+1,l=>if(zc zj l).1 then(xu (zc zj l).2).bind fun e=>(xx n e.2).map fun q=>(e.1::q.1,q.2)else some ([],l)
def ZB(l:List Tk):Option (Tb×List Tk):=(zS l).bind fun a=>(zQ X5 a.2).bind fun r=>(YQ zB r).bind fun c=>(zQ X6 c.2).bind fun q=>(xx (q.length+1) q).bind fun k=>if c.1.length≤40∧k.1.length≤40 then some (⟨a.1,c.1,k.1⟩,k.2)else none
def YR(l:List Tk):Option (Ag×List Tk):=(Zu [xT,Wi,Wj,Wl] l).bind fun f=>if f.1=0 then some (⟨0,0⟩,f.2)else(xN f.2).map fun c=>(⟨f.1,c.1⟩,c.2)
def ZK(l:List Tk):Option ((ByteArray×Int×Int)×List Tk):=if(zc zG l).1 then(zS (zc zG l).2).bind fun a=>(zQ Y6 a.2).bind fun r=>(xN r).bind fun x=>(zQ Yd x.2).bind fun q=>(xN q).map fun y=>((a.1,x.1,y.1),y.2)else some ((emp,0,0),l)
def xI(l:List Tk):Option (List Nd×List Tk):=if(zc zl l).1 then xu (zc zl l).2 else some ([],l)
def xJ(l:List Tk):Option (List Int×List Tk):=if l.isEmpty||(zc ze l).1 then some ([],l)else YQ xN l
def ZC(l:List Tk):Option ((Bool×List Ag)×List Tk):=if(zc ze l).1 then(if(zc ze l).2.isEmpty then some ((true,[]),[])else(YQ YR (zc ze l).2).map fun a=>((true,a.1),a.2))else some ((false,[]),l)
def Xe(l:List Tk):Option (Vw×List Tk):=(zS l).bind fun a=>(zQ zT a.2).bind fun r=>(zS r).bind fun b=>(ZK b.2).bind fun j=>(xI j.2).bind fun e=>(zQ zr e.2).bind fun q=>(xJ q).bind fun k=>(ZC k.2).bind fun g=>if k.1.length≤40∧g.1.2.length≤40 then some (⟨a.1,b.1,j.1.1,j.1.2.1,j.1.2.2,e.1,k.1,g.1.1,g.1.2⟩,g.2)else none
def zX(l:List Tk):Option Df:=(Zu [zm,zE] l).bind fun k=>if k.1=0 then(ZB k.2).bind fun t=>if t.2.isEmpty then some ⟨0,t.1,vw0⟩else none else(Xe k.2).bind fun v=>if v.2.isEmpty then some ⟨1,tb0,v.1⟩else none
def tW(l:List UInt8):Tk:=⟨0,ba l,nl⟩
def tN(b:ByteArray):Tk:=⟨0,b,nl⟩
def tS(l:List UInt8):Tk:=⟨2,ba l,nl⟩
def ndT(x:Nd):List Tk:=if x.op=10 then[tW zf,tS Xd]else if x.op=1 then(if x.v.eq nl then[tW zf]else if x.v.eq tt then[tW yV]else if x.v.eq ff then[tW zW]else[⟨1,emp,x.v⟩])else if x.op=0 then[tW (xP x.n.toNat)]else if x.op=2 then[tS LB]else if x.op=3 then[tS LC]else if x.op=4 then[tS LD]else if x.op=5 then[tS Yd]else if x.op=6 then[tS LA]else if x.op=7 then[tW VH]else if x.op=8 then[tW Ny]else[tW VI]
def Zb(e:List Nd):List Tk:=tS Xc::(e.flatMap ndT++[tS Y7])
def xR{α:Type}(f:α→List Tk):List α→List Tk|[]=>[]|a::r=>f a++(if r.isEmpty then[]else tS yG::xR f r)
def VJ(k:Int):List UInt8:=if k=1 then Z0 else if k=2 then XE else Z4
def zak(a:Int):List UInt8:=if a=0 then zL else if a=1 then zU else zV
def fnW(f:Int):List UInt8:=if f=0 then xT else if f=1 then Wi else if f=2 then Wj else Wl
def clT(c:Cl):List Tk:=tN c.name::tW (VJ c.kind)::((if c.nul then[tW zf]else[])++((if c.uni then[tW zh]else[])++(if c.ref.toList.isEmpty then[]else[tW zP,tN c.ref,tW (zak c.act)])))
def tbT(t:Tb):List Tk:=tN t.name::tS X5::(xR clT t.cols++tS X6::t.checks.flatMap fun e=>tW zj::Zb e)
def agT(a:Ag):List Tk:=tW (fnW a.fn)::(if a.fn=0 then[]else[yY a.col])
def vwT(v:Vw):List Tk:=tN v.name::tW zT::tN v.frm::((if v.wth.toList.isEmpty then[]else[tW zG,tN v.wth,tW Y6,yY v.on0,tS Yd,yY v.on1])++((if v.whr.isEmpty then[]else tW zl::Zb v.whr)++tW zr::(xR (fun n=>[yY n]) v.pick++(if v.grp then tW ze::xR agT v.aggs else[]))))
def yL(d:Df):List Tk:=if d.k=0 then tW zm::tbT d.t else tW zE::vwT d.v
def Zy(n:Int):Bool:=decide (0≤n)&&decide (n≤99)
def YF(x:Nd):Bool:=if x.op=0 then Zy x.n&&x.v.eq nl else if x.op=1 then decide (x.n=0)&&Xz x.v else decide (2≤x.op)&&(decide (x.op≤10)&&(decide (x.n=0)&&x.v.eq nl))
def Uo(e:List Nd):Bool:=decide (e.length≤100)&&e.all YF
def YS(c:Cl):Bool:=xO c.name.data.toList&&(decide (1≤c.kind)&&(decide (c.kind≤3)&&(if c.ref.toList.isEmpty then decide (c.act=0)else xO c.ref.data.toList&&(decide (0≤c.act)&&decide (c.act≤2)))))
def ZL(t:Tb):Bool:=xO t.name.data.toList&&(!t.cols.isEmpty&&(decide (t.cols.length≤40)&&(decide (t.checks.length≤40)&&(t.cols.all YS&&t.checks.all Uo))))
def Z9(a:Ag):Bool:=if a.fn=0 then decide (a.col=0)else decide (0≤a.fn)&&(decide (a.fn≤3)&&Zy a.col)
def Zk(v:Vw):Bool:=xO v.name.data.toList&&(xO v.frm.data.toList&&((if v.wth.toList.isEmpty then decide (v.on0=0)&&decide (v.on1=0)else xO v.wth.data.toList&&(Zy v.on0&&Zy v.on1))&&(Uo v.whr&&(decide (v.pick.length≤40)&&(v.pick.all Zy&&(decide (v.aggs.length≤40)&&(v.aggs.all Z9&&(v.grp||v.aggs.isEmpty))))))))
def Ye(d:Df):Prop:=(d.k=0∧ZL d.t=true∧d.v=vw0)∨(d.k=1∧d.t=tb0∧Zk d.v=true)
theorem Zc{s:List UInt8}{t:Tk}{r:List Tk}(h:isW s t=true):zc s (t::r)=(true,r):=by simp[zc,h]
theorem Zl{s:List UInt8}{t:Tk}{r:List Tk}(h:isW s t=false):zc s (t::r)=(false,t::r):=by simp[zc,h]
theorem ZM{s:List UInt8}{t:Tk}{r:List Tk}(h:isW s t=true):zQ s (t::r)=some r:=by simp[zQ,h]
theorem Zf{b:ByteArray}(h:xO b.data.toList=true)(r:List Tk):zS (tN b::r)=some (b,r):=by simp[zS,tN,h]
theorem Yj{n:Int}(h:Zy n=true)(r:List Tk):xN (yY n::r)=some (n,r):=by unfold Zy at h;simp only[zff,zfh]at h;simp[xN,yY,iv,h.1,h.2]
theorem NO{k:Int}(h1:1≤k)(h3:k≤3)(r:List Tk):Zu [Z0,XE,Z4] (tW (VJ k)::r)=some (k-1,r):=by have:k=1∨k=2∨k=3:=by{omega};rcases this with rfl|rfl|rfl<;>rfl
theorem zal{k:Int}(h1:0≤k)(h3:k≤2)(r:List Tk):Zu [zL,zU,zV] (tW (zak k)::r)=some (k,r):=by have:k=0∨k=1∨k=2:=by{omega};rcases this with rfl|rfl|rfl<;>rfl
theorem LE{k:Int}(h1:0≤k)(h3:k≤3)(r:List Tk):Zu [xT,Wi,Wj,Wl] (tW (fnW k)::r)=some (k,r):=by have:k=0∨k=1∨k=2∨k=3:=by{omega};rcases this with rfl|rfl|rfl|rfl<;>rfl
def zd2(t:Tk):Prop:=t=tS yG∨t=tS X6
theorem Pg{t:Tk}(h:zd2 t):isW zf t=false∧isW zh t=false∧isW zP t=false:=by rcases h with rfl|rfl<;>exact⟨rfl,rfl,rfl⟩
theorem S8{b:ByteArray}(h:b.toList.isEmpty=true):b=emp:=WL h
theorem Tc{c:Cl}(h:YS c=true){t:Tk}(ht:zd2 t)(r:List Tk):zB (clT c++t::r)=some (c,t::r):=by obtain⟨nm,k,nu,un,rf,ac⟩:=c;unfold YS at h;simp only[zff,zfh]at h;obtain⟨h1,h2,h3,h4⟩:=h;obtain⟨m1,m2,m3⟩:=Pg ht;have n1:isW zf (tW zh)=false:=rfl;have n2:isW zf (tW zP)=false:=rfl;have n3:isW zh (tW zP)=false:=rfl;have y1:isW zf (tW zf)=true:=rfl;have y2:isW zh (tW zh)=true:=rfl;have y3:isW zP (tW zP)=true:=rfl;have hk:k-1+1=k:=by{omega};unfold zB clT;simp only[zfM];rw[Zf h1];simp only[zft];rw[NO h2 h3];simp only[zft,hk];cases hr:rf.toList.isEmpty;·{rw[hr]at h4;simp only[zfr,if_false,zff,zfh]at h4;cases nu<;>cases un<;>simp[Zc,Zl,n1,n2,n3,y1,y2,y3,Zf h4.1,zal h4.2.1 h4.2.2]};rw[hr]at h4;simp only[if_true,zfh]at h4;have:=S8 hr;subst this;subst h4;cases nu<;>cases un<;>simp[Zc,Zl,n1,y1,y2,m1,m2,m3]
theorem WR{α:Type}{p:List Tk→Option (α×List Tk)}{f:α→List Tk}{V:α→Prop}{E:Tk→Prop}(hc:E (tS yG))(hp:∀a,V a→∀t r,E t→p (f a++t::r)=some (a,t::r)):∀(l:List α)(n:Nat)(t:Tk)(r:List Tk),l≠[]→(∀a∈l,V a)→E t→isW yG t=false→l.length≤n→T6 p n (xR f l++t::r)=some (l,t::r)|[],_,_,_,h,_,_,_,_=>absurd rfl h|a::l,0,t,r,_,_,_,_,hn=>by simp at hn|[a],n+1,t,r,_,hV,ht,hm,_=>by rw[T6,xR];simp only[List.isEmpty_nil,if_true,zfQ];rw[hp a (hV a (by simp)) t r ht];simp[Zl hm]|a::b::l,n+1,t,r,_,hV,ht,hm,hn=>by have ih:=WR (p:=p) (f:=f) (V:=V) (E:=E) hc hp (b::l) n t r (by simp) (fun x hx=>hV x (zge _ hx)) ht hm (by simp at hn⊢;omega);rw[T6,xR];simp only[zgf,zfr,if_false,zfC,zfM];rw[hp a (hV a (by simp)) _ _ hc];have hy:isW yG (tS yG)=true:=rfl;simp only[zft,Zc hy,if_true,ih,zgb]
theorem ZN{α:Type}{p:List Tk→Option (α×List Tk)}{f:α→List Tk}{V:α→Prop}{E:Tk→Prop}(hc:E (tS yG))(hp:∀a,V a→∀t r,E t→p (f a++t::r)=some (a,t::r))(hp0:∀a,V a→p (f a)=some (a,[])):∀(l:List α)(n:Nat),l≠[]→(∀a∈l,V a)→l.length≤n→T6 p n (xR f l)=some (l,[])|[],_,h,_,_=>absurd rfl h|a::l,0,_,_,hn=>by simp at hn|[a],n+1,_,hV,_=>by rw[T6,xR];simp only[List.isEmpty_nil,if_true,zfQ];rw[hp0 a (hV a (by simp))];simp[zc]|a::b::l,n+1,_,hV,hn=>by have ih:=ZN (p:=p) (f:=f) (V:=V) (E:=E) hc hp hp0 (b::l) n (by simp) (fun x hx=>hV x (zge _ hx)) (by simp at hn⊢;omega);rw[T6,xR];simp only[zgf,zfr,if_false];rw[hp a (hV a (by simp)) _ _ hc];have hy:isW yG (tS yG)=true:=rfl;simp only[zft,Zc hy,if_true,ih,zgb]
theorem Wv{α:Type}{f:α→List Tk}(hf:∀a,1≤(f a).length):∀l:List α,l.length≤(xR f l).length|[]=>zgg _|a::l=>by have ih:=Wv hf l;have h1:=hf a;rw[xR];cases l with|nil=>simpa using h1|cons b l=>simp only[zgf,zfr,if_false,zf4,zfO]at ih⊢;omega
theorem Ph:∀n,n<100→Wm (xP n)=some n:=by decide+kernel
theorem YT{l:List UInt8}{n:Nat}(h:Wm l=some n):n<100∧l=xP n:=by unfold Wm at h;have h1:=List.find?_some h;have h2:=zgh h;exact⟨by simpa using h2,by simpa using h1⟩
theorem Sq(x:Nd):∃t r,ndT x=t::r∧isW Y7 t=false∧isW Xd t=false:=by unfold ndT;(repeat' split);all_goals exact⟨_,_,rfl,rfl,rfl⟩
theorem Qf{x:Nd}(h:YF x=true){t:Tk}(ht:isW Xd t=false)(r:List Tk):yh (ndT x++t::r)=some (x,t::r):=by obtain⟨op,n,v⟩:=x;unfold YF at h;simp only at h;unfold ndT;simp only;by_cases h0:op=0;·{subst h0;simp only[if_true,zff,Val.eq_iff]at h;obtain⟨hn,rfl⟩:=h;unfold Zy at hn;simp only[zff,zfh]at hn;obtain⟨m,rfl⟩:∃m:Nat,n=m:=⟨n.toNat,by omega⟩;have hm:=Ph m (by omega);rw[if_neg (by decide),if_neg (by decide),if_pos rfl];simp only[zfM,zfK,zgi];have e1:isW zf (tW (xP m))=false:=rfl;have e2:isW yV (tW (xP m))=false:=rfl;have e3:isW zW (tW (xP m))=false:=rfl;have e4:Y8 Un 2 (tW (xP m))=none:=rfl;have e5:(tW (xP m)).t.data.toList=xP m:=rfl;have e6:((tW (xP m)).k==1)=false:=rfl;have e7:((tW (xP m)).k==0)=true:=rfl;rw[yh,e1,e2,e3,e4,e5,e6,e7,hm];rfl};rw[if_neg h0]at h;by_cases h1:op=1;·{subst h1;simp only[if_true,zff,zfh]at h;obtain⟨rfl,hv⟩:=h;rw[if_neg (by decide),if_pos rfl];split;·{rename_i hv2;have:=Val.eq_iff.1 hv2;subst this;have e1:isW zf (tW zf)=true:=rfl;simp[yh,e1,Zl ht]};split;·{rename_i hv2;have:=Val.eq_iff.1 hv2;subst this;rfl};split;·{rename_i hv2;have:=Val.eq_iff.1 hv2;subst this;rfl};rfl};rw[if_neg h1]at h;simp only[zff,zfh,Val.eq_iff]at h;obtain⟨h2,h3,rfl,rfl⟩:=h;have:op=2∨op=3∨op=4∨op=5∨op=6∨op=7∨op=8∨op=9∨op=10:=by{omega};rcases this with rfl|rfl|rfl|rfl|rfl|rfl|rfl|rfl|rfl<;>rfl
theorem WT(r:List Tk):∀(e:List Nd)(n:Nat),(∀x∈e,YF x=true)→e.length<n→YP n (e.flatMap ndT++tS Y7::r)=some (e,r)|[],0,_,hn=>by simp at hn|[],n+1,_,_=>by have e1:isW Y7 (tS Y7)=true:=rfl;simp[YP,e1]|x::e,0,_,hn=>by simp at hn|x::e,n+1,hV,hn=>by have ih:=WT r e n (fun y hy=>hV y (zge _ hy)) (by simp at hn;omega);obtain⟨t,q,ht,h1,_⟩:=Sq x;have hs:∃u q',e.flatMap ndT++tS Y7::r=u::q'∧isW Xd u=false:=by{cases e with|nil=>exact⟨_,_,rfl,rfl⟩|cons y e=>obtain⟨u,q',hu,_,h3⟩:=Sq y;exact⟨u,q'++(e.flatMap ndT++tS Y7::r),by rw[zgj,hu];simp,h3⟩};obtain⟨u,q',hu,h3⟩:=hs;have hst:=Qf (hV x (by simp)) h3 q';rw[←hu]at hst;rw[zgj,zfC];rw[ht]at hst⊢;rw[zfM]at hst⊢;rw[YP,if_neg (by rw[h1];simp),hst];simp only[zft];rw[ih];rfl
theorem zam(x:Nd):1≤(ndT x).length:=by obtain⟨t,r,h,_⟩:=Sq x;rw[h];simp
theorem WU{α β:Type}{f:α→List β}(hf:∀a,1≤(f a).length):∀l:List α,l.length≤(l.flatMap f).length|[]=>zgg _|a::l=>by have:=WU hf l;have h1:=hf a;rw[zgj,zf4,zfO];omega
theorem VV{e:List Nd}(h:Uo e=true)(r:List Tk):xu (Zb e++r)=some (e,r):=by unfold Uo at h;simp only[zff,zfh,ze9]at h;have e1:isW Xc (tS Xc)=true:=rfl;unfold xu Zb;simp only[zfM,zfC,zfK];rw[ZM e1];simp only[zft];rw[WT r e _ h.2 (by have:=WU zam e;simp only[zf4,zfO];omega)];simp[h.1]
theorem X7:∀(l:List (List Nd))(n:Nat),(∀e∈l,Uo e=true)→l.length<n→xx n (l.flatMap fun e=>tW zj::Zb e)=some (l,[])|[],0,_,hn=>by simp at hn|[],n+1,_,_=>rfl|e::l,0,_,hn=>by simp at hn|e::l,n+1,hV,hn=>by have ih:=X7 l n (fun y hy=>hV y (zge _ hy)) (by simp at hn;omega);have e1:isW zj (tW zj)=true:=rfl;rw[zgj,zfM,xx,Zc e1];simp only[if_true];rw[VV (hV e (by simp))];simp only[zft];rw[ih];rfl
theorem zan(c:Cl):1≤(clT c).length:=by simp[clT]
theorem Sr{t:Tb}(h:ZL t=true):ZB (tbT t)=some (t,[]):=by obtain⟨nm,cols,cks⟩:=t;unfold ZL at h;simp only[zff,zfh,ze9,zfu,zgk]at h;obtain⟨h1,h2,h3,h4,h5,h6⟩:=h;have e1:isW X5 (tS X5)=true:=rfl;have e2:isW X6 (tS X6)=true:=rfl;unfold ZB tbT;simp only;rw[Zf h1];simp only[zft];rw[ZM e1];simp only[zft];unfold YQ;rw[WR (p:=zB) (f:=clT) (V:=fun c=>YS c=true) (E:=zd2) (.inl rfl) (fun a ha t r ht=>Tc ha ht r) cols _ _ _ h2 h5 (.inr rfl) rfl (by have:=Wv zan cols;simp only[zf4,zfO];omega)];simp only[zft];rw[ZM e2];simp only[zft];rw[X7 cks _ h6 (by have:=WU (f:=fun e=>tW zj::Zb e) (fun a=>by simp) cks;omega)];simp[h3,h4]
theorem Td{a:Ag}(h:Z9 a=true)(r:List Tk):YR (agT a++r)=some (a,r):=by obtain⟨f,c⟩:=a;unfold Z9 at h;simp only at h;unfold YR agT;simp only[zfM];by_cases h0:f=0;·{subst h0;simp only[if_true,zfh]at h;subst h;rw[LE (by decide) (by decide)];rfl};rw[if_neg h0]at h⊢;simp only[zff,zfh]at h;rw[LE h.1 h.2.1];simp only[zft,zfM,zfK];rw[if_neg h0,Yj h.2.2];rfl
theorem zao(a:Ag):1≤(agT a).length:=by simp[agT]
theorem Qg{v:Vw}(h:(if v.wth.toList.isEmpty then decide (v.on0=0)&&decide (v.on1=0)else xO v.wth.data.toList&&(Zy v.on0&&Zy v.on1))=true){t:Tk}(ht:isW zG t=false)(r:List Tk):ZK ((if v.wth.toList.isEmpty then[]else[tW zG,tN v.wth,tW Y6,yY v.on0,tS Yd,yY v.on1])++t::r)=some ((v.wth,v.on0,v.on1),t::r):=by obtain⟨nm,fr,wt,o0,o1,wh,pk,g,ag⟩:=v;simp only at*;cases hw:wt.toList.isEmpty;·{rw[hw]at h;simp only[zfr,if_false,zff]at h;have e1:isW zG (tW zG)=true:=rfl;have e2:isW Y6 (tW Y6)=true:=rfl;have e3:isW Yd (tS Yd)=true:=rfl;unfold ZK;simp only[zfr,if_false,zfM,zfK];rw[Zc e1];simp only[if_true];rw[Zf h.1];simp only[zft];rw[ZM e2];simp only[zft];rw[Yj h.2.1];simp only[zft];rw[ZM e3];simp only[zft];rw[Yj h.2.2];rfl};rw[hw]at h;simp only[if_true,zff,zfh]at h;have:=S8 hw;subst this;obtain⟨rfl,rfl⟩:=h;unfold ZK;simp[Zl ht]
theorem Ss{e:List Nd}(h:Uo e=true)(r:List Tk):xI ((if e.isEmpty then[]else tW zl::Zb e)++tW zr::r)=some (e,tW zr::r):=by unfold xI;cases e with|nil=>have e1:isW zl (tW zr)=false:=rfl;simp[Zl e1]|cons x e=>have e1:isW zl (tW zl)=true:=rfl;simp only[zgf,zfr,if_false,zfM];rw[Zc e1];simp only[if_true];exact VV h _
def zd3(t:Tk):Prop:=t=tS yG∨t=tW ze
def S9(g:Bool)(ag:List Ag):List Tk:=if g then tW ze::xR agT ag else[]
theorem St{pk:List Int}(h:∀n∈pk,Zy n=true)(g:Bool)(ag:List Ag):xJ (xR (fun n=>[yY n]) pk++S9 g ag)=some (pk,S9 g ag):=by have hp:∀a,Zy a=true→∀t r,zd3 t→xN ([yY a]++t::r)=some (a,t::r):=fun a ha t r _=>Yj ha _;have hp0:∀a,Zy a=true→xN [yY a]=some (a,[]):=fun a ha=>Yj ha [];have hl:pk.length≤(xR (fun n=>[yY n]) pk).length:=Wv (fun _=>by simp) pk;have eg:isW ze (tW ze)=true:=rfl;cases pk with|nil=>unfold xJ S9 xR;cases g;·{rfl};simp only[if_true,zfK];rw[Zc eg];simp|cons n pk=>have hh:∃q,xR (fun n=>[yY n]) (n::pk)=yY n::q:=⟨_,rfl⟩;obtain⟨q,hq⟩:=hh;have em:isW ze (yY n)=false:=rfl;have h0:(((yY n::q)++S9 g ag).isEmpty||(zc ze ((yY n::q)++S9 g ag)).1)=false:=by{rw[zfM,Zl em];rfl};unfold xJ;rw[hq,h0];simp only[zfr,if_false];rw[←hq];unfold YQ S9;cases g;·{simp only[zfr,if_false,zfQ];exact ZN (p:=xN) (f:=fun n=>[yY n]) (V:=fun n=>Zy n=true) (E:=zd3) (.inl rfl) hp hp0 (n::pk) _ (by simp) h (by omega)};simp only[if_true];exact WR (p:=xN) (f:=fun n=>[yY n]) (V:=fun n=>Zy n=true) (E:=zd3) (.inl rfl) hp (n::pk) _ _ _ (by simp) h (.inr rfl) rfl (by simp only[zf4,zfO]at hl⊢;omega)
theorem Qh{g:Bool}{ag:List Ag}(h:∀a∈ag,Z9 a=true)(hg:(g||ag.isEmpty)=true):ZC (S9 g ag)=some ((g,ag),[]):=by have eg:isW ze (tW ze)=true:=rfl;unfold ZC S9;cases g;·{simp only[zfn,List.isEmpty_iff]at hg;subst hg;rfl};simp only[if_true];rw[Zc eg];cases ag with|nil=>rfl|cons a ag=>have hh:∃t q,xR agT (a::ag)=t::q:=⟨_,_,rfl⟩;obtain⟨t,q,hq⟩:=hh;have hl:=Wv zao (a::ag);simp only[if_true];rw[hq];simp only[zgf,zfr,if_false];rw[←hq];unfold YQ;rw[ZN (p:=YR) (f:=agT) (V:=fun a=>Z9 a=true) (E:=fun _=>True) trivial (fun a ha t r _=>Td ha _) (fun a ha=>by have:=Td ha [];rwa[zfQ]at this) (a::ag) _ (by simp) h (by omega)];rfl
theorem Qi{v:Vw}(h:Zk v=true):Xe (vwT v)=some (v,[]):=by unfold Zk at h;simp only[zff,zfh,ze9]at h;obtain⟨h1,h2,h3,h4,h5,h6,h7,h8,h9⟩:=h;have e1:isW zT (tW zT)=true:=rfl;have e2:isW zr (tW zr)=true:=rfl;unfold Xe vwT;rw[Zf h1];simp only[zft];rw[ZM e1];simp only[zft];rw[Zf h2];simp only[zft];have hx:∃t r,(if v.whr.isEmpty then[]else tW zl::Zb v.whr)++tW zr::(xR (fun n=>[yY n]) v.pick++S9 v.grp v.aggs)=t::r∧isW zG t=false:=by{cases v.whr with|nil=>exact⟨_,_,rfl,rfl⟩|cons x e=>exact⟨_,_,rfl,rfl⟩};obtain⟨t,r,hx,ht⟩:=hx;have hg:(if v.grp=true then tW ze::xR agT v.aggs else[])=S9 v.grp v.aggs:=rfl;rw[hg,hx,Qg h3 ht,←hx];simp only[zft];rw[Ss h4];simp only[zft];rw[ZM e2];simp only[zft];rw[St h6];simp only[zft];rw[Qh h8 (by simpa using h9)];simp[h5,h7]
theorem Qj{d:Df}(h:Ye d):zX (yL d)=some d:=by obtain⟨k,t,v⟩:=d;rcases h with⟨rfl,h1,rfl⟩|⟨rfl,rfl,h1⟩;·{have e:Zu [zm,zE] (tW zm::tbT t)=some (0,tbT t):=rfl;unfold zX yL;simp only[if_true];rw[e];simp only[zft,if_true];rw[Sr h1];rfl};have e:Zu [zm,zE] (tW zE::vwT v)=some (1,vwT v):=rfl;unfold zX yL;have n1:¬(1:Int)=0:=by{decide};simp only[if_neg n1];rw[e];simp only[zft,if_neg n1];rw[Qi h1];rfl
open Go
structure En where
 n : ByteArray
 tb : Bool
 ks : List Int
 ns : List Bool
def zY(d:Df):ByteArray:=if d.k=0 then d.t.name else d.v.name
def zz(g:List En)(n:ByteArray):Option En:=g.find? fun e=>decide (e.n=n)
def ksE(g:List En)(n:ByteArray):List Int:=match zz g n with|some e=>e.ks|none=>[]
def zF(g:List En)(v:Vw):List Int:=ksE g v.frm++(if v.wth.toList.isEmpty then[]else ksE g v.wth)
def zdQ(all:List Int)(a:Ag):Int:=if 2≤a.fn then all.getD a.col.toNat 0 else 2
def yP(g:List En)(d:Df):List Int:=if d.k=0 then d.t.cols.map (·.kind)else d.v.pick.map (fun n=>(zF g d.v).getD n.toNat 0)++d.v.aggs.map (zdQ (zF g d.v))
def X8(d:Df):List Bool:=if d.k=0 then d.t.cols.map (·.nul)else List.replicate (d.v.pick.length+d.v.aggs.length) true
def enD(g:List En)(d:Df):En:=⟨zY d,decide (d.k=0),yP g d,X8 d⟩
def yz:List En→List Df→List En|g,[]=>g|g,d::r=>yz (g++[enD g d]) r
def YJ:List Cl→Bool|[]=>false|c::r=>r.any (fun x=>decide (x.name=c.name))||YJ r
def Su:List Cl→Bool|[]=>true|c::_=>c.nul||(decide (c.kind=1)||!c.ref.toList.isEmpty)
def XF(t:Tb):Bool:=YJ t.cols||Su t.cols
def zd4(g:List En)(t:Tb)(r:ByteArray):Option Int:=if r=t.name then t.cols.head?.map (·.kind)else(zz g r).bind fun e=>if e.tb then e.ks.head? else none
def WV(g:List En)(t:Tb)(c:Cl):Bool:=!c.ref.toList.isEmpty&&match zd4 g t c.ref with|none=>true|some k=>decide (c.kind≠k)||(decide (c.act=2)&&!c.nul)
def Z5(ty:List Nd→List Int→Int×Int)(e:List Nd)(cols:List Int):Bool:=decide ((ty e cols).2=0)&&decide ((ty e cols).1<2)
def YU(g:List En)(v:Vw):Bool:=!v.wth.toList.isEmpty&&(decide (v.on0≥(ksE g v.frm).length)||(decide ((ksE g v.frm).length+v.on1≥(zF g v).length)||decide ((zF g v).getD v.on0.toNat 0≠(zF g v).getD ((ksE g v.frm).length+v.on1.toNat) 0)))
def WW(all:List Int)(a:Ag):Bool:=decide (a.fn≠0)&&(decide (a.col≥all.length)||(decide (a.fn=1)&&decide (all.getD a.col.toNat 0≠2)))
def YV(ty:List Nd→List Int→Int×Int)(g:List En)(v:Vw):Bool:=(zz g v.frm).isNone||((!v.wth.toList.isEmpty&&(zz g v.wth).isNone)||(YU g v||((!v.whr.isEmpty&&!Z5 ty v.whr (zF g v))||(v.pick.any (fun n=>decide (n≥(zF g v).length))||(v.aggs.any (WW (zF g v))||((!v.grp&&!v.aggs.isEmpty)||(decide (v.pick.length+v.aggs.length=0)||decide (40<v.pick.length+v.aggs.length))))))))
def zt(ok:Df→Bool)(ty:List Nd→List Int→Int×Int)(g:List En)(d:Df):Int:=if ok d=false then 1 else if 20≤g.length then 95 else if(zz g (zY d)).isSome then 90 else if d.k=0 then(if XF d.t then 91 else if d.t.cols.any (WV g d.t)then 92 else if d.t.checks.any (fun e=>!Z5 ty e (d.t.cols.map (·.kind)))then 93 else 0)else if YV ty g d.v then 94 else 0
def Sv(ok:Df→Bool)(ty:List Nd→List Int→Int×Int):List En→List Df→Bool|_,[]=>true|g,d::r=>decide (zt ok ty g d=0)&&Sv ok ty (g++[enD g d]) r
def Zm(ok:Df→Bool)(ty:List Nd→List Int→Int×Int)(c:List Df):Bool:=Sv ok ty [] c
def XG(n:ByteArray):List Df→Nat→Int|[],_=>-1|d::r,i=>if zY d=n then(i:Int)else XG n r (i+1)
def Yk(c:List Df)(n:ByteArray):Int:=XG n c 0
variable {ok : Df → Bool} {ty : List Nd → List Int → Int × Int}
theorem Xf:∀(c:List Df)(g:List En),(yz g c).length=g.length+c.length|[],_=>rfl|d::c,g=>by rw[yz,Xf c];simp only[zf4,zfO,zf6];omega
theorem Ww:∀(a b:List Df)(g:List En),yz g (a++b)=yz (yz g a) b|[],_,_=>rfl|d::a,b,g=>by rw[zfM,yz,yz,Ww a b]
theorem Wx:∀(a b:List Df)(g:List En),Sv ok ty g (a++b)=(Sv ok ty g a&&Sv ok ty (yz g a) b)|[],_,_=>rfl|d::a,b,g=>by rw[zfM,Sv,Sv,yz,Wx a b,Bool.and_assoc]
theorem Ra{c:List Df}(h:Zm ok ty c=true)(k:Nat):Zm ok ty (c.take k)=true:=by unfold Zm at*;rw[←List.take_append_drop k c,Wx,zff]at h;exact h.1
theorem X9{c:List Df}(h:Zm ok ty c=true){k:Nat}{d:Df}(hd:c[k]?=some d):zt ok ty (yz [] (c.take k)) d=0:=by have h1:=Ra h (k+1);unfold Zm at h1;rw[zgl,hd,Wx,zff]at h1;have:=h1.2;simp only[zfL,Sv,zgm,zfh]at this;exact this
theorem Pi{c:List Df}{d:Df}:Zm ok ty (c++[d])=(Zm ok ty c&&decide (zt ok ty (yz [] c) d=0)):=by unfold Zm;rw[Wx];simp[Sv]
structure zeK (ok : Df → Bool) (ty : List Nd → List Int → Int × Int) (g : List En) (d : Df) : Prop where
 ok : ok d = true
 len : g.length < 20
 new : zz g (zY d) = none
 tab : d.k = 0 → XF d.t = false ∧ d.t.cols.any (WV g d.t) = false ∧ d.t.checks.any (fun e => !Z5 ty e (d.t.cols.map (·.kind))) = false
 view : d.k ≠ 0 → YV ty g d.v = false
theorem yM{g:List En}{d:Df}:zt ok ty g d=0↔zeK ok ty g d:=by constructor;·{intro h;unfold zt at h;split at h;·{cases h};rename_i h1;split at h;·{cases h};rename_i h2;split at h;·{cases h};rename_i h3;refine⟨by simpa using h1,by omega,by simpa using h3,fun hk=>?_,fun hk=>?_⟩;·{rw[if_pos hk]at h;split at h;·{cases h};rename_i h4;split at h;·{cases h};rename_i h5;split at h;·{cases h};rename_i h6;exact⟨by simpa using h4,by simpa using h5,by simpa using h6⟩};rw[if_neg hk]at h;split at h;·{cases h};rename_i h4;simpa using h4};rintro⟨h1,h2,h3,h4,h5⟩;unfold zt;rw[if_neg (by simp[h1]),if_neg (by omega),if_neg (by simp[h3])];by_cases hk:d.k=0;·{obtain⟨a,b,c⟩:=h4 hk;rw[if_pos hk,a,b,c];rfl};rw[if_neg hk,h5 hk];rfl
theorem Yl(g h:List En)(n:ByteArray):zz (g++h) n=match zz g n with|some e=>some e|none=>zz h n:=by unfold zz;rw[List.find?_append];cases g.find? fun e=>decide (e.n=n)<;>rfl
theorem YW{g h:List En}{n:ByteArray}{e:En}(hf:zz g n=some e):zz (g++h) n=some e:=by rw[Yl,hf]
theorem Sw:∀(c:List Df)(g:List En),∃h,yz g c=g++h|[],g=>⟨[],by simp[yz]⟩|d::c,g=>by obtain⟨h,e⟩:=Sw c (g++[enD g d]);exact⟨enD g d::h,by rw[yz,e];simp⟩
theorem NP(c:List Df)(k:Nat):∃h,yz [] c=yz [] (c.take k)++h:=by obtain⟨h,e⟩:=Sw (c.drop k) (yz [] (c.take k));refine⟨h,?_⟩;rw[←Ww,List.take_append_drop]at e;exact e
theorem Te(n:ByteArray):∀(c:List Df)(g:List En)(i:Nat),zz g n=none→(zz (yz g c) n).isSome=decide (0≤XG n c i)|[],g,i,h=>by simp[yz,h,XG]|d::c,g,i,h=>by rw[yz];unfold XG;by_cases hd:zY d=n;·{have:zz (g++[enD g d]) n=some (enD g d):=by{rw[Yl,h];simp[zz,enD,hd]};obtain⟨q,e⟩:=Sw c (g++[enD g d]);rw[e,YW this,if_pos hd];simp};rw[if_neg hd];refine Te n c _ (i+1) ?_;rw[Yl,h];simp[zz,enD,hd]
theorem ZD(c:List Df)(n:ByteArray):(zz (yz [] c) n).isSome=decide (0≤Yk c n):=Te n c [] 0 rfl
theorem Yu(n:ByteArray)(d:Df)(c:List Df)(i:Nat):XG n (d::c) i=if zY d=n then(i:Int)else XG n c (i+1):=rfl
theorem Tf(n:ByteArray):∀(a b:List Df)(i:Nat),XG n (a++b) i=if XG n a i<0 then XG n b (i+a.length)else XG n a i|[],b,i=>by simp[XG]|d::a,b,i=>by rw[zfM,Yu,Yu];by_cases hd:zY d=n;·{rw[if_pos hd,if_pos hd,if_neg (by omega)]};rw[if_neg hd,if_neg hd,Tf n a b (i+1)];rw[show i+1+a.length=i+(d::a).length by simp only[zfO];omega]
structure YG (e : En) : Prop where
 ne : 1 ≤ e.ks.length
 le : e.ks.length ≤ 40
 kd : ∀ k ∈ e.ks, 1 ≤ k ∧ k ≤ 3
 nl : e.ns.length = e.ks.length
theorem Rb{g:List En}(h:∀e∈g,YG e)(n:ByteArray):∀k∈ksE g n,1≤k∧k≤3:=by intro k hk;unfold ksE at hk;split at hk;·{rename_i e he;exact(h e (zgh he)).kd k hk};cases hk
theorem Ym{g:List En}(h:∀e∈g,YG e)(v:Vw):∀k∈zF g v,1≤k∧k≤3:=by intro k hk;unfold zF at hk;rcases zfF.1 hk with hk|hk;·{exact Rb h _ k hk};split at hk;·{cases hk};exact Rb h _ k hk
theorem WX{l:List Int}(h:∀k∈l,1≤k∧k≤3){n:Int}(h0:0≤n)(hn:n<l.length):1≤l.getD n.toNat 0∧l.getD n.toNat 0≤3:=by have hlt:n.toNat<l.length:=by{omega};rw[zgn,zgo hlt];exact h _ (List.getElem_mem hlt)
structure NQ (ty : List Nd → List Int → Int × Int) (g : List En) (v : Vw) : Prop where
 frm : (zz g v.frm).isSome = true
 wth : v.wth.toList.isEmpty = false → (zz g v.wth).isSome = true
 join : YU g v = false
 whr : v.whr.isEmpty = false → Z5 ty v.whr (zF g v) = true
 pick : ∀ n ∈ v.pick, n < (zF g v).length
 aggs : ∀ a ∈ v.aggs, WW (zF g v) a = false
 grp : v.grp = false → v.aggs = []
 few : 1 ≤ v.pick.length + v.aggs.length ∧ v.pick.length + v.aggs.length ≤ 40
theorem Xg{g:List En}{v:Vw}:YV ty g v=false↔NQ ty g v:=by unfold YV;simp only[zgp,zgq,zgr,List.any_eq_false,zfh,zgs,Option.isNone_eq_false_iff];constructor;·{rintro⟨h1,h2,h3,h4,h5,h6,h7,h8,h9⟩;refine⟨by simpa using h1,fun hw=>?_,h3,fun hw=>?_,fun n hn=>by have:=h5 n hn;omega,fun a ha=>by simpa using h6 a ha,fun hg=>?_,by omega⟩;·{rcases h2 with h|h;·{rw[hw]at h;cases h};simpa using h};·{rcases h4 with h|h;·{rw[hw]at h;cases h};exact h};rcases h7 with h|h;·{rw[hg]at h;cases h};simpa using h};rintro⟨h1,h2,h3,h4,h5,h6,h7,h8⟩;refine⟨by simpa using h1,?_,h3,?_,fun n hn=>by have:=h5 n hn;omega,fun a ha=>by simpa using h6 a ha,?_,by omega,by omega⟩;·{cases hw:v.wth.toList.isEmpty;·{right;simpa using h2 hw};left;rfl};·{cases hw:v.whr.isEmpty;·{right;exact h4 hw};left;rfl};cases hg:v.grp;·{right;rw[h7 hg];rfl};left;rfl
theorem Rc{d:Df}(h:Ye d)(hk:d.k=0):ZL d.t=true:=by rcases h with⟨_,h,_⟩|⟨h,_⟩;·{exact h};omega
theorem Re{d:Df}(h:Ye d)(hk:d.k≠0):d.k=1∧Zk d.v=true:=by rcases h with⟨h,_⟩|⟨h,_,h2⟩;·{exact absurd h hk};exact⟨h,h2⟩
theorem XH(g:List En)(d:Df):(yP g d).length=(X8 d).length:=by unfold yP X8;split<;>simp
theorem Rf{g:List En}{d:Df}(hm:Ye d)(hf:zeK ok ty g d)(hg:∀e∈g,YG e):YG (enD g d):=by by_cases hk:d.k=0;·{have ht:=Rc hm hk;unfold ZL at ht;simp only[zff,ze9,zfh,zfu,zgk]at ht;obtain⟨_,h2,h3,_,h5,_⟩:=ht;have e:yP g d=d.t.cols.map (·.kind):=by{unfold yP;rw[if_pos hk]};refine⟨?_,?_,?_,(XH g d).symm⟩;·{show 1≤(yP g d).length;rw[e,zgt];exact zgu.2 h2};·{show(yP g d).length≤40;rw[e,zgt];exact h3};intro k hk';have hk':k∈yP g d:=hk';rw[e]at hk';obtain⟨c,hc,rfl⟩:=zfk.1 hk';have:=h5 c hc;unfold YS at this;simp only[zff,zfh]at this;exact⟨this.2.1,this.2.2.1⟩};obtain⟨_,hv⟩:=Re hm hk;have hb:=Xg.1 (hf.view hk);unfold Zk at hv;simp only[zff,ze9,zfh]at hv;obtain⟨_,_,_,_,_,h6,_,h8,_⟩:=hv;have e:yP g d=d.v.pick.map (fun n=>(zF g d.v).getD n.toNat 0)++d.v.aggs.map (zdQ (zF g d.v)):=by{unfold yP;rw[if_neg hk]};have hj:=Ym hg d.v;refine⟨?_,?_,?_,(XH g d).symm⟩;·{show 1≤(yP g d).length;rw[e,zf4,zgt,zgt];exact hb.few.1};·{show(yP g d).length≤40;rw[e,zf4,zgt,zgt];exact hb.few.2};intro k hk';have hk':k∈yP g d:=hk';rw[e]at hk';rcases zfF.1 hk' with h|h;·{obtain⟨n,hn,rfl⟩:=zfk.1 h;have h0:=h6 n hn;unfold Zy at h0;simp only[zff,zfh]at h0;exact WX hj h0.1 (hb.pick n hn)};obtain⟨a,ha,rfl⟩:=zfk.1 h;unfold zdQ;split;·{rename_i h2;have ham:=h8 a ha;unfold Z9 at ham;rw[if_neg (by omega)]at ham;unfold Zy at ham;simp only[zff,zfh]at ham;have hab:=hb.aggs a ha;unfold WW at hab;rw[zgq]at hab;rcases hab with hab|hab;·{simp at hab;omega};simp only[zgp,zgs]at hab;exact WX hj ham.2.2.1 (by have:=hab.1;omega)};omega
theorem Tg(hok:∀d,ok d=true→Ye d):∀(c:List Df)(g:List En),Sv ok ty g c=true→(∀e∈g,YG e)→∀e∈yz g c,YG e|[],_,_,hg=>hg|d::c,g,h,hg=>by rw[Sv,zff,zfh]at h;have hf:=yM.1 h.1;rw[yz];refine Tg hok c _ h.2 fun e he=>?_;rcases zfF.1 he with he|he;·{exact hg e he};obtain rfl:=zf5.1 he;exact Rf (hok d hf.ok) hf hg
theorem Up(hok:∀d,ok d=true→Ye d){c:List Df}(h:Zm ok ty c=true):∀e∈yz [] c,YG e:=Tg hok c [] h fun e he=>by cases he
theorem Uq{c:List Df}(h:Zm ok ty c=true){k:Nat}{d:Df}(hd:c[k]?=some d):zz (yz [] c) (zY d)=some (enD (yz [] (c.take k)) d):=by have hf:=yM.1 (X9 h hd);obtain⟨q,e⟩:=NP c (k+1);have e1:yz [] (c.take (k+1))=yz [] (c.take k)++[enD (yz [] (c.take k)) d]:=by{rw[zgl,hd];simp only[zfL];rw[Ww];rfl};rw[e,e1];refine YW ?_;rw[Yl,hf.new];simp[zz,enD]
theorem zeL{c:List Df}(h:Zm ok ty c=true){k:Nat}{d:Df}(hd:c[k]?=some d):enD (yz [] (c.take k)) d∈yz [] c:=zgh (Uq h hd)
theorem zci{c:List Df}(h:Zm ok ty c=true){k:Nat}{d:Df}(hd:c[k]?=some d)(hk:d.k≠0):0≤Yk (c.take k) d.v.frm∧(d.v.wth.toList.isEmpty=false→0≤Yk (c.take k) d.v.wth):=by have hb:=Xg.1 ((yM.1 (X9 h hd)).view hk);refine⟨?_,fun hw=>?_⟩;·{have:=hb.frm;rwa[ZD,zfh]at this};have:=hb.wth hw;rwa[ZD,zfh]at this
theorem zcw{c:List Df}(h:Zm ok ty c=true){k:Nat}{d:Df}(hd:c[k]?=some d)(hk:d.k=0){x:Cl}(hx:x∈d.t.cols)(hr:x.ref.toList.isEmpty=false)(hn:x.ref≠d.t.name):0≤Yk (c.take k) x.ref:=by have hb:=((yM.1 (X9 h hd)).tab hk).2.1;rw[List.any_eq_false]at hb;have hb:=hb x hx;unfold WV at hb;rw[hr]at hb;have hs:(zz (yz [] (c.take k)) x.ref).isSome=true:=by{unfold zd4 at hb;rw[if_neg hn]at hb;cases hf:zz (yz [] (c.take k)) x.ref with|none=>rw[hf]at hb;simp at hb|some e=>rfl};rwa[ZD,zfh]at hs
theorem Rg(c:List Df)(d:Df)(n:ByteArray):Yk (c++[d]) n=if Yk c n<0 then(if zY d=n then(c.length:Int)else -1)else Yk c n:=by unfold Yk;rw[Tf];simp only[Yu,zfR];rfl
theorem Pj(c:List Df)(d:Df):yz [] (c++[d])=yz [] c++[enD (yz [] c) d]:=by rw[Ww];rfl
theorem Pm{c:List Df}{d:Df}{n:ByteArray}(h:0≤Yk c n):zz (yz [] (c++[d])) n=zz (yz [] c) n:=by have:(zz (yz [] c) n).isSome=true:=by{rw[ZD];simpa using h};obtain⟨e,he⟩:=zgv.1 this;rw[Pj,YW he,he]
theorem WY{c:List Df}(h:Zm ok ty c=true){k:Nat}{d t:Df}(hd:c[k]?=some d)(ht:ok t=true)(hn:zY t=zY d):zt ok ty (yz [] c) t=if 20≤c.length then 95 else 90:=by unfold zt;rw[if_neg (by simp[ht]),Xf,hn,Uq h hd];simp
theorem Zn{g:List En}{d:Df}(hk:d.k=0):yP g d=d.t.cols.map (·.kind)∧X8 d=d.t.cols.map (·.nul):=by unfold yP X8;rw[if_pos hk,if_pos hk];exact⟨rfl,rfl⟩
theorem Qk{g:List En}{d:Df}(hk:d.k≠0):(yP g d).length=d.v.pick.length+d.v.aggs.length:=by unfold yP;rw[if_neg hk,zf4,zgt,zgt]
theorem Ql{c:List Df}(hok:∀d,ok d=true→Ye d)(h:Zm ok ty c=true){k:Nat}{d:Df}(hd:c[k]?=some d)(hk:d.k=0):∃x r,d.t.cols=x::r∧x.nul=false∧(x.kind=2∨x.kind=3)∧x.ref.toList.isEmpty=true:=by have hf:=yM.1 (X9 h hd);have hb:=(hf.tab hk).1;unfold XF at hb;rw[zgp]at hb;have hg:=Rf (hok d hf.ok) hf (Up hok (Ra h k));cases hc:d.t.cols with|nil=>rw[hc]at hb;(cases hb.2)|cons x r=>rw[hc]at hb;have h2:=hb.2;unfold Su at h2;simp only[zgp,zgs,zgr]at h2;have hx:=hg.kd x.kind (by show x.kind∈yP _ d;rw[(Zn hk).1,hc];simp);exact⟨x,r,rfl,h2.1,by have:=h2.2.1;omega,h2.2.2⟩
end Go.Proofs.YthjjpdjdnhjdbaaGreatDoor
