/-
  Part 2 of 18 of what the proof leans on; no condition besides.
-/
import Derived.Test.YthjjpdjdnhjdbaaGreatDoorH01
set_option linter.unusedVariables false
set_option linter.unusedSimpArgs false
namespace Go.Proofs.YthjjpdjdnhjdbaaGreatDoor
open Go
set_option maxRecDepth 100000
def zn:List UInt8:=[116,97,98,108,101]
def zk:List UInt8:=[99,104,101,99,107]
def zE:List UInt8:=[118,105,101,119]
def zU:List UInt8:=[102,114,111,109]
def zH:List UInt8:=[106,111,105,110]
def YZ:List UInt8:=[111,110]
def zm:List UInt8:=[119,104,101,114,101]
def zu:List UInt8:=[112,105,99,107]
def zf:List UInt8:=[103,114,111,117,112]
def ZX:List UInt8:=[98,111,111,108]
def Xu:List UInt8:=[105,110,116]
def ZY:List UInt8:=[116,101,120,116]
def zg:List UInt8:=[110,117,108,108]
def zi:List UInt8:=[117,110,105,113,117,101]
def zQ:List UInt8:=[114,101,102]
def zL:List UInt8:=[114,101,115,116,114,105,99,116]
def zV:List UInt8:=[99,97,115,99,97,100,101]
def zW:List UInt8:=[115,101,116,110,117,108,108]
def xT:List UInt8:=[99,111,117,110,116]
def XZ:List UInt8:=[115,117,109]
def X0:List UInt8:=[109,105,110]
def X2:List UInt8:=[109,97,120]
def yT:List UInt8:=[116,114,117,101]
def zX:List UInt8:=[102,97,108,115,101]
def Vs:List UInt8:=[97,110,100]
def Nk:List UInt8:=[111,114]
def Vt:List UInt8:=[110,111,116]
def XP:List UInt8:=[40]
def XQ:List UInt8:=[41]
def Y5:List UInt8:=[91]
def Y0:List UInt8:=[93]
def yF:List UInt8:=[44]
def Yb:List UInt8:=[61]
def Lk:List UInt8:=[60]
def Ll:List UInt8:=[43]
def Ln:List UInt8:=[45]
def Lp:List UInt8:=[42]
def Y6:List UInt8:=[63]
def kws:List (List UInt8):=[zn,zk,zE,zU,zH,YZ,zm,zu,zf,ZX,Xu,ZY,zg,zi,zQ,zL,zV,zW,xT,XZ,X0,X2,yT,zX,Vs,Nk,Vt]
def isW(s:List UInt8)(t:Tk):Bool:=(t.k !=1)&&(t.t.data.toList==s)
def xU(l:List UInt8):Bool:=Zb l&&!kws.contains l
structure Cl where
 name : ByteArray
 kind : Int
 nul : Bool
 uni : Bool
 ref : ByteArray
 act : Int
structure Tb where
 name : ByteArray
 cols : List Cl
 checks : List (List Nd)
structure Ag where
 fn : Int
 col : Int
structure Vw where
 name : ByteArray
 frm : ByteArray
 wth : ByteArray
 on0 : Int
 on1 : Int
 whr : List Nd
 pick : List Int
 grp : Bool
 aggs : List Ag
structure Df where
 k : Int
 t : Tb
 v : Vw
def tb0:Tb:=⟨emp,[],[]⟩
def vw0:Vw:=⟨emp,emp,emp,0,0,[],[],false,[]⟩
def zT:List Tk→Option (ByteArray×List Tk)|[]=>none|t::r=>if t.k==0&&xU t.t.data.toList then some (t.t,r)else none
def xO:List Tk→Option (Int×List Tk)|[]=>none|t::r=>if t.k==1&&(t.v.k==2&&(decide (0≤t.v.n)&&decide (t.v.n≤99)))then some (t.v.n,r)else none
def zR(s:List UInt8):List Tk→Option (List Tk)|[]=>none|t::r=>if isW s t then some r else none
def zc(s:List UInt8):List Tk→Bool×List Tk|[]=>(false,[])|t::r=>if isW s t then(true,r)else(false,t::r)
def Y1:List (List UInt8)→Int→Tk→Option Int|[],_,_=>none|s::ws,i,t=>if isW s t then some i else Y1 ws (i+1) t
def Zs(ws:List (List UInt8)):List Tk→Option (Int×List Tk)|[]=>none|t::r=>(Y1 ws 0 t).map fun i=>(i,r)
def Ue:List (List UInt8):=[Ll,Ln,Lp,Yb,Lk,Vs,Nk,Vt]
def xP(n:Nat):List UInt8:=99::Lib.itoa (n:Int)
def X5(l:List UInt8):Option Nat:=(List.range 100).find? fun n=>l==xP n
def yh:List Tk→Option (Nd×List Tk)|[]=>none|t::r=>if isW zg t then(if(zc Y6 r).1 then some (⟨10,0,nl⟩,(zc Y6 r).2)else some (⟨1,0,nl⟩,r))else if isW yT t then some (⟨1,0,tt⟩,r)else if isW zX t then some (⟨1,0,ff⟩,r)else match Y1 Ue 2 t with|some i=>some (⟨i,0,nl⟩,r)|none=>if t.k==1 then some (⟨1,0,t.v⟩,r)else if t.k==0 then(X5 t.t.data.toList).map fun(n:Nat)=>((⟨0,(n:Int),nl⟩:Nd),r)else none
def YK:Nat→List Tk→Option (List Nd×List Tk)|0,_=>none|_+1,[]=>none|n+1,t::r=>if isW Y0 t then some ([],r)else(yh (t::r)).bind fun p=>(YK n p.2).map fun q=>(p.1::q.1,q.2)
def xj(l:List Tk):Option (List Nd×List Tk):=(zR Y5 l).bind fun r=>(YK (r.length+1) r).bind fun p=>if p.1.length≤100 then some p else none
def zz(l:List Tk):Option (Cl×List Tk):=(zT l).bind fun a=>(Zs [ZX,Xu,ZY] a.2).bind fun k=>if(zc zQ (zc zi (zc zg k.2).2).2).1 then(zT (zc zQ (zc zi (zc zg k.2).2).2).2).bind fun b=>(Zs [zL,zV,zW] b.2).map fun c=>(⟨a.1,k.1+1,(zc zg k.2).1,(zc zi (zc zg k.2).2).1,b.1,c.1⟩,c.2)else some (⟨a.1,k.1+1,(zc zg k.2).1,(zc zi (zc zg k.2).2).1,emp,0⟩,(zc zi (zc zg k.2).2).2)
def TS{α:Type}(p:List Tk→Option (α×List Tk)):Nat→List Tk→Option (List α×List Tk)|0,_=>none|n+1,l=>(p l).bind fun a=>if(zc yF a.2).1 then(TS p n (zc yF a.2).2).map fun q=>(a.1::q.1,q.2)else some ([a.1],a.2)
def YL{α:Type}(p:List Tk→Option (α×List Tk))(l:List Tk):Option (List α×List Tk):=TS p (l.length+1) l
def xr:Nat→List Tk→Option (List (List Nd)×List Tk)|0,_=>none|n+1,l=>if(zc zk l).1 then(xj (zc zk l).2).bind fun e=>(xr n e.2).map fun q=>(e.1::q.1,q.2)else some ([],l)
def ZB(l:List Tk):Option (Tb×List Tk):=(zT l).bind fun a=>(zR XP a.2).bind fun r=>(YL zz r).bind fun c=>(zR XQ c.2).bind fun q=>(xr (q.length+1) q).bind fun k=>if c.1.length≤40∧k.1.length≤40 then some (⟨a.1,c.1,k.1⟩,k.2)else none
def YM(l:List Tk):Option (Ag×List Tk):=(Zs [xT,XZ,X0,X2] l).bind fun f=>if f.1=0 then some (⟨0,0⟩,f.2)else(xO f.2).map fun c=>(⟨f.1,c.1⟩,c.2)
def ZJ(l:List Tk):Option ((ByteArray×Int×Int)×List Tk):=if(zc zH l).1 then(zT (zc zH l).2).bind fun a=>(zR YZ a.2).bind fun r=>(xO r).bind fun x=>(zR Yb x.2).bind fun q=>(xO q).map fun y=>((a.1,x.1,y.1),y.2)else some ((emp,0,0),l)
def xG(l:List Tk):Option (List Nd×List Tk):=if(zc zm l).1 then xj (zc zm l).2 else some ([],l)
def xH(l:List Tk):Option (List Int×List Tk):=if l.isEmpty||(zc zf l).1 then some ([],l)else YL xO l
def ZC(l:List Tk):Option ((Bool×List Ag)×List Tk):=if(zc zf l).1 then(if(zc zf l).2.isEmpty then some ((true,[]),[])else(YL YM (zc zf l).2).map fun a=>((true,a.1),a.2))else some ((false,[]),l)
def Y7(l:List Tk):Option (Vw×List Tk):=(zT l).bind fun a=>(zR zU a.2).bind fun r=>(zT r).bind fun b=>(ZJ b.2).bind fun j=>(xG j.2).bind fun e=>(zR zu e.2).bind fun q=>(xH q).bind fun k=>(ZC k.2).bind fun g=>if k.1.length≤40∧g.1.2.length≤40 then some (⟨a.1,b.1,j.1.1,j.1.2.1,j.1.2.2,e.1,k.1,g.1.1,g.1.2⟩,g.2)else none
def zY(l:List Tk):Option Df:=(Zs [zn,zE] l).bind fun k=>if k.1=0 then(ZB k.2).bind fun t=>if t.2.isEmpty then some ⟨0,t.1,vw0⟩else none else(Y7 k.2).bind fun v=>if v.2.isEmpty then some ⟨1,tb0,v.1⟩else none
def tW(l:List UInt8):Tk:=⟨0,ba l,nl⟩
def tN(b:ByteArray):Tk:=⟨0,b,nl⟩
def tS(l:List UInt8):Tk:=⟨2,ba l,nl⟩
def ndT(x:Nd):List Tk:=if x.op=10 then[tW zg,tS Y6]else if x.op=1 then(if x.v.eq nl then[tW zg]else if x.v.eq tt then[tW yT]else if x.v.eq ff then[tW zX]else[⟨1,emp,x.v⟩])else if x.op=0 then[tW (xP x.n.toNat)]else if x.op=2 then[tS Ll]else if x.op=3 then[tS Ln]else if x.op=4 then[tS Lp]else if x.op=5 then[tS Yb]else if x.op=6 then[tS Lk]else if x.op=7 then[tW Vs]else if x.op=8 then[tW Nk]else[tW Vt]
def Zc(e:List Nd):List Tk:=tS Y5::(e.flatMap ndT++[tS Y0])
def xR{α:Type}(f:α→List Tk):List α→List Tk|[]=>[]|a::r=>f a++(if r.isEmpty then[]else tS yF::xR f r)
def Vu(k:Int):List UInt8:=if k=1 then ZX else if k=2 then Xu else ZY
def L6(a:Int):List UInt8:=if a=0 then zL else if a=1 then zV else zW
def fnW(f:Int):List UInt8:=if f=0 then xT else if f=1 then XZ else if f=2 then X0 else X2
def clT(c:Cl):List Tk:=tN c.name::tW (Vu c.kind)::((if c.nul then[tW zg]else[])++((if c.uni then[tW zi]else[])++(if c.ref.toList.isEmpty then[]else[tW zQ,tN c.ref,tW (L6 c.act)])))
def tbT(t:Tb):List Tk:=tN t.name::tS XP::(xR clT t.cols++tS XQ::t.checks.flatMap fun e=>tW zk::Zc e)
def agT(a:Ag):List Tk:=tW (fnW a.fn)::(if a.fn=0 then[]else[yW a.col])
def vwT(v:Vw):List Tk:=tN v.name::tW zU::tN v.frm::((if v.wth.toList.isEmpty then[]else[tW zH,tN v.wth,tW YZ,yW v.on0,tS Yb,yW v.on1])++((if v.whr.isEmpty then[]else tW zm::Zc v.whr)++tW zu::(xR (fun n=>[yW n]) v.pick++(if v.grp then tW zf::xR agT v.aggs else[]))))
def yK(d:Df):List Tk:=if d.k=0 then tW zn::tbT d.t else tW zE::vwT d.v
def Zy(n:Int):Bool:=decide (0≤n)&&decide (n≤99)
def Yz(x:Nd):Bool:=if x.op=0 then Zy x.n&&x.v.eq nl else if x.op=1 then decide (x.n=0)&&Xp x.v else decide (2≤x.op)&&(decide (x.op≤10)&&(decide (x.n=0)&&x.v.eq nl))
def Uf(e:List Nd):Bool:=decide (e.length≤100)&&e.all Yz
def YN(c:Cl):Bool:=xU c.name.data.toList&&(decide (1≤c.kind)&&(decide (c.kind≤3)&&(if c.ref.toList.isEmpty then decide (c.act=0)else xU c.ref.data.toList&&(decide (0≤c.act)&&decide (c.act≤2)))))
def Z6(t:Tb):Bool:=xU t.name.data.toList&&(!t.cols.isEmpty&&(decide (t.cols.length≤40)&&(decide (t.checks.length≤40)&&(t.cols.all YN&&t.checks.all Uf))))
def Z7(a:Ag):Bool:=if a.fn=0 then decide (a.col=0)else decide (0≤a.fn)&&(decide (a.fn≤3)&&Zy a.col)
def Zt(v:Vw):Bool:=xU v.name.data.toList&&(xU v.frm.data.toList&&((if v.wth.toList.isEmpty then decide (v.on0=0)&&decide (v.on1=0)else xU v.wth.data.toList&&(Zy v.on0&&Zy v.on1))&&(Uf v.whr&&(decide (v.pick.length≤40)&&(v.pick.all Zy&&(decide (v.aggs.length≤40)&&(v.aggs.all Z7&&(v.grp||v.aggs.isEmpty))))))))
def Yq(d:Df):Prop:=(d.k=0∧Z6 d.t=true∧d.v=vw0)∨(d.k=1∧d.t=tb0∧Zt d.v=true)
theorem Zd{s:List UInt8}{t:Tk}{r:List Tk}(h:isW s t=true):zc s (t::r)=(true,r):=by simp[zc,h]
theorem Zl{s:List UInt8}{t:Tk}{r:List Tk}(h:isW s t=false):zc s (t::r)=(false,t::r):=by simp[zc,h]
theorem ZK{s:List UInt8}{t:Tk}{r:List Tk}(h:isW s t=true):zR s (t::r)=some r:=by simp[zR,h]
theorem Zg{b:ByteArray}(h:xU b.data.toList=true)(r:List Tk):zT (tN b::r)=some (b,r):=by simp[zT,tN,h]
theorem Yg{n:Int}(h:Zy n=true)(r:List Tk):xO (yW n::r)=some (n,r):=by unfold Zy at h;simp only[ze4,ze6]at h;simp[xO,yW,iv,h.1,h.2]
theorem NB{k:Int}(h1:1≤k)(h3:k≤3)(r:List Tk):Zs [ZX,Xu,ZY] (tW (Vu k)::r)=some (k-1,r):=by have:k=1∨k=2∨k=3:=by{omega};rcases this with rfl|rfl|rfl<;>rfl
theorem L7{k:Int}(h1:0≤k)(h3:k≤2)(r:List Tk):Zs [zL,zV,zW] (tW (L6 k)::r)=some (k,r):=by have:k=0∨k=1∨k=2:=by{omega};rcases this with rfl|rfl|rfl<;>rfl
theorem Lq{k:Int}(h1:0≤k)(h3:k≤3)(r:List Tk):Zs [xT,XZ,X0,X2] (tW (fnW k)::r)=some (k,r):=by have:k=0∨k=1∨k=2∨k=3:=by{omega};rcases this with rfl|rfl|rfl|rfl<;>rfl
def zdR(t:Tk):Prop:=t=tS yF∨t=tS XQ
theorem Q4{t:Tk}(h:zdR t):isW zg t=false∧isW zi t=false∧isW zQ t=false:=by rcases h with rfl|rfl<;>exact⟨rfl,rfl,rfl⟩
theorem SV{b:ByteArray}(h:b.toList.isEmpty=true):b=emp:=Wx h
theorem UU{c:Cl}(h:YN c=true){t:Tk}(ht:zdR t)(r:List Tk):zz (clT c++t::r)=some (c,t::r):=by obtain⟨nm,k,nu,un,rf,ac⟩:=c;unfold YN at h;simp only[ze4,ze6]at h;obtain⟨h1,h2,h3,h4⟩:=h;obtain⟨m1,m2,m3⟩:=Q4 ht;have n1:isW zg (tW zi)=false:=rfl;have n2:isW zg (tW zQ)=false:=rfl;have n3:isW zi (tW zQ)=false:=rfl;have y1:isW zg (tW zg)=true:=rfl;have y2:isW zi (tW zi)=true:=rfl;have y3:isW zQ (tW zQ)=true:=rfl;have hk:k-1+1=k:=by{omega};unfold zz clT;simp only[zfB];rw[Zg h1];simp only[zfi];rw[NB h2 h3];simp only[zfi,hk];cases hr:rf.toList.isEmpty;·{rw[hr]at h4;simp only[zfg,if_false,ze4,ze6]at h4;cases nu<;>cases un<;>simp[Zd,Zl,n1,n2,n3,y1,y2,y3,Zg h4.1,L7 h4.2.1 h4.2.2]};rw[hr]at h4;simp only[if_true,ze6]at h4;have:=SV hr;subst this;subst h4;cases nu<;>cases un<;>simp[Zd,Zl,n1,y1,y2,m1,m2,m3]
theorem WE{α:Type}{p:List Tk→Option (α×List Tk)}{f:α→List Tk}{V:α→Prop}{E:Tk→Prop}(hc:E (tS yF))(hp:∀a,V a→∀t r,E t→p (f a++t::r)=some (a,t::r)):∀(l:List α)(n:Nat)(t:Tk)(r:List Tk),l≠[]→(∀a∈l,V a)→E t→isW yF t=false→l.length≤n→TS p n (xR f l++t::r)=some (l,t::r)|[],_,_,_,h,_,_,_,_=>absurd rfl h|a::l,0,t,r,_,_,_,_,hn=>by simp at hn|[a],n+1,t,r,_,hV,ht,hm,_=>by rw[TS,xR];simp only[List.isEmpty_nil,if_true,zfF];rw[hp a (hV a (by simp)) t r ht];simp[Zl hm]|a::b::l,n+1,t,r,_,hV,ht,hm,hn=>by have ih:=WE (p:=p) (f:=f) (V:=V) (E:=E) hc hp (b::l) n t r (by simp) (fun x hx=>hV x (zf3 _ hx)) ht hm (by simp at hn⊢;omega);rw[TS,xR];simp only[zf5,zfg,if_false,zfr,zfB];rw[hp a (hV a (by simp)) _ _ hc];have hy:isW yF (tS yF)=true:=rfl;simp only[zfi,Zd hy,if_true,ih,zf0]
theorem ZL{α:Type}{p:List Tk→Option (α×List Tk)}{f:α→List Tk}{V:α→Prop}{E:Tk→Prop}(hc:E (tS yF))(hp:∀a,V a→∀t r,E t→p (f a++t::r)=some (a,t::r))(hp0:∀a,V a→p (f a)=some (a,[])):∀(l:List α)(n:Nat),l≠[]→(∀a∈l,V a)→l.length≤n→TS p n (xR f l)=some (l,[])|[],_,h,_,_=>absurd rfl h|a::l,0,_,_,hn=>by simp at hn|[a],n+1,_,hV,_=>by rw[TS,xR];simp only[List.isEmpty_nil,if_true,zfF];rw[hp0 a (hV a (by simp))];simp[zc]|a::b::l,n+1,_,hV,hn=>by have ih:=ZL (p:=p) (f:=f) (V:=V) (E:=E) hc hp hp0 (b::l) n (by simp) (fun x hx=>hV x (zf3 _ hx)) (by simp at hn⊢;omega);rw[TS,xR];simp only[zf5,zfg,if_false];rw[hp a (hV a (by simp)) _ _ hc];have hy:isW yF (tS yF)=true:=rfl;simp only[zfi,Zd hy,if_true,ih,zf0]
theorem Wc{α:Type}{f:α→List Tk}(hf:∀a,1≤(f a).length):∀l:List α,l.length≤(xR f l).length|[]=>zf6 _|a::l=>by have ih:=Wc hf l;have h1:=hf a;rw[xR];cases l with|nil=>simpa using h1|cons b l=>simp only[zf5,zfg,if_false,zfT,zfD]at ih⊢;omega
theorem Q5:∀n,n<100→X5 (xP n)=some n:=by decide+kernel
theorem YO{l:List UInt8}{n:Nat}(h:X5 l=some n):n<100∧l=xP n:=by unfold X5 at h;have h1:=List.find?_some h;have h2:=zf7 h;exact⟨by simpa using h2,by simpa using h1⟩
theorem Sb(x:Nd):∃t r,ndT x=t::r∧isW Y0 t=false∧isW Y6 t=false:=by unfold ndT;(repeat' split);all_goals exact⟨_,_,rfl,rfl,rfl⟩
theorem R3{x:Nd}(h:Yz x=true){t:Tk}(ht:isW Y6 t=false)(r:List Tk):yh (ndT x++t::r)=some (x,t::r):=by obtain⟨op,n,v⟩:=x;unfold Yz at h;simp only at h;unfold ndT;simp only;by_cases h0:op=0;·{subst h0;simp only[if_true,ze4,Val.eq_iff]at h;obtain⟨hn,rfl⟩:=h;unfold Zy at hn;simp only[ze4,ze6]at hn;obtain⟨m,rfl⟩:∃m:Nat,n=m:=⟨n.toNat,by omega⟩;have hm:=Q5 m (by omega);rw[if_neg (by decide),if_neg (by decide),if_pos rfl];simp only[zfB,zfz,zf8];have e1:isW zg (tW (xP m))=false:=rfl;have e2:isW yT (tW (xP m))=false:=rfl;have e3:isW zX (tW (xP m))=false:=rfl;have e4:Y1 Ue 2 (tW (xP m))=none:=rfl;have e5:(tW (xP m)).t.data.toList=xP m:=rfl;have e6:((tW (xP m)).k==1)=false:=rfl;have e7:((tW (xP m)).k==0)=true:=rfl;rw[yh,e1,e2,e3,e4,e5,e6,e7,hm];rfl};rw[if_neg h0]at h;by_cases h1:op=1;·{subst h1;simp only[if_true,ze4,ze6]at h;obtain⟨rfl,hv⟩:=h;rw[if_neg (by decide),if_pos rfl];split;·{rename_i hv2;have:=Val.eq_iff.1 hv2;subst this;have e1:isW zg (tW zg)=true:=rfl;simp[yh,e1,Zl ht]};split;·{rename_i hv2;have:=Val.eq_iff.1 hv2;subst this;rfl};split;·{rename_i hv2;have:=Val.eq_iff.1 hv2;subst this;rfl};rfl};rw[if_neg h1]at h;simp only[ze4,ze6,Val.eq_iff]at h;obtain⟨h2,h3,rfl,rfl⟩:=h;have:op=2∨op=3∨op=4∨op=5∨op=6∨op=7∨op=8∨op=9∨op=10:=by{omega};rcases this with rfl|rfl|rfl|rfl|rfl|rfl|rfl|rfl|rfl<;>rfl
theorem WF(r:List Tk):∀(e:List Nd)(n:Nat),(∀x∈e,Yz x=true)→e.length<n→YK n (e.flatMap ndT++tS Y0::r)=some (e,r)|[],0,_,hn=>by simp at hn|[],n+1,_,_=>by have e1:isW Y0 (tS Y0)=true:=rfl;simp[YK,e1]|x::e,0,_,hn=>by simp at hn|x::e,n+1,hV,hn=>by have ih:=WF r e n (fun y hy=>hV y (zf3 _ hy)) (by simp at hn;omega);obtain⟨t,q,ht,h1,_⟩:=Sb x;have hs:∃u q',e.flatMap ndT++tS Y0::r=u::q'∧isW Y6 u=false:=by{cases e with|nil=>exact⟨_,_,rfl,rfl⟩|cons y e=>obtain⟨u,q',hu,_,h3⟩:=Sb y;exact⟨u,q'++(e.flatMap ndT++tS Y0::r),by rw[zf9,hu];simp,h3⟩};obtain⟨u,q',hu,h3⟩:=hs;have hst:=R3 (hV x (by simp)) h3 q';rw[←hu]at hst;rw[zf9,zfr];rw[ht]at hst⊢;rw[zfB]at hst⊢;rw[YK,if_neg (by rw[h1];simp),hst];simp only[zfi];rw[ih];rfl
theorem L8(x:Nd):1≤(ndT x).length:=by obtain⟨t,r,h,_⟩:=Sb x;rw[h];simp
theorem WG{α β:Type}{f:α→List β}(hf:∀a,1≤(f a).length):∀l:List α,l.length≤(l.flatMap f).length|[]=>zf6 _|a::l=>by have:=WG hf l;have h1:=hf a;rw[zf9,zfT,zfD];omega
theorem VE{e:List Nd}(h:Uf e=true)(r:List Tk):xj (Zc e++r)=some (e,r):=by unfold Uf at h;simp only[ze4,ze6,zeY]at h;have e1:isW Y5 (tS Y5)=true:=rfl;unfold xj Zc;simp only[zfB,zfr,zfz];rw[ZK e1];simp only[zfi];rw[WF r e _ h.2 (by have:=WG L8 e;simp only[zfT,zfD];omega)];simp[h.1]
theorem XR:∀(l:List (List Nd))(n:Nat),(∀e∈l,Uf e=true)→l.length<n→xr n (l.flatMap fun e=>tW zk::Zc e)=some (l,[])|[],0,_,hn=>by simp at hn|[],n+1,_,_=>rfl|e::l,0,_,hn=>by simp at hn|e::l,n+1,hV,hn=>by have ih:=XR l n (fun y hy=>hV y (zf3 _ hy)) (by simp at hn;omega);have e1:isW zk (tW zk)=true:=rfl;rw[zf9,zfB,xr,Zd e1];simp only[if_true];rw[VE (hV e (by simp))];simp only[zfi];rw[ih];rfl
theorem L9(c:Cl):1≤(clT c).length:=by simp[clT]
theorem Sd{t:Tb}(h:Z6 t=true):ZB (tbT t)=some (t,[]):=by obtain⟨nm,cols,cks⟩:=t;unfold Z6 at h;simp only[ze4,ze6,zeY,zfj,zga]at h;obtain⟨h1,h2,h3,h4,h5,h6⟩:=h;have e1:isW XP (tS XP)=true:=rfl;have e2:isW XQ (tS XQ)=true:=rfl;unfold ZB tbT;simp only;rw[Zg h1];simp only[zfi];rw[ZK e1];simp only[zfi];unfold YL;rw[WE (p:=zz) (f:=clT) (V:=fun c=>YN c=true) (E:=zdR) (.inl rfl) (fun a ha t r ht=>UU ha ht r) cols _ _ _ h2 h5 (.inr rfl) rfl (by have:=Wc L9 cols;simp only[zfT,zfD];omega)];simp only[zfi];rw[ZK e2];simp only[zfi];rw[XR cks _ h6 (by have:=WG (f:=fun e=>tW zk::Zc e) (fun a=>by simp) cks;omega)];simp[h3,h4]
theorem UV{a:Ag}(h:Z7 a=true)(r:List Tk):YM (agT a++r)=some (a,r):=by obtain⟨f,c⟩:=a;unfold Z7 at h;simp only at h;unfold YM agT;simp only[zfB];by_cases h0:f=0;·{subst h0;simp only[if_true,ze6]at h;subst h;rw[Lq (by decide) (by decide)];rfl};rw[if_neg h0]at h⊢;simp only[ze4,ze6]at h;rw[Lq h.1 h.2.1];simp only[zfi,zfB,zfz];rw[if_neg h0,Yg h.2.2];rfl
theorem zaa(a:Ag):1≤(agT a).length:=by simp[agT]
theorem R4{v:Vw}(h:(if v.wth.toList.isEmpty then decide (v.on0=0)&&decide (v.on1=0)else xU v.wth.data.toList&&(Zy v.on0&&Zy v.on1))=true){t:Tk}(ht:isW zH t=false)(r:List Tk):ZJ ((if v.wth.toList.isEmpty then[]else[tW zH,tN v.wth,tW YZ,yW v.on0,tS Yb,yW v.on1])++t::r)=some ((v.wth,v.on0,v.on1),t::r):=by obtain⟨nm,fr,wt,o0,o1,wh,pk,g,ag⟩:=v;simp only at*;cases hw:wt.toList.isEmpty;·{rw[hw]at h;simp only[zfg,if_false,ze4]at h;have e1:isW zH (tW zH)=true:=rfl;have e2:isW YZ (tW YZ)=true:=rfl;have e3:isW Yb (tS Yb)=true:=rfl;unfold ZJ;simp only[zfg,if_false,zfB,zfz];rw[Zd e1];simp only[if_true];rw[Zg h.1];simp only[zfi];rw[ZK e2];simp only[zfi];rw[Yg h.2.1];simp only[zfi];rw[ZK e3];simp only[zfi];rw[Yg h.2.2];rfl};rw[hw]at h;simp only[if_true,ze4,ze6]at h;have:=SV hw;subst this;obtain⟨rfl,rfl⟩:=h;unfold ZJ;simp[Zl ht]
theorem Se{e:List Nd}(h:Uf e=true)(r:List Tk):xG ((if e.isEmpty then[]else tW zm::Zc e)++tW zu::r)=some (e,tW zu::r):=by unfold xG;cases e with|nil=>have e1:isW zm (tW zu)=false:=rfl;simp[Zl e1]|cons x e=>have e1:isW zm (tW zm)=true:=rfl;simp only[zf5,zfg,if_false,zfB];rw[Zd e1];simp only[if_true];exact VE h _
def zdS(t:Tk):Prop:=t=tS yF∨t=tW zf
def SW(g:Bool)(ag:List Ag):List Tk:=if g then tW zf::xR agT ag else[]
theorem Sf{pk:List Int}(h:∀n∈pk,Zy n=true)(g:Bool)(ag:List Ag):xH (xR (fun n=>[yW n]) pk++SW g ag)=some (pk,SW g ag):=by have hp:∀a,Zy a=true→∀t r,zdS t→xO ([yW a]++t::r)=some (a,t::r):=fun a ha t r _=>Yg ha _;have hp0:∀a,Zy a=true→xO [yW a]=some (a,[]):=fun a ha=>Yg ha [];have hl:pk.length≤(xR (fun n=>[yW n]) pk).length:=Wc (fun _=>by simp) pk;have eg:isW zf (tW zf)=true:=rfl;cases pk with|nil=>unfold xH SW xR;cases g;·{rfl};simp only[if_true,zfz];rw[Zd eg];simp|cons n pk=>have hh:∃q,xR (fun n=>[yW n]) (n::pk)=yW n::q:=⟨_,rfl⟩;obtain⟨q,hq⟩:=hh;have em:isW zf (yW n)=false:=rfl;have h0:(((yW n::q)++SW g ag).isEmpty||(zc zf ((yW n::q)++SW g ag)).1)=false:=by{rw[zfB,Zl em];rfl};unfold xH;rw[hq,h0];simp only[zfg,if_false];rw[←hq];unfold YL SW;cases g;·{simp only[zfg,if_false,zfF];exact ZL (p:=xO) (f:=fun n=>[yW n]) (V:=fun n=>Zy n=true) (E:=zdS) (.inl rfl) hp hp0 (n::pk) _ (by simp) h (by omega)};simp only[if_true];exact WE (p:=xO) (f:=fun n=>[yW n]) (V:=fun n=>Zy n=true) (E:=zdS) (.inl rfl) hp (n::pk) _ _ _ (by simp) h (.inr rfl) rfl (by simp only[zfT,zfD]at hl⊢;omega)
theorem R5{g:Bool}{ag:List Ag}(h:∀a∈ag,Z7 a=true)(hg:(g||ag.isEmpty)=true):ZC (SW g ag)=some ((g,ag),[]):=by have eg:isW zf (tW zf)=true:=rfl;unfold ZC SW;cases g;·{simp only[zfc,List.isEmpty_iff]at hg;subst hg;rfl};simp only[if_true];rw[Zd eg];cases ag with|nil=>rfl|cons a ag=>have hh:∃t q,xR agT (a::ag)=t::q:=⟨_,_,rfl⟩;obtain⟨t,q,hq⟩:=hh;have hl:=Wc zaa (a::ag);simp only[if_true];rw[hq];simp only[zf5,zfg,if_false];rw[←hq];unfold YL;rw[ZL (p:=YM) (f:=agT) (V:=fun a=>Z7 a=true) (E:=fun _=>True) trivial (fun a ha t r _=>UV ha _) (fun a ha=>by have:=UV ha [];rwa[zfF]at this) (a::ag) _ (by simp) h (by omega)];rfl
theorem R6{v:Vw}(h:Zt v=true):Y7 (vwT v)=some (v,[]):=by unfold Zt at h;simp only[ze4,ze6,zeY]at h;obtain⟨h1,h2,h3,h4,h5,h6,h7,h8,h9⟩:=h;have e1:isW zU (tW zU)=true:=rfl;have e2:isW zu (tW zu)=true:=rfl;unfold Y7 vwT;rw[Zg h1];simp only[zfi];rw[ZK e1];simp only[zfi];rw[Zg h2];simp only[zfi];have hx:∃t r,(if v.whr.isEmpty then[]else tW zm::Zc v.whr)++tW zu::(xR (fun n=>[yW n]) v.pick++SW v.grp v.aggs)=t::r∧isW zH t=false:=by{cases v.whr with|nil=>exact⟨_,_,rfl,rfl⟩|cons x e=>exact⟨_,_,rfl,rfl⟩};obtain⟨t,r,hx,ht⟩:=hx;have hg:(if v.grp=true then tW zf::xR agT v.aggs else[])=SW v.grp v.aggs:=rfl;rw[hg,hx,R4 h3 ht,←hx];simp only[zfi];rw[Se h4];simp only[zfi];rw[ZK e2];simp only[zfi];rw[Sf h6];simp only[zfi];rw[R5 h8 (by simpa using h9)];simp[h5,h7]
theorem R7{d:Df}(h:Yq d):zY (yK d)=some d:=by obtain⟨k,t,v⟩:=d;rcases h with⟨rfl,h1,rfl⟩|⟨rfl,rfl,h1⟩;·{have e:Zs [zn,zE] (tW zn::tbT t)=some (0,tbT t):=rfl;unfold zY yK;simp only[if_true];rw[e];simp only[zfi,if_true];rw[Sd h1];rfl};have e:Zs [zn,zE] (tW zE::vwT v)=some (1,vwT v):=rfl;unfold zY yK;have n1:¬(1:Int)=0:=by{decide};simp only[if_neg n1];rw[e];simp only[zfi,if_neg n1];rw[R6 h1];rfl
open Go
structure En where
 n : ByteArray
 tb : Bool
 ks : List Int
 ns : List Bool
def xL(d:Df):ByteArray:=if d.k=0 then d.t.name else d.v.name
def zF(g:List En)(n:ByteArray):Option En:=g.find? fun e=>decide (e.n=n)
def ksE(g:List En)(n:ByteArray):List Int:=match zF g n with|some e=>e.ks|none=>[]
def zG(g:List En)(v:Vw):List Int:=ksE g v.frm++(if v.wth.toList.isEmpty then[]else ksE g v.wth)
def zdH(all:List Int)(a:Ag):Int:=if 2≤a.fn then all.getD a.col.toNat 0 else 2
def xI(g:List En)(d:Df):List Int:=if d.k=0 then d.t.cols.map (·.kind)else d.v.pick.map (fun n=>(zG g d.v).getD n.toNat 0)++d.v.aggs.map (zdH (zG g d.v))
def WH(d:Df):List Bool:=if d.k=0 then d.t.cols.map (·.nul)else List.replicate (d.v.pick.length+d.v.aggs.length) true
def enD(g:List En)(d:Df):En:=⟨xL d,decide (d.k=0),xI g d,WH d⟩
def yR:List En→List Df→List En|g,[]=>g|g,d::r=>yR (g++[enD g d]) r
def YE:List Cl→Bool|[]=>false|c::r=>r.any (fun x=>decide (x.name=c.name))||YE r
def Q6:List Cl→Bool|[]=>true|c::_=>c.nul||(decide (c.kind=1)||!c.ref.toList.isEmpty)
def WI(t:Tb):Bool:=YE t.cols||Q6 t.cols
def zdT(g:List En)(t:Tb)(r:ByteArray):Option Int:=if r=t.name then t.cols.head?.map (·.kind)else(zF g r).bind fun e=>if e.tb then e.ks.head? else none
def WJ(g:List En)(t:Tb)(c:Cl):Bool:=!c.ref.toList.isEmpty&&match zdT g t c.ref with|none=>true|some k=>decide (c.kind≠k)||(decide (c.act=2)&&!c.nul)
def ZZ(ty:List Nd→List Int→Int×Int)(e:List Nd)(cols:List Int):Bool:=decide ((ty e cols).2=0)&&decide ((ty e cols).1<2)
def YP(g:List En)(v:Vw):Bool:=!v.wth.toList.isEmpty&&(decide (v.on0≥(ksE g v.frm).length)||(decide ((ksE g v.frm).length+v.on1≥(zG g v).length)||decide ((zG g v).getD v.on0.toNat 0≠(zG g v).getD ((ksE g v.frm).length+v.on1.toNat) 0)))
def WK(all:List Int)(a:Ag):Bool:=decide (a.fn≠0)&&(decide (a.col≥all.length)||(decide (a.fn=1)&&decide (all.getD a.col.toNat 0≠2)))
def YQ(ty:List Nd→List Int→Int×Int)(g:List En)(v:Vw):Bool:=(zF g v.frm).isNone||((!v.wth.toList.isEmpty&&(zF g v.wth).isNone)||(YP g v||((!v.whr.isEmpty&&!ZZ ty v.whr (zG g v))||(v.pick.any (fun n=>decide (n≥(zG g v).length))||(v.aggs.any (WK (zG g v))||((!v.grp&&!v.aggs.isEmpty)||(decide (v.pick.length+v.aggs.length=0)||decide (40<v.pick.length+v.aggs.length))))))))
def zB(ok:Df→Bool)(ty:List Nd→List Int→Int×Int)(g:List En)(d:Df):Int:=if ok d=false then 1 else if 20≤g.length then 95 else if(zF g (xL d)).isSome then 90 else if d.k=0 then(if WI d.t then 91 else if d.t.cols.any (WJ g d.t)then 92 else if d.t.checks.any (fun e=>!ZZ ty e (d.t.cols.map (·.kind)))then 93 else 0)else if YQ ty g d.v then 94 else 0
def Sg(ok:Df→Bool)(ty:List Nd→List Int→Int×Int):List En→List Df→Bool|_,[]=>true|g,d::r=>decide (zB ok ty g d=0)&&Sg ok ty (g++[enD g d]) r
def Zw(ok:Df→Bool)(ty:List Nd→List Int→Int×Int)(c:List Df):Bool:=Sg ok ty [] c
def UW(n:ByteArray):List Df→Nat→Int|[],_=>-1|d::r,i=>if xL d=n then(i:Int)else UW n r (i+1)
def Xv(c:List Df)(n:ByteArray):Int:=UW n c 0
variable {ok : Df → Bool} {ty : List Nd → List Int → Int × Int}
theorem Wd:∀(c:List Df)(g:List En),(yR g c).length=g.length+c.length|[],_=>rfl|d::c,g=>by rw[yR,Wd c];simp only[zfT,zfD,zfV];omega
theorem We:∀(a b:List Df)(g:List En),yR g (a++b)=yR (yR g a) b|[],_,_=>rfl|d::a,b,g=>by rw[zfB,yR,yR,We a b]
theorem Wf:∀(a b:List Df)(g:List En),Sg ok ty g (a++b)=(Sg ok ty g a&&Sg ok ty (yR g a) b)|[],_,_=>rfl|d::a,b,g=>by rw[zfB,Sg,Sg,yR,Wf a b,Bool.and_assoc]
theorem Ug{c:List Df}(h:Zw ok ty c=true)(k:Nat):Zw ok ty (c.take k)=true:=by unfold Zw at*;rw[←List.take_append_drop k c,Wf,ze4]at h;exact h.1
theorem VF{c:List Df}(h:Zw ok ty c=true){k:Nat}{d:Df}(hd:c[k]?=some d):zB ok ty (yR [] (c.take k)) d=0:=by have h1:=Ug h (k+1);unfold Zw at h1;rw[zgb,hd,Wf,ze4]at h1;have:=h1.2;simp only[zfA,Sg,zgc,ze6]at this;exact this
theorem zab{c:List Df}{d:Df}:Zw ok ty (c++[d])=(Zw ok ty c&&decide (zB ok ty (yR [] c) d=0)):=by unfold Zw;rw[Wf];simp[Sg]
structure zeA (ok : Df → Bool) (ty : List Nd → List Int → Int × Int) (g : List En) (d : Df) : Prop where
 ok : ok d = true
 len : g.length < 20
 new : zF g (xL d) = none
 tab : d.k = 0 → WI d.t = false ∧ d.t.cols.any (WJ g d.t) = false ∧ d.t.checks.any (fun e => !ZZ ty e (d.t.cols.map (·.kind))) = false
 view : d.k ≠ 0 → YQ ty g d.v = false
theorem xM{g:List En}{d:Df}:zB ok ty g d=0↔zeA ok ty g d:=by constructor;·{intro h;unfold zB at h;split at h;·{cases h};rename_i h1;split at h;·{cases h};rename_i h2;split at h;·{cases h};rename_i h3;refine⟨by simpa using h1,by omega,by simpa using h3,fun hk=>?_,fun hk=>?_⟩;·{rw[if_pos hk]at h;split at h;·{cases h};rename_i h4;split at h;·{cases h};rename_i h5;split at h;·{cases h};rename_i h6;exact⟨by simpa using h4,by simpa using h5,by simpa using h6⟩};rw[if_neg hk]at h;split at h;·{cases h};rename_i h4;simpa using h4};rintro⟨h1,h2,h3,h4,h5⟩;unfold zB;rw[if_neg (by simp[h1]),if_neg (by omega),if_neg (by simp[h3])];by_cases hk:d.k=0;·{obtain⟨a,b,c⟩:=h4 hk;rw[if_pos hk,a,b,c];rfl};rw[if_neg hk,h5 hk];rfl
theorem Yh(g h:List En)(n:ByteArray):zF (g++h) n=match zF g n with|some e=>some e|none=>zF h n:=by unfold zF;rw[List.find?_append];cases g.find? fun e=>decide (e.n=n)<;>rfl
theorem WL{g h:List En}{n:ByteArray}{e:En}(hf:zF g n=some e):zF (g++h) n=some e:=by rw[Yh,hf]
theorem Sh:∀(c:List Df)(g:List En),∃h,yR g c=g++h|[],g=>⟨[],by simp[yR]⟩|d::c,g=>by obtain⟨h,e⟩:=Sh c (g++[enD g d]);exact⟨enD g d::h,by rw[yR,e];simp⟩
theorem NC(c:List Df)(k:Nat):∃h,yR [] c=yR [] (c.take k)++h:=by obtain⟨h,e⟩:=Sh (c.drop k) (yR [] (c.take k));refine⟨h,?_⟩;rw[←We,List.take_append_drop]at e;exact e
theorem UX(n:ByteArray):∀(c:List Df)(g:List En)(i:Nat),zF g n=none→(zF (yR g c) n).isSome=decide (0≤UW n c i)|[],g,i,h=>by simp[yR,h,UW]|d::c,g,i,h=>by rw[yR];unfold UW;by_cases hd:xL d=n;·{have:zF (g++[enD g d]) n=some (enD g d):=by{rw[Yh,h];simp[zF,enD,hd]};obtain⟨q,e⟩:=Sh c (g++[enD g d]);rw[e,WL this,if_pos hd];simp};rw[if_neg hd];refine UX n c _ (i+1) ?_;rw[Yh,h];simp[zF,enD,hd]
theorem WM(c:List Df)(n:ByteArray):(zF (yR [] c) n).isSome=decide (0≤Xv c n):=UX n c [] 0 rfl
theorem R8(n:ByteArray)(d:Df)(c:List Df)(i:Nat):UW n (d::c) i=if xL d=n then(i:Int)else UW n c (i+1):=rfl
structure YB (e : En) : Prop where
 ne : 1 ≤ e.ks.length
 le : e.ks.length ≤ 40
 kd : ∀ k ∈ e.ks, 1 ≤ k ∧ k ≤ 3
 nl : e.ns.length = e.ks.length
theorem SX{g:List En}(h:∀e∈g,YB e)(n:ByteArray):∀k∈ksE g n,1≤k∧k≤3:=by intro k hk;unfold ksE at hk;split at hk;·{rename_i e he;exact(h e (zf7 he)).kd k hk};cases hk
theorem Yi{g:List En}(h:∀e∈g,YB e)(v:Vw):∀k∈zG g v,1≤k∧k≤3:=by intro k hk;unfold zG at hk;rcases zfu.1 hk with hk|hk;·{exact SX h _ k hk};split at hk;·{cases hk};exact SX h _ k hk
theorem WN{l:List Int}(h:∀k∈l,1≤k∧k≤3){n:Int}(h0:0≤n)(hn:n<l.length):1≤l.getD n.toNat 0∧l.getD n.toNat 0≤3:=by have hlt:n.toNat<l.length:=by{omega};rw[zgd,zge hlt];exact h _ (List.getElem_mem hlt)
structure ND (ty : List Nd → List Int → Int × Int) (g : List En) (v : Vw) : Prop where
 frm : (zF g v.frm).isSome = true
 wth : v.wth.toList.isEmpty = false → (zF g v.wth).isSome = true
 join : YP g v = false
 whr : v.whr.isEmpty = false → ZZ ty v.whr (zG g v) = true
 pick : ∀ n ∈ v.pick, n < (zG g v).length
 aggs : ∀ a ∈ v.aggs, WK (zG g v) a = false
 grp : v.grp = false → v.aggs = []
 few : 1 ≤ v.pick.length + v.aggs.length ∧ v.pick.length + v.aggs.length ≤ 40
theorem Y8{g:List En}{v:Vw}:YQ ty g v=false↔ND ty g v:=by unfold YQ;simp only[zgf,zgg,Bool.not_eq_false',List.any_eq_false,ze6,zgh,Option.isNone_eq_false_iff];constructor;·{rintro⟨h1,h2,h3,h4,h5,h6,h7,h8,h9⟩;refine⟨by simpa using h1,fun hw=>?_,h3,fun hw=>?_,fun n hn=>by have:=h5 n hn;omega,fun a ha=>by simpa using h6 a ha,fun hg=>?_,by omega⟩;·{rcases h2 with h|h;·{rw[hw]at h;cases h};simpa using h};·{rcases h4 with h|h;·{rw[hw]at h;cases h};exact h};rcases h7 with h|h;·{rw[hg]at h;cases h};simpa using h};rintro⟨h1,h2,h3,h4,h5,h6,h7,h8⟩;refine⟨by simpa using h1,?_,h3,?_,fun n hn=>by have:=h5 n hn;omega,fun a ha=>by simpa using h6 a ha,?_,by omega,by omega⟩;·{cases hw:v.wth.toList.isEmpty;·{right;simpa using h2 hw};left;rfl};·{cases hw:v.whr.isEmpty;·{right;exact h4 hw};left;rfl};cases hg:v.grp;·{right;rw[h7 hg];rfl};left;rfl
theorem Q7{d:Df}(h:Yq d)(hk:d.k=0):Z6 d.t=true:=by rcases h with⟨_,h,_⟩|⟨h,_⟩;·{exact h};omega
theorem Q8{d:Df}(h:Yq d)(hk:d.k≠0):d.k=1∧Zt d.v=true:=by rcases h with⟨h,_⟩|⟨h,_,h2⟩;·{exact absurd h hk};exact⟨h,h2⟩
theorem VG(g:List En)(d:Df):(xI g d).length=(WH d).length:=by unfold xI WH;split<;>simp
theorem NE{g:List En}{d:Df}(hm:Yq d)(hf:zeA ok ty g d)(hg:∀e∈g,YB e):YB (enD g d):=by by_cases hk:d.k=0;·{have ht:=Q7 hm hk;unfold Z6 at ht;simp only[ze4,zeY,ze6,zfj,zga]at ht;obtain⟨_,h2,h3,_,h5,_⟩:=ht;have e:xI g d=d.t.cols.map (·.kind):=by{unfold xI;rw[if_pos hk]};refine⟨?_,?_,?_,(VG g d).symm⟩;·{show 1≤(xI g d).length;rw[e,zgi];exact zgj.2 h2};·{show(xI g d).length≤40;rw[e,zgi];exact h3};intro k hk';have hk':k∈xI g d:=hk';rw[e]at hk';obtain⟨c,hc,rfl⟩:=ze9.1 hk';have:=h5 c hc;unfold YN at this;simp only[ze4,ze6]at this;exact⟨this.2.1,this.2.2.1⟩};obtain⟨_,hv⟩:=Q8 hm hk;have hb:=Y8.1 (hf.view hk);unfold Zt at hv;simp only[ze4,zeY,ze6]at hv;obtain⟨_,_,_,_,_,h6,_,h8,_⟩:=hv;have e:xI g d=d.v.pick.map (fun n=>(zG g d.v).getD n.toNat 0)++d.v.aggs.map (zdH (zG g d.v)):=by{unfold xI;rw[if_neg hk]};have hj:=Yi hg d.v;refine⟨?_,?_,?_,(VG g d).symm⟩;·{show 1≤(xI g d).length;rw[e,zfT,zgi,zgi];exact hb.few.1};·{show(xI g d).length≤40;rw[e,zfT,zgi,zgi];exact hb.few.2};intro k hk';have hk':k∈xI g d:=hk';rw[e]at hk';rcases zfu.1 hk' with h|h;·{obtain⟨n,hn,rfl⟩:=ze9.1 h;have h0:=h6 n hn;unfold Zy at h0;simp only[ze4,ze6]at h0;exact WN hj h0.1 (hb.pick n hn)};obtain⟨a,ha,rfl⟩:=ze9.1 h;unfold zdH;split;·{rename_i h2;have ham:=h8 a ha;unfold Z7 at ham;rw[if_neg (by omega)]at ham;unfold Zy at ham;simp only[ze4,ze6]at ham;have hab:=hb.aggs a ha;unfold WK at hab;rw[zgg]at hab;rcases hab with hab|hab;·{simp at hab;omega};simp only[zgf,zgh]at hab;exact WN hj ham.2.2.1 (by have:=hab.1;omega)};omega
theorem UY(hok:∀d,ok d=true→Yq d):∀(c:List Df)(g:List En),Sg ok ty g c=true→(∀e∈g,YB e)→∀e∈yR g c,YB e|[],_,_,hg=>hg|d::c,g,h,hg=>by rw[Sg,ze4,ze6]at h;have hf:=xM.1 h.1;rw[yR];refine UY hok c _ h.2 fun e he=>?_;rcases zfu.1 he with he|he;·{exact hg e he};obtain rfl:=zfU.1 he;exact NE (hok d hf.ok) hf hg
theorem Uh(hok:∀d,ok d=true→Yq d){c:List Df}(h:Zw ok ty c=true):∀e∈yR [] c,YB e:=UY hok c [] h fun e he=>by cases he
theorem SY{c:List Df}(h:Zw ok ty c=true){k:Nat}{d:Df}(hd:c[k]?=some d):zF (yR [] c) (xL d)=some (enD (yR [] (c.take k)) d):=by have hf:=xM.1 (VF h hd);obtain⟨q,e⟩:=NC c (k+1);have e1:yR [] (c.take (k+1))=yR [] (c.take k)++[enD (yR [] (c.take k)) d]:=by{rw[zgb,hd];simp only[zfA];rw[We];rfl};rw[e,e1];refine WL ?_;rw[Yh,hf.new];simp[zF,enD]
theorem zcj{c:List Df}(h:Zw ok ty c=true){k:Nat}{d:Df}(hd:c[k]?=some d):enD (yR [] (c.take k)) d∈yR [] c:=zf7 (SY h hd)
theorem R9{c:List Df}(h:Zw ok ty c=true){k:Nat}{d:Df}(hd:c[k]?=some d)(hk:d.k≠0):0≤Xv (c.take k) d.v.frm∧(d.v.wth.toList.isEmpty=false→0≤Xv (c.take k) d.v.wth):=by have hb:=Y8.1 ((xM.1 (VF h hd)).view hk);refine⟨?_,fun hw=>?_⟩;·{have:=hb.frm;rwa[WM,ze6]at this};have:=hb.wth hw;rwa[WM,ze6]at this
theorem Q9{c:List Df}(h:Zw ok ty c=true){k:Nat}{d:Df}(hd:c[k]?=some d)(hk:d.k=0){x:Cl}(hx:x∈d.t.cols)(hr:x.ref.toList.isEmpty=false)(hn:x.ref≠d.t.name):0≤Xv (c.take k) x.ref:=by have hb:=((xM.1 (VF h hd)).tab hk).2.1;rw[List.any_eq_false]at hb;have hb:=hb x hx;unfold WJ at hb;rw[hr]at hb;have hs:(zF (yR [] (c.take k)) x.ref).isSome=true:=by{unfold zdT at hb;rw[if_neg hn]at hb;cases hf:zF (yR [] (c.take k)) x.ref with|none=>rw[hf]at hb;simp at hb|some e=>rfl};rwa[WM,ze6]at hs
theorem zac(c:List Df)(d:Df):yR [] (c++[d])=yR [] c++[enD (yR [] c) d]:=by rw[We];rfl
theorem YR{g:List En}{d:Df}(hk:d.k=0):xI g d=d.t.cols.map (·.kind)∧WH d=d.t.cols.map (·.nul):=by unfold xI WH;rw[if_pos hk,if_pos hk];exact⟨rfl,rfl⟩
open Go
def kAt(ks:List Int)(n:Int):Int:=if n<0∨(ks.length:Int)≤n then 0 else ks.getD n.toNat 0
def YC(fk:List Int)(a:Ag):Int:=if a.fn=0 then 2 else if a.fn=1∧kAt fk a.col≠2 then 0 else kAt fk a.col
def YD(v:Vw)(fk:List Int):List Int:=v.pick.map (kAt fk)++v.aggs.map (YC fk)
def XS(g:List En)(v:Vw):Option (List Int):=match zF g v.frm with|none=>none|some f=>if v.wth.toList.isEmpty then some f.ks else match zF g v.wth with|none=>none|some e=>if kAt f.ks v.on0=0∨kAt f.ks v.on0≠kAt e.ks v.on1 then none else some (f.ks++e.ks)
def Pa(ty:List Nd→List Int→Int×Int)(v:Vw)(fk:List Int):Bool:=(!v.whr.isEmpty&&!ZZ ty v.whr fk)||(!v.aggs.isEmpty&&!v.grp)
def QR(ks:List Int):Bool:=decide (ks.length=0)||(decide (40<ks.length)||ks.contains 0)
def Z0(ty:List Nd→List Int→Int×Int)(g:List En)(v:Vw):Option En:=match XS g v with|none=>none|some fk=>if Pa ty v fk then none else if QR (YD v fk)then none else some ⟨v.name,false,YD v fk,List.replicate (YD v fk).length true⟩
theorem SZ{ks:List Int}{n:Int}(h:kAt ks n≠0):0≤n∧n<ks.length∧kAt ks n=ks.getD n.toNat 0:=by unfold kAt at*;split at h;·{exact absurd rfl h};rename_i hn;rw[if_neg hn];exact⟨by omega,by omega,rfl⟩
theorem Yj{ks:List Int}{n:Int}(h0:0≤n)(h:n<ks.length):kAt ks n=ks.getD n.toNat 0:=by unfold kAt;rw[if_neg (by omega)]
theorem Ui{ks:List Int}(hk:∀k∈ks,1≤k∧k≤3){n:Int}(h0:0≤n)(h:n<ks.length):kAt ks n≠0:=by rw[Yj h0 h];have:=WN hk h0 h;omega
theorem Wg{g:List En}{n:ByteArray}{e:En}(h:zF g n=some e):ksE g n=e.ks:=by unfold ksE;rw[h]
theorem Si{g:List En}{v:Vw}{f:En}(h:zF g v.frm=some f)(hw:v.wth.toList.isEmpty=true):zG g v=f.ks:=by unfold zG;rw[Wg h,if_pos hw,zfF]
theorem WO{g:List En}{v:Vw}{f e:En}(h:zF g v.frm=some f)(hw:v.wth.toList.isEmpty=false)(h2:zF g v.wth=some e):zG g v=f.ks++e.ks:=by unfold zG;rw[Wg h,Wg h2,if_neg (by simp[hw])]
theorem UZ{a b:List Int}{n:Nat}(h:n<a.length):(a++b).getD n 0=a.getD n 0:=by rw[zgd,zgd,List.getElem?_append_left h]
theorem VH{a b:List Int}{n:Nat}:(a++b).getD (a.length+n) 0=b.getD n 0:=by rw[zgd,zgd,List.getElem?_append_right (by omega),Nat.add_sub_cancel_left]
theorem Lr{g:List En}(hg:∀e∈g,YB e){v:Vw}(hv:Zt v=true){fk:List Int}:XS g v=some fk↔((zF g v.frm).isSome=true∧(v.wth.toList.isEmpty=false→(zF g v.wth).isSome=true)∧YP g v=false)∧fk=zG g v:=by unfold Zt at hv;simp only[ze4]at hv;have hon:=hv.2.2.1;unfold XS;cases hf:zF g v.frm with|none=>simp|some f=>have gf:=hg f (zf7 hf);cases hw:v.wth.toList.isEmpty with|true=>simp only[if_true];rw[Si hf hw];have hjb:YP g v=false:=by{unfold YP;rw[hw];rfl};constructor;·{intro h;exact⟨⟨rfl,(fun h=>by cases h),hjb⟩,(zgk h).symm⟩};rintro⟨_,rfl⟩;rfl|false=>rw[hw]at hon;simp only[zfg,if_false,ze4,Zy,ze6]at hon⊢;obtain⟨_,⟨o1,_⟩,o2,_⟩:=hon;cases h2:zF g v.wth with|none=>simp|some e=>have ge:=hg e (zf7 h2);rw[WO hf hw h2];have hjb:YP g v=false↔(v.on0<f.ks.length∧v.on1<e.ks.length∧kAt f.ks v.on0=kAt e.ks v.on1):=by{unfold YP;rw[hw,Wg hf,WO hf hw h2];simp only[zfe,zgl,zgf,zgh,zfT,Decidable.not_not];constructor;·{rintro⟨a,b,c⟩;have a':v.on0<f.ks.length:=by{omega};have b':v.on1<e.ks.length:=by{omega};rw[UZ (by omega),VH]at c;exact⟨a',b',by rw[Yj o1 a',Yj o2 b',c]⟩};rintro⟨a,b,c⟩;refine⟨by omega,by omega,?_⟩;rw[UZ (by omega),VH,←Yj o1 a,←Yj o2 b,c]};simp only[Option.isSome_some,true_and,forall_const,hjb];by_cases hc:kAt f.ks v.on0=0∨kAt f.ks v.on0≠kAt e.ks v.on1;·{rw[if_pos hc];constructor;·{intro h;cases h};rintro⟨⟨a,b,c⟩,_⟩;rcases hc with hc|hc;·{exact absurd hc (Ui gf.kd o1 a)};exact absurd c hc};rw[if_neg hc];have h0:kAt f.ks v.on0≠0:=fun h=>hc (.inl h);have h1:kAt f.ks v.on0=kAt e.ks v.on1:=Decidable.not_not.1 fun h=>hc (.inr h);have a:=SZ h0;rw[h1]at h0;have b:=SZ h0;constructor;·{intro h;exact⟨⟨a.2.1,b.2.1,h1⟩,(zgk h).symm⟩};rintro⟨_,rfl⟩;rfl
theorem zck{v:Vw}(hv:Zt v=true){fk:List Int}(hk:∀k∈fk,1≤k∧k≤3):(YD v fk).contains 0=false↔((∀n∈v.pick,n<fk.length)∧∀a∈v.aggs,WK fk a=false):=by unfold Zt at hv;simp only[ze4,zeY,Zy,ze6]at hv;have hp:=hv.2.2.2.2.2.1;have ha:=hv.2.2.2.2.2.2.2.1;have hone:∀a∈v.aggs,YC fk a≠0↔WK fk a=false:=by{intro a ham;have hm:=ha a ham;unfold Z7 at hm;unfold YC WK;by_cases h0:a.fn=0;·{rw[if_pos h0];simp[h0]};rw[if_neg h0]at hm⊢;simp only[Zy,ze4,ze6]at hm;obtain⟨m1,m2,m3,m4⟩:=hm;simp only[h0,ne_eq,not_false_eq_true,decide_true,zgl,zgf,zgh,zgg];constructor;·{intro h;have hk0:kAt fk a.col≠0:=by{intro hz;rw[hz]at h;split at h<;>exact h rfl};have hi:=SZ hk0;refine⟨by omega,?_⟩;by_cases h1:a.fn=1;·{right;by_cases h2:kAt fk a.col=2;·{rw[←hi.2.2,h2];simp};rw[if_pos ⟨h1,h2⟩]at h;exact absurd rfl h};left;exact h1};rintro⟨h1,h2⟩;have hl:a.col<fk.length:=by{omega};have hk2:=Ui hk m3 hl;rw[←Yj m3 hl]at h2;rw[if_neg];·{exact hk2};rintro⟨h3,h4⟩;rcases h2 with h2|h2;·{exact h2 h3};exact h2 h4};rw[←zgm,zfd];unfold YD;rw[zfu,ze9,ze9];constructor;·{intro h;refine⟨fun n hn=>?_,fun a ham=>(hone a ham).1 fun hz=>h (.inr ⟨a,ham,hz⟩)⟩;exact(SZ (fun hz=>h (.inl ⟨n,hn,hz⟩))).2.1};rintro⟨h1,h2⟩(⟨n,hn,hz⟩|⟨a,ham,hz⟩);·{exact Ui hk (hp n hn).1 (h1 n hn) hz};exact(hone a ham).2 (h2 a ham) hz
variable {ty : List Nd → List Int → Int × Int}
theorem WP{g:List En}{d:Df}(hv:Zt d.v=true)(hk:d.k≠0)(h:ND ty g d.v)(hg:∀e∈g,YB e):YD d.v (zG g d.v)=xI g d:=by have hj:=Yi hg d.v;unfold Zt at hv;simp only[ze4,zeY,Zy,ze6]at hv;have hp:=hv.2.2.2.2.2.1;have ha:=hv.2.2.2.2.2.2.2.1;unfold YD xI;rw[if_neg hk];congr 1;·{exact ze0 fun n hn=>Yj (hp n hn).1 (h.pick n hn)};refine ze0 fun a ham=>?_;have hm:=ha a ham;have hb:=h.aggs a ham;unfold Z7 at hm;unfold WK at hb;unfold YC zdH;by_cases h0:a.fn=0;·{have h3:¬2≤a.fn:=by{omega};rw[if_pos h0,if_neg h3]};rw[if_neg h0]at hm⊢;simp only[Zy,ze4,ze6]at hm;obtain⟨m1,m2,m3,m4⟩:=hm;simp only[h0,ne_eq,not_false_eq_true,decide_true,zgl,zgf,zgh,zgg]at hb;have hl:a.col<(zG g d.v).length:=by{omega};rw[Yj m3 hl];by_cases h1:a.fn=1;·{have h3:¬2≤a.fn:=by{omega};rw[if_neg h3];have h2:(zG g d.v).getD a.col.toNat 0=2:=by{rcases hb.2 with h|h;·{exact absurd h1 h};exact Decidable.not_not.1 h};rw[h2];simp};have h3:2≤a.fn:=by{omega};have h4:¬(a.fn=1∧(zG g d.v).getD a.col.toNat 0≠2):=fun h=>h1 h.1;rw[if_pos h3,if_neg h4]
theorem zcl{g:List En}(hg:∀e∈g,YB e){d:Df}(hv:Zt d.v=true)(hk:d.k≠0):Z0 ty g d.v=if YQ ty g d.v=true then none else some (enD g d):=by have hj:=Yi hg d.v;have key:∀e,Z0 ty g d.v=some e↔ND ty g d.v∧e=enD g d:=by{intro e;unfold Z0;constructor;·{intro h;split at h;·{cases h};rename_i fk hfk;obtain⟨⟨a1,a2,a3⟩,rfl⟩:=(Lr hg hv).1 hfk;split at h;·{cases h};rename_i hask;split at h;·{cases h};rename_i hks;unfold Pa at hask;simp only[zgm,zgf,zgg,Bool.not_eq_false']at hask;unfold QR at hks;simp only[zgm,zgf,zgh]at hks;obtain⟨k1,k2,k3⟩:=hks;have hr:=(zck hv hj).1 k3;have hl:(YD d.v (zG g d.v)).length=d.v.pick.length+d.v.aggs.length:=by{unfold YD;simp};have hF:ND ty g d.v:=by{refine⟨a1,a2,a3,fun hw=>?_,hr.1,hr.2,fun hgp=>?_,by omega⟩;·{rcases hask.1 with h|h;·{rw[hw]at h;cases h};exact h};rcases hask.2 with h|h;·{simpa using h};rw[hgp]at h;cases h};refine⟨hF,?_⟩;rw[←zgk h];unfold enD xL WH;rw[if_neg hk,if_neg hk,←WP hv hk hF hg,hl];simp[hk]};rintro⟨hF,rfl⟩;rw[(Lr hg hv).2 ⟨⟨hF.frm,hF.wth,hF.join⟩,rfl⟩];have hask:Pa ty d.v (zG g d.v)=false:=by{unfold Pa;simp only[zgf,zgg,Bool.not_eq_false'];refine⟨?_,?_⟩;·{cases hw:d.v.whr.isEmpty;·{right;exact hF.whr hw};left;rfl};cases hgp:d.v.grp;·{left;rw[hF.grp hgp];rfl};right;rfl};have hl:(YD d.v (zG g d.v)).length=d.v.pick.length+d.v.aggs.length:=by{unfold YD;simp};have hks:QR (YD d.v (zG g d.v))=false:=by{unfold QR;rw[(zck hv hj).2 ⟨hF.pick,hF.aggs⟩,hl];have:=hF.few;simp only[Bool.or_false,zgf,zgh];omega};simp only[hask,hks,zfg,if_false];unfold enD xL WH;rw[if_neg hk,if_neg hk,←WP hv hk hF hg,hl];simp[hk]};cases hb:YQ ty g d.v with|true=>rw[if_pos rfl];(cases hp:Z0 ty g d.v with|none=>rfl|some e=>have:=Y8.2 ((key e).1 hp).1;rw[hb]at this;cases this)|false=>rw[if_neg (by simp)];exact(key _).2 ⟨Y8.1 hb,rfl⟩
def WQ(all:List En)(c:Cl):Bool:=if c.ref.toList.isEmpty then true else match zF all c.ref with|none=>false|some e=>e.tb&&(decide (kAt e.ks 0=c.kind)&&(decide (c.act≠2)||c.nul))
theorem zcm{g:List En}(hg:∀e∈g,YB e){d:Df}(hk:d.k=0)(hm:Yq d)(hn:zF g d.t.name=none){c:Cl}(hc:c∈d.t.cols):WQ (g++[enD g d]) c=!WJ g d.t c:=by unfold WQ WJ;cases hr:c.ref.toList.isEmpty with|true=>rfl|false=>simp only[zfg,if_false,zfe,zgl];rw[Yh];unfold zdT;by_cases he:c.ref=d.t.name;·{rw[he,hn];have hl:zF [enD g d] d.t.name=some (enD g d):=by{unfold zF enD xL;simp[hk]};simp only[hl,if_true];have hne:d.t.cols≠[]:=List.ne_nil_of_mem hc;cases hcs:d.t.cols with|nil=>exact absurd hcs hne|cons x r=>have e1:kAt (enD g d).ks 0=x.kind:=by{show kAt (xI g d) 0=_;rw[(YR hk).1,hcs,Yj (by omega) (by simp)];rfl};have e2:(enD g d).tb=true:=zfO hk;rw[e1,e2];simp only[zgl,zfC,zf0];by_cases h1:c.kind=x.kind;·{simp[h1]};simp[h1,zfh h1]};rw[if_neg he];have hl:zF [enD g d] c.ref=none:=by{unfold zF enD xL;simp[hk,zfh he]};cases hf:zF g c.ref with|none=>simp[hl]|some e=>have ge:=hg e (zf7 hf);simp only[zfi];cases ht:e.tb with|false=>simp|true=>have:∃k r,e.ks=k::r:=by{cases hks:e.ks with|nil=>have:=ge.ne;rw[hks]at this;simp at this|cons k r=>exact⟨k,r,rfl⟩};obtain⟨k,r,hks⟩:=this;have e1:kAt e.ks 0=k:=by{rw[Yj (by omega) (by have:=ge.ne;omega),hks];rfl};rw[e1,hks];simp only[if_true,zgl,zfC];by_cases h1:c.kind=k;·{simp[h1]};simp[h1,zfh h1]
def Qa(c:Cl):Bool:=!c.nul&&(decide (c.kind≠1)&&c.ref.toList.isEmpty)
def Zm(cs:List Cl)(k:Nat):Bool:=(cs.take k).any fun x=>decide (x.name=(cs.getD k ⟨emp,0,false,false,emp,0⟩).name)
theorem Qb:∀(cs:List Cl),YE cs=(List.range cs.length).any (Zm cs):=by intro cs;rw[zfN,ze5];have gen:∀cs:List Cl,YE cs=true↔∃(i j:Nat)(x y:Cl),i<j∧cs[i]?=some x∧cs[j]?=some y∧x.name=y.name:=by{intro cs;induction cs with|nil=>simp[YE]|cons c r ih=>rw[YE,ze7,ih,ze5];constructor;·{rintro(⟨x,hx,he⟩|⟨i,j,x,y,h1,h2,h3,h4⟩);·{obtain⟨j,hj⟩:=zgn hx;exact⟨0,j+1,c,x,by omega,rfl,by simpa using hj,(of_decide_eq_true he).symm⟩};exact⟨i+1,j+1,x,y,by omega,by simpa using h2,by simpa using h3,h4⟩};rintro⟨i,j,x,y,h1,h2,h3,h4⟩;obtain⟨j,rfl⟩:∃j',j=j'+1:=⟨j-1,by omega⟩;cases i with|zero=>left;obtain rfl:c=x:=by{simpa using h2};exact⟨y,zfx (by simpa using h3),zfO h4.symm⟩|succ i=>right;exact⟨i,j,x,y,by omega,by simpa using h2,by simpa using h3,h4⟩};rw[gen];constructor;·{rintro⟨i,j,x,y,h1,h2,h3,h4⟩;have hj:=(zgo.1 h3).1;refine⟨j,zeZ.2 hj,?_⟩;unfold Zm;rw[ze5];refine⟨x,zfx (i:=i) (by rw[zgp,if_pos h1];exact h2),?_⟩;rw[zgd,h3];exact zfO h4};rintro⟨j,hj,h⟩;rw[zeZ]at hj;unfold Zm at h;rw[ze5]at h;obtain⟨x,hx,he⟩:=h;obtain⟨i,hi⟩:=zgn hx;rw[zgp]at hi;split at hi;·{rename_i hlt;refine⟨i,j,x,cs[j],hlt,hi,zge hj,?_⟩;rw[zgd,zge hj]at he;exact of_decide_eq_true he};cases hi
def U7(ty:List Nd→List Int→Int×Int)(all:List En)(t:Tb):Int:=if !Qa (t.cols.getD 0 ⟨emp,0,false,false,emp,0⟩)||YE t.cols then 91 else if t.cols.any (fun c=>!WQ all c)then 92 else if t.checks.any (fun e=>!ZZ ty e (t.cols.map (·.kind)))then 93 else 0
theorem zdU{g:List En}(hg:∀e∈g,YB e){d:Df}(hk:d.k=0)(hm:Yq d)(hn:zF g d.t.name=none):U7 ty (g++[enD g d]) d.t=if WI d.t then 91 else if d.t.cols.any (WJ g d.t)then 92 else if d.t.checks.any (fun e=>!ZZ ty e (d.t.cols.map (·.kind)))then 93 else 0:=by unfold U7;have e1:(!Qa (d.t.cols.getD 0 ⟨emp,0,false,false,emp,0⟩)||YE d.t.cols)=WI d.t:=by{unfold WI;have ht:=Q7 hm hk;unfold Z6 at ht;simp only[ze4,zfj,zga]at ht;cases hc:d.t.cols with|nil=>exact absurd hc ht.2.1|cons x r=>unfold Q6 Qa;simp only[List.getD_cons_zero];rw[Bool.or_comm];congr 1;by_cases h1:x.kind=1<;>cases x.nul<;>cases x.ref.toList.isEmpty<;>simp[h1]};have e2:(d.t.cols.any fun c=>!WQ (g++[enD g d]) c)=d.t.cols.any (WJ g d.t):=by{rw[zfN,ze5,ze5];constructor;·{rintro⟨c,hc,h⟩;rw[zcm hg hk hm hn hc,Bool.not_not]at h;exact⟨c,hc,h⟩};rintro⟨c,hc,h⟩;exact⟨c,hc,by rw[zcm hg hk hm hn hc,Bool.not_not];exact h⟩};rw[e1,e2]
theorem Pb{ok:Df→Bool}{g:List En}(hg:∀e∈g,YB e){d:Df}(hm:Yq d)(ho:ok d=true)(hl:g.length<20)(hn:zF g (xL d)=none)(hk:d.k=0):zB ok ty g d=U7 ty (g++[enD g d]) d.t:=by have hn':zF g d.t.name=none:=by{unfold xL at hn;rwa[if_pos hk]at hn};unfold zB;rw[if_neg (by simp[ho]),if_neg (by omega),if_neg (by simp[hn]),if_pos hk,zdU hg hk hm hn']
theorem NF{ok:Df→Bool}{g:List En}(hg:∀e∈g,YB e){d:Df}(hm:Yq d)(ho:ok d=true)(hl:g.length<20)(hn:zF g (xL d)=none)(hk:d.k≠0):(zB ok ty g d=94∧Z0 ty g d.v=none)∨(zB ok ty g d=0∧Z0 ty g d.v=some (enD g d)):=by rw[zcl hg (Q8 hm hk).2 hk];unfold zB;rw[if_neg (by simp[ho]),if_neg (by omega),if_neg (by simp[hn]),if_neg hk];cases YQ ty g d.v;·{right;simp};left;simp
open Go Go.RowKit
section
variable {α : Type} {rd : α → List Value} {S : Nat}
def SlG(W:World)(A:Option Addr)(S:Nat)(rd:α→List Value)(xs:List α):Prop:=xs=[]∨∃b off,A=some ⟨b,off,none⟩∧b<W.heap.size∧∀i x,xs[i]?=some x→∀j u,(rd x)[j]?=some u→W.cell? ⟨b,off+i*S+j,none⟩=some u
theorem SlG.after{w w':World}{A:Option Addr}{xs:List α}(h:SlG w A S rd xs)(hb:Below w.heap.size w w'):SlG w' A S rd xs:=by rcases h with h|⟨b,off,hA,hlt,h⟩;·{exact .inl h};exact .inr ⟨b,off,hA,zgq hlt hb.size,fun i x hx j u hu=>(hb.cell hlt).trans (h i x hx j u hu)⟩
theorem SlG.alloc{w:World}{A:Option Addr}{xs:List α}(h:SlG w A S rd xs)(o:Obj):SlG (w.alloc o) A S rd xs:=h.after (zb w o)
theorem WR(hl:∀x,(rd x).length=S):∀(xs:List α)(i j:Nat)(x:α),xs[i]?=some x→j<S→(xs.flatMap rd)[i*S+j]?=(rd x)[j]?|[],i,j,x,h,_=>by simp at h|y::r,0,j,x,h,hj=>by simp at h;subst h;rw[zf9,Nat.zero_mul,zfG,List.getElem?_append_left (by rw[hl];exact hj)]|y::r,i+1,j,x,h,hj=>by rw[zf9,List.getElem?_append_right (by rw[hl,Nat.succ_mul];omega),hl,show(i+1)*S+j-S=i*S+j by rw[Nat.succ_mul];omega];exact WR hl r i j x (by simpa using h) hj
theorem Yr(hl:∀x,(rd x).length=S):∀xs:List α,(xs.flatMap rd).length=xs.length*S|[]=>by simp|x::r=>by rw[zf9,zfT,hl,Yr hl r,zfD,Nat.succ_mul];omega
theorem SlG.flat{w:World}{xs:List α}{b off:Nat}(hl:∀x,(rd x).length=S)(hS:0<S)(h:∀i x,xs[i]?=some x→∀j u,(rd x)[j]?=some u→w.cell? ⟨b,off+i*S+j,none⟩=some u):∀j u,(xs.flatMap rd)[j]?=some u→w.cell? ⟨b,off+j,none⟩=some u:=by intro j u hj;have hlt:j<xs.length*S:=by{have:=(zgo.1 hj).1;rwa[Yr hl]at this};have hi:j/S<xs.length:=(Nat.div_lt_iff_lt_mul hS).2 hlt;have hx:xs[j/S]?=some xs[j/S]:=zge hi;have e:j/S*S+j%S=j:=by{rw[Nat.mul_comm];exact Nat.div_add_mod j S};have h1:=WR hl xs (j/S) (j%S) _ hx (Nat.mod_lt _ hS);rw[e]at h1;have h2:=h (j/S) _ hx (j%S) u (h1.symm.trans hj);rwa[zfE,e]at h2
theorem SlG.new{w:World}{cs:Array Value}{E:TypeId}(hl:∀x,(rd x).length=S)(xs:List α)(h:cs=(xs.flatMap rd).toArray):SlG (w.alloc (.cells cs E)) (some ⟨w.heap.size,0,none⟩) S rd xs:=by subst h;refine .inr ⟨w.heap.size,0,rfl,by simp,fun i x hx j u hu=>?_⟩;have e0:(w.alloc (.cells (xs.flatMap rd).toArray E)).heap[w.heap.size]?=some (.cells (xs.flatMap rd).toArray E (0,0)):=by{show(w.heap.push _)[w.heap.size]?=_;simp};have hj:j<S:=by{have:=(zgo.1 hu).1;rwa[hl]at this};simp only[World.cell?,e0,zgr,zfg,if_false,zgs];rw[zfG,WR hl xs i j x hx hj];exact hu
structure Vn (P : Program) (T E : TypeId) (S bytes : Nat) (z : Value) (rd : α → List Value) : Prop where
 under : P.underlying T = some (.slice E)
 info : (P.info? E).map (fun i => (i.zero, i.size, i.bytes)) = some (some z, S, bytes)
 zs : z.cells.size = S
 pos : 0 < S
 len : ∀ x, (rd x).length = S
 one : ∀ x u, u ∈ rd x → u.oneCell' = true
def zl(w:World)(B:Nat)(E:TypeId)(S:Nat)(rd:α→List Value)(v:Value)(xs:List α):Prop:=w.ownsRow B E S v xs.length (xs.flatMap rd)
theorem zl.nil(w:World)(B:Nat)(E:TypeId):zl w B E S rd (.slice none 0 0) []:=World.ownsRow_nil w B E S
theorem zl.made(w:World)(B:Nat)(E:TypeId)(cur:Array Value)(cap:Nat)(hB:B≤w.heap.size)(hm:cap≤maxLen)(hs:cur.size=cap*S):zl (w.alloc (.cells cur E)) B E S rd (.slice (some ⟨w.heap.size,0,none⟩) 0 cap) []:=World.ownsRow_made w cur cap hB hm hs
theorem zl.lt{w:World}{B:Nat}{E:TypeId}{v:Value}{xs:List α}(h:zl w B E S rd v xs):∀k,v.ownBlock=some k→B≤k∧k<w.heap.size:=fun k hk=>World.ownsRow.lt h k hk
theorem zl.same{w w':World}{B:Nat}{E:TypeId}{v:Value}{xs:List α}(h:zl w B E S rd v xs)(hb:∀k,v.ownBlock=some k→w'.heap[k]?=w.heap[k]?):zl w' B E S rd v xs:=by obtain⟨h1,h2⟩:=h;refine⟨h1,?_⟩;rcases h2 with h2|⟨g',cap,cur,hv,hB,hh,h3⟩;·{exact .inl h2};exact .inr ⟨g',cap,cur,hv,hB,(hb g' (by rw[hv];rfl)).trans hh,h3⟩
theorem zl.after{w w':World}{B:Nat}{E:TypeId}{v:Value}{xs:List α}(h:zl w B E S rd v xs)(hb:Below w.heap.size w w'):zl w' B E S rd v xs:=h.same fun k hk=>hb.block k (h.lt k hk).2
theorem zl.alloc{w:World}{B:Nat}{E:TypeId}{v:Value}{xs:List α}(h:zl w B E S rd v xs)(o:Obj):zl (w.alloc o) B E S rd v xs:=h.after (zb w o)
theorem zl.mono{w:World}{B B':Nat}{E:TypeId}{v:Value}{xs:List α}(h:zl w B E S rd v xs)(hB:B'≤B):zl w B' E S rd v xs:=by obtain⟨h1,h2⟩:=h;refine⟨h1,?_⟩;rcases h2 with h2|⟨g',cap,cur,hv,hb,h3⟩;·{exact .inl h2};exact .inr ⟨g',cap,cur,hv,by omega,h3⟩
theorem zl.sl{w:World}{B:Nat}{E:TypeId}{v:Value}{xs:List α}(hl:∀x,(rd x).length=S)(h:zl w B E S rd v xs):∃A c,v= .slice A xs.length c∧xs.length≤c∧c≤maxLen∧SlG w A S rd xs:=by rcases h.2 with⟨rfl,hn⟩|⟨g,cap,cur,rfl,hB,hh,hle,hm,_⟩;·{obtain rfl:xs=[]:=zgt hn;exact⟨none,0,rfl,zfb _,zf6 _,.inl rfl⟩};refine⟨some ⟨g,0,none⟩,cap,rfl,hle,hm,.inr ⟨g,0,rfl,(h.lt g rfl).2,fun i x hx j u hu=>?_⟩⟩;have hj:j<S:=by{have:=(zgo.1 hu).1;rwa[hl]at this};have:=zgu (g:=g) h rfl (i*S+j) u ((WR hl xs i j x hx hj).trans hu);rwa[zgv,←zfE]at this
theorem zl.isSlice{w:World}{B:Nat}{E:TypeId}{v:Value}{xs:List α}(h:zl w B E S rd v xs):∃A c,v= .slice A xs.length c:=by rcases h.2 with⟨rfl,hn⟩|⟨g,cap,cur,rfl,_⟩;·{exact⟨none,0,by rw[hn]⟩};exact⟨_,cap,rfl⟩
variable {P : Program} {T E : TypeId} {bytes : Nat} {z : Value}
theorem Vn.parts(h:Vn P T E S bytes z rd):∃i:TypeInfo,P.info? E=some i∧i.zero=some z∧i.size=S∧i.bytes=bytes:=by have hi:=h.info;cases e:P.info? E with|none=>rw[e]at hi;(cases hi)|some i=>rw[e]at hi;simp at hi;exact⟨i,rfl,hi.1,hi.2.1,hi.2.2⟩
theorem Uj(he:Vn P T E S bytes z rd)(w:World)(v:Value)(B c:Nat)(ty:TypeId)(xs:List α)(h:zl w B E S rd v xs):(Builtin.append_ #[T,T] ty #[v,.slice none 0 c]).run P w= .ok v w:=by obtain⟨i0,hi,hz0,hz1,hz2⟩:=he.parts;rcases h.2 with⟨rfl,_⟩|⟨g,cap,cur,rfl,_,_,hnc,_⟩;·{simp[Builtin.append_,run_underlying he.under,sizeOf,typeInfo,hi,Builtin.lenOf,Builtin.firstCells]};simp[Builtin.append_,run_underlying he.under,sizeOf,typeInfo,hi,Builtin.lenOf,Builtin.firstCells,hnc,storeCells]
theorem zp{ops:Array Oper}{rest:List Oper}{o:Oper}{a:Act}{Q:Exit→Act→World→Prop}{w:World}(he:Vn P T E S bytes z rd)(hgd:o.guard=none)(s x:Operand)(ho:o.op= .call {callee:= .builtin .append,args:=#[s,x],argTypes:=#[T,T]})(B:Nat)(v:Value)(xs ys:List α)(A:Option Addr)(n c:Nat)(hs:a.eval s=v)(hb:zl w B E S rd v xs)(hx:a.eval x= .slice A n c)(hn:ys.length=n)(hsl:SlG w A S rd ys)(hmax:xs.length+ys.length≤maxLen)(hbytes:(xs.length+ys.length)*bytes≤140737488355328)(hB:B≤w.heap.size)(h:∀v' w',zl w' B E S rd v' (xs++ys)→w.grownBy w' v.ownBlock→wpList P ops Q rest (a.put o.dst v') w'):wpList P ops Q (o::rest) a w:=by obtain⟨i0,hi,hz0,hz1,hz2⟩:=he.parts;subst hn;have some_case:∀(ad:Addr),A=some ad→(∀j u,(ys.flatMap rd)[j]?=some u→w.cell? (ad.add j)=some u)→wpList P ops Q (o::rest) a w:=by{intro ad hA hcells;subst hA;refine wpList_append_own_at _ hgd s x T ho B E i0 z S bytes he.under hi hz0 hz1 hz2 he.zs he.pos v xs.length (xs.flatMap rd) hs hb ad ys.length c (ys.flatMap rd) hx (Yr he.len ys) hcells (fun u hu=>by obtain⟨q,_,hq⟩:=zgw.1 hu;exact he.one q u hq) hmax hbytes hB ?_;intro v' w' hown' hgrow _ _;refine h v' w' ?_ hgrow;unfold zl;rw[zgx,zfT];exact hown'};rcases hsl with rfl|⟨b,off,hA,hlt,hc⟩;·{cases A with|some ad=>(exact some_case ad rfl (fun j u hj=>by simp at hj))|none=>refine wpList_plain hgd fun K hK=>?_;have hr:=Uj he w v B c o.type xs hb;unfold Oper.wp execOp;have hx':a.eval x= .slice none 0 c:=hx;simp only[ho,resolve,invoke,builtin,zfK,zfL,zfM,List.map_toArray,zfm,zgy,hs,hx',hr];exact hK _ _ (h v w (by rw[zfF];exact hb) (World.grownBy.refl w _))};refine some_case ⟨b,off,none⟩ hA fun j u hj=>?_;rw[zgv];exact SlG.flat he.len he.pos hc j u hj
theorem xu{ops:Array Oper}{o:Oper}{a:Act}{w:World}{K:Act→World→Prop}{Q:Exit→Act→World→Prop}{F:Prop}(he:Vn P T E S bytes z rd)(hgd:o.guard=none)(s y:Operand)(ho:o.op= .call {callee:= .builtin .append,args:=#[s,y],argTypes:=#[T,T]})(B:Nat)(v:Value)(xs ys:List α)(hs:a.eval s=v)(hb:zl w B E S rd v xs)(A:Option Addr)(n c:Nat)(hy:a.eval y= .slice A n c)(hn:ys.length=n)(hn0:ys≠[])(hsl:SlG w A S rd ys)(hmax:xs.length+ys.length≤maxLen)(hbytes:(xs.length+ys.length)*bytes≤140737488355328)(hB:B≤w.heap.size)(h:∀g' cap w',zl w' B E S rd (.slice (some ⟨g',0,none⟩) (xs.length+ys.length) cap) (xs++ys)→w.grownBy w' v.ownBlock→K (a.put o.dst (.slice (some ⟨g',0,none⟩) (xs.length+ys.length) cap)) w'):if Region.wanted o (yielded ops a.tmps)=true then Oper.wp P o a w K Q else F:=by obtain⟨i0,hi,hz0,hz1,hz2⟩:=he.parts;subst hn;rcases hsl with h0|⟨b,off,rfl,hlt,hc⟩;·{exact absurd h0 hn0};refine step_append_lies w hgd s y T ho B E i0 z S bytes he.under hi hz0 hz1 hz2 he.zs he.pos v xs.length (xs.flatMap rd) hs hb ⟨b,off,none⟩ ys.length c (ys.flatMap rd) hy (Yr he.len ys) (fun j u hj=>by rw[zgv];exact SlG.flat he.len he.pos hc j u hj) (fun u hu=>by obtain⟨q,_,hq⟩:=zgw.1 hu;exact he.one q u hq) (zgj.2 hn0) hmax hbytes hB _ rfl ?_;intro g' cap w' hown' hgrow _ _;refine h g' cap w' ?_ hgrow;unfold zl;rw[zgx,zfT];exact hown'
end
structure Hd where
 A : Option Addr
 n : Nat
 c : Nat
 xs : List Val
def rdV(x:Val):List Value:=[.int .i64 x.k,.int .i64 x.n,.string x.s]
def rdI(x:Int):List Value:=[.int .i64 x]
def rdB(b:Bool):List Value:=[.bool b]
def rdS(l:List UInt8):List Value:=[.string ⟨l.toArray⟩]
theorem iOk:Vn Tryz.prog 33 3 1 8 (.int .i64 0) rdI where under:=Tryz.underlying33;info:=by{kernel_rfl};zs:=rfl;pos:=by{decide};len:=fun _=>rfl;one:=fun x u hu=>by simp[rdI]at hu;rcases hu with rfl;rfl
theorem bOk:Vn Tryz.prog 42 4 1 1 (.bool false) rdB where under:=Tryz.underlying42;info:=by{kernel_rfl};zs:=rfl;pos:=by{decide};len:=fun _=>rfl;one:=fun x u hu=>by simp[rdB]at hu;rcases hu with rfl;rfl
theorem SlG.at1{α:Type}{rd:α→List Value}{w:World}{A:Option Addr}{xs:List α}(h:SlG w A 1 rd xs){k:Nat}(hk:k<xs.length):∃b off x,A=some ⟨b,off,none⟩∧b<w.heap.size∧xs[k]?=some x∧∀u,(rd x)[0]?=some u→w.cell? ⟨b,off+k,none⟩=some u:=by rcases h with rfl|⟨b,off,hA,hlt,h⟩;·{simp at hk};refine⟨b,off,xs[k],hA,hlt,zge hk,fun u hu=>?_⟩;have:=h k xs[k] (zge hk) 0 u hu;rwa[zgz,zgA]at this
section
variable {α : Type} {rd : α → List Value} {S N : Nat}
theorem NG{P:Program}{T E:TypeId}{bytes:Nat}{z:Value}(he:Vn P T E S bytes z rd)(m:Nat)(hb:bytes*m≤281474976710656)(hm:m≤maxLen):∃cs:Array Value,cs.size=m*S∧∀w:World,(Instr.makeSlice T (.int .i64 (m:Int)) (.int .i64 (m:Int))).run P w= .ok (.slice (some ⟨w.heap.size,0,none⟩) m m) (w.alloc (.cells cs E)):=by obtain⟨i0,hi,hz0,hz1,hz2⟩:=he.parts;refine⟨madeCells z.cells (m*S),size_madeCells _ _,fun w=>?_⟩;have h63:(m:Int)≤9223372036854775807:=by{have h:=hm;simp[maxLen]at h;omega};have hb':(i0.bytes:Int)*(m:Int)≤281474976710656:=by{rw[hz2];have h:((bytes*m:Nat):Int)≤281474976710656:=by{omega};rwa[Int.natCast_mul]at h};have hr:=run_make (P:=P) w T E i0 z he.under hi hz0 .i64 .i64 m m (by omega) (Int.le_refl _) hb' h63;simp only[zf8,hz1]at hr;exact hr
theorem SlG.newAt{w:World}{cs:Array Value}{E:TypeId}{b:Nat}(hb:w.heap.size=b)(hl:∀x,(rd x).length=S)(xs:List α)(h:cs=(xs.flatMap rd).toArray):SlG (w.alloc (.cells cs E)) (some ⟨b,0,none⟩) S rd xs:=by subst hb;exact SlG.new hl xs h
end
theorem za{w a b:World}(h:Below w.heap.size w a)(g:Below a.heap.size a b):Below w.heap.size w b:=h.trans (g.mono h.size)
theorem zC{w a:World}(h:Below w.heap.size w a)(o:Obj):Below w.heap.size w (a.alloc o):=h.alloc h.size o
structure Sx (α : Type) where
 A : Option Addr
 n : Nat
 c : Nat
 xs : List α
abbrev Sx.v{α:Type}(h:Sx α):Value:= .slice h.A h.n h.c
structure Sx.In {α : Type} (w : World) (S : Nat) (rd : α → List Value) (h : Sx α) : Prop where
 len : h.xs.length = h.n
 max : h.n ≤ maxLen
 sl : SlG w h.A S rd h.xs
theorem Sx.In.after{α:Type}{w w':World}{S:Nat}{rd:α→List Value}{h:Sx α}(hi:h.In w S rd)(hb:Below w.heap.size w w'):h.In w' S rd:=⟨hi.len,hi.max,hi.sl.after hb⟩
theorem SlG.atS{α:Type}{rd:α→List Value}{S:Nat}{w:World}{A:Option Addr}{xs:List α}(h:SlG w A S rd xs){k:Nat}(hk:k<xs.length):∃b off x,A=some ⟨b,off,none⟩∧b<w.heap.size∧xs[k]?=some x∧∀j u,(rd x)[j]?=some u→w.cell? ⟨b,off+k*S+j,none⟩=some u:=by rcases h with rfl|⟨b,off,hA,hlt,h⟩;·{simp at hk};have hx:=zge hk;exact⟨b,off,xs[k],hA,hlt,hx,h k xs[k] hx⟩
def rdN(x:Nd):List Value:=[.int .i64 x.op,.int .i64 x.n,.int .i64 x.v.k,.int .i64 x.v.n,.string x.v.s]
abbrev Nd.w(x:Nd):Value:= .agg #[.int .i64 x.op,.int .i64 x.n,.int .i64 x.v.k,.int .i64 x.v.n,.string x.v.s]
def yU(x:Cl):List Value:=[.string x.name,.int .i64 x.kind,.bool x.nul,.bool x.uni,.string x.ref,.int .i64 x.act]
abbrev Cl.w(x:Cl):Value:= .agg #[.string x.name,.int .i64 x.kind,.bool x.nul,.bool x.uni,.string x.ref,.int .i64 x.act]
def Zv(x:Ag):List Value:=[.int .i64 x.fn,.int .i64 x.col]
abbrev Ag.w(x:Ag):Value:= .agg #[.int .i64 x.fn,.int .i64 x.col]
def rdX(x:Sx Nd):List Value:=[.slice x.A x.n x.c]
structure Tm where
 name : ByteArray
 cols : Sx Cl
 chks : Sx (Sx Nd)
structure Vm where
 name : ByteArray
 frm : ByteArray
 wth : ByteArray
 on0 : Int
 on1 : Int
 whr : Sx Nd
 pick : Sx Int
 grp : Bool
 aggs : Sx Ag
structure Dm where
 k : Int
 t : Tm
 v : Vm
abbrev Tm.w(x:Tm):Value:= .agg #[.string x.name,.slice x.cols.A x.cols.n x.cols.c,.slice x.chks.A x.chks.n x.chks.c]
abbrev Vm.w(x:Vm):Value:= .agg #[.string x.name,.string x.frm,.string x.wth,.int .i64 x.on0,.int .i64 x.on1,.slice x.whr.A x.whr.n x.whr.c,.slice x.pick.A x.pick.n x.pick.c,.bool x.grp,.slice x.aggs.A x.aggs.n x.aggs.c]
def rdD(x:Dm):List Value:=[.int .i64 x.k,.string x.t.name,.slice x.t.cols.A x.t.cols.n x.t.cols.c,.slice x.t.chks.A x.t.chks.n x.t.chks.c,.string x.v.name,.string x.v.frm,.string x.v.wth,.int .i64 x.v.on0,.int .i64 x.v.on1,.slice x.v.whr.A x.v.whr.n x.v.whr.c,.slice x.v.pick.A x.v.pick.n x.v.pick.c,.bool x.v.grp,.slice x.v.aggs.A x.v.aggs.n x.v.aggs.c]
abbrev Dm.w(x:Dm):Value:= .agg #[.int .i64 x.k,.string x.t.name,.slice x.t.cols.A x.t.cols.n x.t.cols.c,.slice x.t.chks.A x.t.chks.n x.t.chks.c,.string x.v.name,.string x.v.frm,.string x.v.wth,.int .i64 x.v.on0,.int .i64 x.v.on1,.slice x.v.whr.A x.v.whr.n x.v.whr.c,.slice x.v.pick.A x.v.pick.n x.v.pick.c,.bool x.v.grp,.slice x.v.aggs.A x.v.aggs.n x.v.aggs.c]
def Tm.tb(x:Tm):Tb:=⟨x.name,x.cols.xs,x.chks.xs.map (·.xs)⟩
def Vm.vw(x:Vm):Vw:=⟨x.name,x.frm,x.wth,x.on0,x.on1,x.whr.xs,x.pick.xs,x.grp,x.aggs.xs⟩
def Dm.df(x:Dm):Df:=⟨x.k,x.t.tb,x.v.vw⟩
structure Tm.In (w : World) (x : Tm) : Prop where
 cols : x.cols.In w 6 yU
 chks : x.chks.In w 1 rdX
 each : ∀ e ∈ x.chks.xs, e.In w 5 rdN
structure Vm.In (w : World) (x : Vm) : Prop where
 whr : x.whr.In w 5 rdN
 pick : x.pick.In w 1 rdI
 aggs : x.aggs.In w 2 Zv
structure Dm.In (w : World) (x : Dm) : Prop where
 t : x.t.In w
 v : x.v.In w
theorem Tm.In.after{w w':World}{x:Tm}(h:x.In w)(hb:Below w.heap.size w w'):x.In w':=⟨h.cols.after hb,h.chks.after hb,fun e he=>(h.each e he).after hb⟩
theorem Vm.In.after{w w':World}{x:Vm}(h:x.In w)(hb:Below w.heap.size w w'):x.In w':=⟨h.whr.after hb,h.pick.after hb,h.aggs.after hb⟩
theorem Dm.In.after{w w':World}{x:Dm}(h:x.In w)(hb:Below w.heap.size w w'):x.In w':=⟨h.t.after hb,h.v.after hb⟩
instance:DecidableEq ByteArray:=fun a b=>decidable_of_iff (a.toList=b.toList) ⟨zt,fun h=>by rw[h]⟩
instance:DecidableEq Nd:=fun _ _=>decidable_of_iff _ Nd.eq_iff
instance:DecidableEq Cl:=fun a b=>decidable_of_iff (a.name=b.name∧a.kind=b.kind∧a.nul=b.nul∧a.uni=b.uni∧a.ref=b.ref∧a.act=b.act) (by cases a;cases b;simp)
instance:DecidableEq Ag:=fun a b=>decidable_of_iff (a.fn=b.fn∧a.col=b.col) (by cases a;cases b;simp)
instance:DecidableEq Tb:=fun a b=>decidable_of_iff (a.name=b.name∧a.cols=b.cols∧a.checks=b.checks) (by cases a;cases b;simp)
instance:DecidableEq Vw:=fun a b=>decidable_of_iff (a.name=b.name∧a.frm=b.frm∧a.wth=b.wth∧a.on0=b.on0∧a.on1=b.on1∧a.whr=b.whr∧a.pick=b.pick∧a.grp=b.grp∧a.aggs=b.aggs) (by cases a;cases b;simp)
instance:DecidableEq Df:=fun a b=>decidable_of_iff (a.k=b.k∧a.t=b.t∧a.v=b.v) (by cases a;cases b;simp)
def Nd.eqB(a b:Nd):Bool:=decide (a=b)
def Cl.eqB(a b:Cl):Bool:=decide (a=b)
def Ag.eqB(a b:Ag):Bool:=decide (a=b)
theorem Uk(w:World)(k n vk vn k' n' vk' vn':Int)(vs vs':ByteArray):(binOp .neq 82 (.agg #[.int .i64 k,.int .i64 n,.int .i64 vk,.int .i64 vn,.string vs]) (.agg #[.int .i64 k',.int .i64 n',.int .i64 vk',.int .i64 vn',.string vs'])).run Tryz.prog w= .ok (.bool !(Nd.eqB ⟨k,n,⟨vk,vn,vs⟩⟩ ⟨k',n',⟨vk',vn',vs'⟩⟩)) w:=by have e:(Op.equalIn 10000 82 (.agg #[.int .i64 k,.int .i64 n,.int .i64 vk,.int .i64 vn,.string vs]) (.agg #[.int .i64 k',.int .i64 n',.int .i64 vk',.int .i64 vn',.string vs'])).run Tryz.prog w= .ok (decide ((⟨k,n,⟨vk,vn,vs⟩⟩:Nd)=⟨k',n',⟨vk',vn',vs'⟩⟩)) w:=by{simp[go_sem,Tryz.underlying82,Tryz.underlying80,Tryz.underlying3,Tryz.underlying9];have hs:(vs.toList=vs'.toList)↔vs=vs':=⟨zt,fun h=>by rw[h]⟩;by_cases h1:k=k'<;>by_cases h2:n=n'<;>by_cases h3:vk=vk'<;>by_cases h4:vn=vn'<;>by_cases h5:vs=vs'<;>simp[hs,h1,h2,h3,h4,h5]};rw[run_neq_struct,e];rfl
theorem Ul(w:World)(a b k k' ac ac':_)(nu un nu' un':Bool)(r r':ByteArray):(binOp .neq 41 (.agg #[.string a,.int .i64 k,.bool nu,.bool un,.string r,.int .i64 ac]) (.agg #[.string b,.int .i64 k',.bool nu',.bool un',.string r',.int .i64 ac'])).run Tryz.prog w= .ok (.bool !(Cl.eqB ⟨a,k,nu,un,r,ac⟩ ⟨b,k',nu',un',r',ac'⟩)) w:=by have e:(Op.equalIn 10000 41 (.agg #[.string a,.int .i64 k,.bool nu,.bool un,.string r,.int .i64 ac]) (.agg #[.string b,.int .i64 k',.bool nu',.bool un',.string r',.int .i64 ac'])).run Tryz.prog w= .ok (decide ((⟨a,k,nu,un,r,ac⟩:Cl)=⟨b,k',nu',un',r',ac'⟩)) w:=by{simp[go_sem,Tryz.underlying41,Tryz.underlying3,Tryz.underlying4,Tryz.underlying9];have hs:∀x y:ByteArray,(x.toList=y.toList)↔x=y:=fun x y=>⟨zt,fun h=>by rw[h]⟩;by_cases h1:a=b<;>by_cases h2:k=k'<;>by_cases h3:nu=nu'<;>by_cases h4:un=un'<;>by_cases h5:r=r'<;>by_cases h6:ac=ac'<;>simp[hs,h1,h2,h3,h4,h5,h6]};rw[run_neq_struct,e];rfl
theorem Um(w:World)(f c f' c':Int):(binOp .neq 72 (.agg #[.int .i64 f,.int .i64 c]) (.agg #[.int .i64 f',.int .i64 c'])).run Tryz.prog w= .ok (.bool !(Ag.eqB ⟨f,c⟩ ⟨f',c'⟩)) w:=by have e:(Op.equalIn 10000 72 (.agg #[.int .i64 f,.int .i64 c]) (.agg #[.int .i64 f',.int .i64 c'])).run Tryz.prog w= .ok (decide ((⟨f,c⟩:Ag)=⟨f',c'⟩)) w:=by{simp[go_sem,Tryz.underlying72,Tryz.underlying3];by_cases h1:f=f'<;>by_cases h2:c=c'<;>simp[h1,h2]};rw[run_neq_struct,e];rfl
section
variable {α : Type} {rd : α → List Value} {S : Nat} {P : Program} {T E : TypeId} {bytes : Nat} {z : Value}
end
end Go.Proofs.YthjjpdjdnhjdbaaGreatDoor
