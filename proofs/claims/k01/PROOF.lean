import PyProof.Rows.All
import Wide.All
import OpenK.AllK
import Wide.FinOn
import HandS.ForMost
import HandS.IsInst
import HandS.OwnEq
import HandS.Evl
import HandS.ExcInit
import HandS.ExcOwn
import HandS.ExcField
import HandS.ExcIs
import HandS.TryOnly
import HandS.WordsExc
import PySem.Challenge.RW_willinglift_k01_houses_judged
set_option Elab.async false
set_option linter.all false
set_option maxRecDepth 100000
set_option maxHeartbeats 8000000
namespace Zo
open PySem L2 PySem.Spec PyProof.Rows
/-! ### the end, with what the computed names of the top hold -/
theorem walk_ofX {l : PySem.W.OpenLaw} {n k : Nat} {q : Program} {loose : List Str} {XP : (Str → Option Value) → Heap → Prop} {YP : World → Heap → Prop} {d : DefRec} {K : Params → PySem.W.Frag} {CX : World → CXT} {sp : PySem.W.Frag → Sp} {x : Str}
    (hn : l.most = some n) (hn2 : n ≤ sizeLine) (hdf : d.params.defaults = []) (hr : Room k callerA)
    (hY : ∀ (w : World) (h : Heap), YP w h → (K w.params).In h)
    (F : ∀ (w : World) (mg : Str → Option Value) (fa : Addr) (h : Heap), XP mg h → (K w.params).In h → h.Ns mainGlobals mg → mg d.name = some (.ref fa) →
      ∃ fd : FuncData, (∀ (s : Shared) (u : Value), BindsTo s fd ⟨[u], []⟩ [(x, u)]) ∧
        ∀ base : Heap, (K w.params).In base → base.Ns mainGlobals mg → FnOk l.prog w (K w.params) mg base (CX w) k fa fd [x] (sp (K w.params)))
    (hsp : ∀ (K : PySem.W.Frag) (H : Hp) (a : Addr) (ns : List Int), ns.length ≤ n → Only H → SqL K H a (ns.map V.int) → sp K [.ref a] H (fun v _ => v = .bl true) fun _ _ _ => False)
    (hCX : ∀ (w : World) (H : Hp) (s : Shared) (e : Value) (s' : Shared), CX w [] H s (fun _ _ _ => False) e s' → False) :
    PySem.W.WalkO q loose XP YP l.row.toRowW d [] (fun f vs => PySem.call f vs) := by
  refine Att.attach_call hn hdf fun w s₀ s₁ mg mb fa o pm cd doc a vs ns G Y ho hd hcd hmg hobj hints hlen hg => ?_
  have KX := hY w _ Y
  obtain ⟨fd, hb, hF⟩ := F w mg fa _ G.X KX G.T.g hmg
  exact law_call KX G.T.g G.T.b G.T.builtins G.T.nolimit hg hobj hints (Nat.le_trans hlen hn2) hr hF hb (fun H hO hS => hsp (K w.params) H a ns hlen hO hS) fun H e s' => hCX w H s₁ e s'
/-- a computed int of the top -/
theorem loose_int {p : Program} {lv : List (Str × PySem.W.WData)} {mg : Str → Option Value} {h : Heap} {x : Str} {i : Int} (X : PySem.W.XL p lv mg h) (hm : (x, PySem.W.WData.int i) ∈ lv) : ∃ t, mg x = some (.int i t) := by
  obtain ⟨v, e, r⟩ := X.2.val _ hm
  cases r with
  | int t => exact ⟨_, e⟩

/-! ### data -/
inductive Dt where
  | non
  | bl (b : Bool)
  | int (i : Int)
  | str (x : Str)
  | tup (l : List Dt)
  | lst (l : List Dt)
  | dct (ks : List Key) (l : List Dt)
  | ins (c : Nat) (ns : List Str) (l : List Dt)
/-! v stands for d; h: the one list that calls change (the hand of the draws) -/
mutual
inductive R (cl : Nat → Addr) (h : Addr) (H : Hp) : V → Dt → Prop
  | non : R cl h H .non .non
  | bl (b : Bool) : R cl h H (.bl b) (.bl b)
  | int (i : Int) : R cl h H (.int i) (.int i)
  | str (x : Str) : R cl h H (.str x) (.str x)
  | tup {a : Addr} {vs : List V} {ds : List Dt} : a ≠ h → H a = some (.tup vs) → Rs cl h H vs ds → R cl h H (.ref a) (.tup ds)
  | lst {a : Addr} {vs : List V} {ds : List Dt} : a ≠ h → H a = some (.lst vs) → Rs cl h H vs ds → R cl h H (.ref a) (.lst ds)
  | dct {a : Addr} {ks : List Key} {vs : List V} {ds : List Dt} : a ≠ h → H a = some (.dK (ks.zip vs)) → ks.length = vs.length → Rs cl h H vs ds → R cl h H (.ref a) (.dct ks ds)
  | ins {a dx : Addr} {c : Nat} {ns : List Str} {vs : List V} {ds : List Dt} : a ≠ h → H a = some (.ins (cl c) dx (ns.zip vs)) → ns.length = vs.length → Rs cl h H vs ds → R cl h H (.ref a) (.ins c ns ds)
inductive Rs (cl : Nat → Addr) (h : Addr) (H : Hp) : List V → List Dt → Prop
  | nil : Rs cl h H [] []
  | cons {v : V} {vs : List V} {d : Dt} {ds : List Dt} : R cl h H v d → Rs cl h H vs ds → Rs cl h H (v :: vs) (d :: ds)
end
/-- all that is tracked stays, but for what stands at h -/
def Kp (h : Addr) (H H' : Hp) : Prop := ∀ a o, a ≠ h → H a = some o → H' a = some o
theorem Kp.refl {h : Addr} (H : Hp) : Kp h H H := fun _ _ _ e => e
theorem Kp.trans {h : Addr} {H H1 H2 : Hp} (a : Kp h H H1) (b : Kp h H1 H2) : Kp h H H2 := fun x o n e => b x o n (a x o n e)
mutual
theorem R.kp {cl : Nat → Addr} {h : Addr} {H H' : Hp} (k : Kp h H H') : ∀ {v : V} {d : Dt}, R cl h H v d → R cl h H' v d
  | _, _, .non => .non
  | _, _, .bl b => .bl b
  | _, _, .int i => .int i
  | _, _, .str x => .str x
  | _, _, .tup n e r => .tup n (k _ _ n e) (Rs.kp k r)
  | _, _, .lst n e r => .lst n (k _ _ n e) (Rs.kp k r)
  | _, _, .dct n e l r => .dct n (k _ _ n e) l (Rs.kp k r)
  | _, _, .ins n e l r => .ins n (k _ _ n e) l (Rs.kp k r)
theorem Rs.kp {cl : Nat → Addr} {h : Addr} {H H' : Hp} (k : Kp h H H') : ∀ {vs : List V} {ds : List Dt}, Rs cl h H vs ds → Rs cl h H' vs ds
  | _, _, .nil => .nil
  | _, _, .cons r t => .cons (R.kp k r) (Rs.kp k t)
end
theorem Rs.len {cl : Nat → Addr} {h : Addr} {H : Hp} : ∀ {vs : List V} {ds : List Dt}, Rs cl h H vs ds → vs.length = ds.length
  | _, _, .nil => rfl
  | _, _, .cons _ t => by rw [List.length_cons, List.length_cons, Rs.len t]
theorem Rs.at {cl : Nat → Addr} {h : Addr} {H : Hp} : ∀ {vs : List V} {ds : List Dt} {i : Nat} {d : Dt}, Rs cl h H vs ds → ds[i]? = some d → ∃ v, vs[i]? = some v ∧ R cl h H v d
  | _, _, _, _, .nil, e => by simp at e
  | _, _, 0, _, .cons r _, e => by simp at e; subst e; exact ⟨_, rfl, r⟩
  | _, _, i + 1, d, .cons _ t, e => by
    obtain ⟨v, h1, h2⟩ := Rs.at (i := i) (d := d) t (by simpa using e)
    exact ⟨v, by simpa using h1, h2⟩
theorem Rs.atV {cl : Nat → Addr} {h : Addr} {H : Hp} : ∀ {vs : List V} {ds : List Dt} {i : Nat} {v : V}, Rs cl h H vs ds → vs[i]? = some v → ∃ d, ds[i]? = some d ∧ R cl h H v d
  | _, _, _, _, .nil, e => by simp at e
  | _, _, 0, _, .cons r _, e => by simp at e; subst e; exact ⟨_, rfl, r⟩
  | _, _, i + 1, d, .cons _ t, e => by
    obtain ⟨v, h1, h2⟩ := Rs.atV (i := i) (v := d) t (by simpa using e)
    exact ⟨v, by simpa using h1, h2⟩
theorem Rs.app {cl : Nat → Addr} {h : Addr} {H : Hp} : ∀ {vs ws : List V} {ds es : List Dt}, Rs cl h H vs ds → Rs cl h H ws es → Rs cl h H (vs ++ ws) (ds ++ es)
  | _, _, _, _, .nil, s => s
  | _, _, _, _, .cons r t, s => .cons r (Rs.app t s)
theorem Rs.ints {cl : Nat → Addr} {h : Addr} {H : Hp} : ∀ (l : List Int), Rs cl h H (l.map V.int) (l.map Dt.int)
  | [] => .nil
  | _ :: l => .cons (.int _) (Rs.ints l)

/-! ### the hand of the draws -/
/-- at h the hand: the list of the script's numbers at c, four numbers, none below 0 -/
def Hd (h c : Addr) (H : Hp) : Prop := c ≠ h ∧ ∃ (ns : List Int) (i : Nat) (z g t : Int), H h = some (.lst [.ref c, .int (i : Int), .int z, .int g, .int t]) ∧ H c = some (.lst (ns.map V.int)) ∧ ns.length ≤ 63 ∧ (∀ n ∈ ns, 0 ≤ n) ∧ 0 ≤ z ∧ 0 ≤ g ∧ g < 2147483648 ∧ 0 ≤ t
/-- what calls may do to the heap -/
def Go (h c : Addr) (H H' : Hp) : Prop := Kp h H H' ∧ (Hd h c H → Hd h c H')
theorem Go.refl {h c : Addr} (H : Hp) : Go h c H H := ⟨Kp.refl H, id⟩
theorem Go.trans {h c : Addr} {H H1 H2 : Hp} (a : Go h c H H1) (b : Go h c H1 H2) : Go h c H H2 := ⟨a.1.trans b.1, fun x => b.2 (a.2 x)⟩
theorem Go.kp {h c a : Addr} {H H' : Hp} {o : HO} (g : Go h c H H') (n : a ≠ h) (e : H a = some o) : H' a = some o := g.1 a o n e
theorem Go.r {cl : Nat → Addr} {h c : Addr} {H H' : Hp} {v : V} {d : Dt} (g : Go h c H H') (r : R cl h H v d) : R cl h H' v d := R.kp g.1 r
theorem Go.rs {cl : Nat → Addr} {h c : Addr} {H H' : Hp} {v : List V} {d : List Dt} (g : Go h c H H') (r : Rs cl h H v d) : Rs cl h H' v d := Rs.kp g.1 r
theorem Hd.some {h c : Addr} {H : Hp} (x : Hd h c H) : ∃ o, H h = some o := by
  obtain ⟨_, _, _, _, _, _, q, _⟩ := x
  exact ⟨_, q⟩
theorem Hd.ne {h c p : Addr} {H : Hp} (x : Hd h c H) (n : H p = none) : p ≠ h := fun e => by
  obtain ⟨o, q⟩ := x.some
  rw [e, q] at n
  cases n
theorem Hd.nec {h c p : Addr} {H : Hp} (x : Hd h c H) (n : H p = none) : p ≠ c := fun e => by
  obtain ⟨_, _, _, _, _, _, _, q, _⟩ := x
  rw [e, q] at n
  cases n
theorem Hd.put {h c p : Addr} {H : Hp} {o : HO} (x : Hd h c H) (n1 : p ≠ h) (n2 : p ≠ c) : Hd h c (upd H p o) := by
  obtain ⟨nc, ns, i, z, g, t, q, r, b⟩ := x
  exact ⟨nc, ns, i, z, g, t, by rw [upd_ne n1.symm]; exact q, by rw [upd_ne n2.symm]; exact r, b⟩
theorem Kp.new {h p : Addr} {H : Hp} {o : HO} (n : H p = none) : Kp h H (upd H p o) := fun a u _ e => by
  rw [upd_ne (ne_of_none e n)]
  exact e
/-- what is new stays unknown to the older heap -/
theorem Go.back {h c p : Addr} {H H' : Hp} (g : Go h c H H') (x : Hd h c H) (n : H' p = none) : H p = none := by
  cases e : H p with
  | none => rfl
  | some o =>
    by_cases q : p = h
    · have y := g.2 x
      rw [q] at n
      obtain ⟨o', z⟩ := y.some
      rw [z] at n
      cases n
    · rw [g.1 p o q e] at n
      cases n
/-- an object that H does not know is made, or changed -/
theorem Go.mut {h c p : Addr} {H H' : Hp} {o : HO} (g : Go h c H H') (x : Hd h c H) (n : H p = none) : Go h c H (upd H' p o) := by
  refine ⟨fun a u na ha => ?_, fun _ => (g.2 x).put (x.ne n) (x.nec n)⟩
  rw [upd_ne (ne_of_none ha n)]
  exact g.1 a u na ha
theorem Go.new {h c p : Addr} {H : Hp} {o : HO} (x : Hd h c H) (n : H p = none) : Go h c H (upd H p o) := (Go.refl H).mut x n
/-- what keeps all -/
theorem Go.same {h c : Addr} {H H' : Hp} (e : Same H H') : Go h c H H' := by
  refine ⟨fun a o _ q => e a o q, fun x => ?_⟩
  obtain ⟨nc, ns, i, z, g, t, q, r, b⟩ := x
  exact ⟨nc, ns, i, z, g, t, e _ _ q, e _ _ r, b⟩

/-! ### one step of a reading -/
section
variable {K : PySem.W.Frag} {σ : L2.St} {H : Hp} {Q : VK} {D : Ends} {t u : TS} {te ta tb tc : TE} {tt tv : TT} {g : TG} {ts tr : TA} {r : R2} {E : XK} {sp : Sp}
theorem z_seq (h : t { D with nx := u D } σ H) : tSeq t u D σ H := h
theorem z_cut (M : L2.St → Hp → Prop) (h : t { D with nx := M } σ H) (k : ∀ σ' H', M σ' H' → u D σ' H') : Evl.tCut t u D σ H := ⟨M, h, k⟩
theorem z_next (h : D.nx σ H) : tNext D σ H := h
theorem z_asgN {i : Nat} (h : te σ H fun x H1 => D.nx (σ.set i (some x)) H1) : tAsg te (gName i) D σ H := h
theorem z_asg (h : te σ H fun x H1 => g x σ H1 D.nx) : tAsg te g D σ H := h
theorem z_gname {i : Nat} {v : V} {q : L2.St → Hp → Prop} (h : q (σ.set i (some v)) H) : gName i v σ H q := h
theorem z_drop (h : te σ H fun _ H1 => D.nx σ H1) : tDrop te D σ H := h
theorem z_ret (h : te σ H D.rt) : tRet te D σ H := h
theorem z_retN (h : D.rt .non H) : tRetN D σ H := h
theorem z_brk (h : D.bk σ H) : tBreak D σ H := h
theorem z_cont (h : D.ct σ H) : tCont D σ H := h
theorem z_if {c : TT} (h : c σ H fun b H1 => if b = true then t D σ H1 else u D σ H1) : tIfS c t u D σ H := h
theorem z_var {i : Nat} {v : V} (e : σ[i]? = some (some v)) (h : Q v H) : tVar i σ H Q := ⟨v, e, h⟩
theorem z_var0 {i : Nat} (h : ∃ v, σ[i]? = some (some v) ∧ Q v H) : tVar i σ H Q := h
theorem z_c {v : V} (h : Q v H) : tC v σ H Q := h
theorem z_op (h : ta σ H fun x H1 => tb σ H1 fun y H2 => r x y H2 Q) : tOp r ta tb σ H Q := h
theorem z_un {r : V → Hp → VK → Prop} (h : ta σ H fun x H1 => r x H1 Q) : tUn r ta σ H Q := h
theorem z_I0 {f : Int → Int → V} {i j : Int} (h : Q (f i j) H) : rI0 f (.int i) (.int j) H Q := ⟨i, j, rfl, rfl, h⟩
theorem z_I {C : Int → Int → Prop} {f : Int → Int → V} {i j : Int} (c : C i j) (h : Q (f i j) H) : rI C f (.int i) (.int j) H Q := ⟨i, j, rfl, rfl, c, h⟩
theorem z_U {f : Int → V} {i : Int} (h : Q (f i) H) : rU f (.int i) H Q := ⟨i, rfl, h⟩
theorem z_eq {x y : V} (s : scal x y = true) (h : Q (.bl (decide (x = y))) H) : rEq x y H Q := ⟨s, h⟩
theorem z_eqI {i j : Int} (h : Q (.bl (decide (i = j))) H) : rEq (.int i) (.int j) H Q := ⟨rfl, by
  have e : decide (V.int i = V.int j) = decide (i = j) := by
    by_cases q : i = j
    · rw [q]; simp
    · rw [decide_eq_false q, decide_eq_false (fun z => q (V.int.inj z))]
  rw [e]
  exact h⟩
theorem z_neI {i j : Int} (h : Q (.bl (!decide (i = j))) H) : rNe (.int i) (.int j) H Q := ⟨rfl, by
  have e : decide (V.int i = V.int j) = decide (i = j) := by
    by_cases q : i = j
    · rw [q]; simp
    · rw [decide_eq_false q, decide_eq_false (fun z => q (V.int.inj z))]
  rw [e]
  exact h⟩
theorem z_ne {x y : V} (s : scal x y = true) (h : Q (.bl (!decide (x = y))) H) : rNe x y H Q := ⟨s, h⟩
theorem z_test {q : Bool → Hp → Prop} (h : te σ H fun x H' => ∃ k, x = .bl k ∧ q k H') : tTest te σ H q := h
theorem z_B {q : Bool → Hp → Prop} (h : te σ H fun x H' => ∃ k, x = .bl k ∧ q k H') : tB te σ H q := h
theorem z_not {q : Bool → Hp → Prop} (h : tt σ H fun c H1 => q (!c) H1) : tNot tt σ H q := h
theorem z_and {q : Bool → Hp → Prop} (h : tt σ H fun c H1 => if c = true then tv σ H1 q else q false H1) : tAnd tt tv σ H q := h
theorem z_or {q : Bool → Hp → Prop} (h : tt σ H fun c H1 => if c = true then q true H1 else tv σ H1 q) : tOr tt tv σ H q := h
theorem z_andV (h : ta σ H fun x H1 => ∃ c, x = .bl c ∧ if c = true then tb σ H1 Q else Q (.bl false) H1) : tAndV ta tb σ H Q := h
theorem z_orV (h : ta σ H fun x H1 => ∃ c, x = .bl c ∧ if c = true then Q (.bl true) H1 else tb σ H1 Q) : tOrV ta tb σ H Q := h
theorem z_notV (h : ta σ H fun x H1 => ∃ c, x = .bl c ∧ Q (.bl (!c)) H1) : tNotV ta σ H Q := h
theorem z_ifE {c : TT} (h : c σ H fun b H1 => if b = true then ta σ H1 Q else tb σ H1 Q) : tIf c ta tb σ H Q := h
theorem z_chain {r r' : R2} (h : ta σ H fun x H1 => tb σ H1 fun y H2 => r x y H2 fun z H3 => ∃ k, z = .bl k ∧ (if k = true then tc σ H3 fun w' H4 => r' y w' H4 Q else Q (.bl false) H3)) : tChain r r' ta tb tc σ H Q := h
theorem z_bl {b : Bool} {q : Bool → Prop} (h : q b) : ∃ k, V.bl b = .bl k ∧ q k := ⟨b, rfl, h⟩
theorem z_nil {q : List V → Hp → Prop} (h : q [] H) : tNil σ H q := h
theorem z_cons {q : List V → Hp → Prop} (h : te σ H fun x H1 => tr σ H1 fun xs H2 => q (x :: xs) H2) : tCons te tr σ H q := h
theorem z_call {dvs : List V} (h : tr σ H fun vs H1 => sp (vs ++ dvs) H1 Q E) : tCall sp dvs E tr σ H Q := h
theorem z_CB {r : List V → Hp → VK → Prop} (h : tr σ H fun vs H1 => r vs H1 Q) : tCB r tr σ H Q := h
theorem z_fld {f : Str} (h : ta σ H fun x H1 => ∃ a C dx fs v, x = .ref a ∧ H1 a = some (.ins C dx fs) ∧ Cls K C ∧ NoAttr K C f ∧ fs.lookup f = some v ∧ Q v H1) : tFld K ta f σ H Q := h
/-- a new tuple, a new list: which heap stands then is forgotten but for what it holds -/
theorem z_tup {h c : Addr} (x : tr σ H fun xs H1 => xs.length ≤ sizeLine ∧ ∀ p, H1 p = none → Q (.ref p) (upd H1 p (.tup xs))) : tTup tr σ H Q := x
theorem z_lst (x : tr σ H fun xs H1 => xs.length ≤ sizeLine ∧ ∀ p, H1 p = none → Q (.ref p) (upd H1 p (.lst xs))) : tLst tr σ H Q := x
theorem z_sl {r : V → Option Int → Option Int → Hp → VK → Prop} {tl th : TO} (x : te σ H fun x H1 => tl σ H1 fun l H2 => th σ H2 fun u H3 => r x l u H3 Q) : tSl r te tl th σ H Q := x
theorem z_noPart {q : Option Int → Hp → Prop} (x : q none H) : tNoPart σ H q := x
theorem z_part {q : Option Int → Hp → Prop} (x : te σ H fun x H1 => ∃ i, x = .int i ∧ q (some i) H1) : tPart te σ H q := x
theorem z_int {i : Int} {q : Int → Prop} (h : q i) : ∃ k, V.int i = .int k ∧ q k := ⟨i, rfl, h⟩
theorem z_ixL {p : Addr} {xs : List V} {i : Int} {v : V} (e : SqL K H p xs) (a : atI xs i = some v) (h : Q v H) : rIxL K (.ref p) (.int i) H Q := ⟨p, xs, i, v, rfl, rfl, e, a, h⟩
theorem z_ixT {p : Addr} {xs : List V} {i : Int} {v : V} (e : SqT K H p xs) (a : atI xs i = some v) (h : Q v H) : rIxT K (.ref p) (.int i) H Q := ⟨p, xs, i, v, rfl, rfl, e, a, h⟩
theorem z_gsub {to ti : TE} {ts : TSet} {v : V} {q : L2.St → Hp → Prop} (h : to σ H fun o H1 => ti σ H1 fun i H2 => ts o i v H2 fun H3 => q σ H3) : gSub to ti ts v σ H q := h
theorem z_setL {p : Addr} {xs : List V} {i : Int} {j : Nat} {v : V} {q : Hp → Prop} (e : H p = some (.lst xs)) (a : ixN xs.length i = some j) (h : q (upd H p (.lst (xs.set j v)))) : rSetL (.ref p) (.int i) v H q := ⟨p, xs, i, j, rfl, rfl, e, a, h⟩
theorem z_lenL {p : Addr} {xs : List V} {r : List V → Hp → VK → Prop} (e : SqL K H p xs) (h : Q (.int xs.length) H) : (∃ p' ys, [V.ref p] = [.ref p'] ∧ (SqL K H p' ys ∨ SqT K H p' ys) ∧ Q (.int ys.length) H) := ⟨p, xs, rfl, .inl e, h⟩
theorem z_lenT {p : Addr} {xs : List V} {r : List V → Hp → VK → Prop} (e : SqT K H p xs) (h : Q (.int xs.length) H) : (∃ p' ys, [V.ref p] = [.ref p'] ∧ (SqL K H p' ys ∨ SqT K H p' ys) ∧ Q (.int ys.length) H) := ⟨p, xs, rfl, .inr e, h⟩
theorem z_intI {i : Int} (h : Q (.int i) H) : (∃ j, [V.int i] = [.int j] ∧ Q (.int j) H) ∨ ∃ k, [V.int i] = [.bl k] ∧ Q (.int (if k then 1 else 0)) H := .inl ⟨i, rfl, h⟩
theorem z_absI {i : Int} (n : 0 ≤ (if i < 0 then -i else i) → Q (.int (if i < 0 then -i else i)) H) : ∃ j, [V.int i] = [.int j] ∧ Q (.int (if j < 0 then -j else j)) H := ⟨i, rfl, n (by split <;> omega)⟩
/-- the two ways of a test -/
theorem z_ite {p A B : Prop} [Decidable p] (h1 : p → A) (h2 : ¬ p → B) : if decide p = true then A else B := by
  by_cases q : p
  · rw [if_pos (decide_eq_true q)]
    exact h1 q
  · rw [if_neg (by simpa using q)]
    exact h2 q
theorem z_iteD {p A B : Prop} [Decidable p] (h1 : ¬ p → A) (h2 : p → B) : if (!decide p) = true then A else B := by
  by_cases q : p
  · rw [decide_eq_true q]
    exact iteF (h2 q)
  · rw [decide_eq_false q]
    exact iteT (h1 q)
theorem z_iteB {b : Bool} {A B : Prop} (h1 : b = true → A) (h2 : b = false → B) : if b = true then A else B := by
  cases b with
  | true => exact h1 rfl
  | false => exact h2 rfl
theorem z_iteN {b : Bool} {A B : Prop} (h1 : b = false → A) (h2 : b = true → B) : if (!b) = true then A else B := by
  cases b with
  | true => exact h2 rfl
  | false => exact h1 rfl
end
theorem z_sf {K : PySem.W.Frag} {ta tv : TE} {f : Str} {D : Ends} {σ : L2.St} {H : Hp} (h : tv σ H fun y H1 => ta σ H1 fun x H2 => ∃ a C dx fs, x = .ref a ∧ H2 a = some (.ins C dx fs) ∧ Cls K C ∧ NoAttr K C f ∧ fs.length < 1000 ∧
    D.nx σ (upd H2 a (.ins C dx (putF f y fs)))) : sFld K ta tv f D σ H := h
theorem R.int_inv {cl : Nat → Addr} {h : Addr} {H : Hp} {v : V} {i : Int} (r : R cl h H v (.int i)) : v = .int i := by cases r; rfl
theorem R.str_inv {cl : Nat → Addr} {h : Addr} {H : Hp} {v : V} {i : Str} (r : R cl h H v (.str i)) : v = .str i := by cases r; rfl
theorem R.tup_inv {cl : Nat → Addr} {h : Addr} {H : Hp} {v : V} {ds : List Dt} (r : R cl h H v (.tup ds)) : ∃ a vs, v = .ref a ∧ a ≠ h ∧ H a = some (.tup vs) ∧ Rs cl h H vs ds := by
  cases r with
  | tup n e s => exact ⟨_, _, rfl, n, e, s⟩
theorem R.lst_inv {cl : Nat → Addr} {h : Addr} {H : Hp} {v : V} {ds : List Dt} (r : R cl h H v (.lst ds)) : ∃ a vs, v = .ref a ∧ a ≠ h ∧ H a = some (.lst vs) ∧ Rs cl h H vs ds := by
  cases r with
  | lst n e s => exact ⟨_, _, rfl, n, e, s⟩
theorem R.ins_inv {cl : Nat → Addr} {h : Addr} {H : Hp} {v : V} {c : Nat} {ns : List Str} {ds : List Dt} (r : R cl h H v (.ins c ns ds)) : ∃ a dx vs, v = .ref a ∧ a ≠ h ∧ H a = some (.ins (cl c) dx (ns.zip vs)) ∧ Rs cl h H vs ds ∧ ns.length = vs.length := by
  cases r with
  | ins n e l s => exact ⟨_, _, _, rfl, n, e, s, l⟩
theorem Rs.one {cl : Nat → Addr} {h : Addr} {H : Hp} {vs : List V} {d : Dt} (r : Rs cl h H vs [d]) : ∃ v, vs = [v] ∧ R cl h H v d := by
  cases r with
  | cons r1 t => cases t; exact ⟨_, rfl, r1⟩
theorem Rs.two {cl : Nat → Addr} {h : Addr} {H : Hp} {vs : List V} {d e : Dt} (r : Rs cl h H vs [d, e]) : ∃ v w, vs = [v, w] ∧ R cl h H v d ∧ R cl h H w e := by
  cases r with
  | cons r1 t =>
    obtain ⟨w, rfl, r2⟩ := t.one
    exact ⟨_, _, rfl, r1, r2⟩
theorem Rs.three {cl : Nat → Addr} {h : Addr} {H : Hp} {vs : List V} {d e f : Dt} (r : Rs cl h H vs [d, e, f]) : ∃ v w u, vs = [v, w, u] ∧ R cl h H v d ∧ R cl h H w e ∧ R cl h H u f := by
  cases r with
  | cons r1 t =>
    obtain ⟨w, u, rfl, r2, r3⟩ := t.two
    exact ⟨_, _, _, rfl, r1, r2, r3⟩
theorem Rs.four {cl : Nat → Addr} {h : Addr} {H : Hp} {vs : List V} {d e f g : Dt} (r : Rs cl h H vs [d, e, f, g]) : ∃ v w u z, vs = [v, w, u, z] ∧ R cl h H v d ∧ R cl h H w e ∧ R cl h H u f ∧ R cl h H z g := by
  cases r with
  | cons r1 t =>
    obtain ⟨w, u, z, rfl, r2, r3, r4⟩ := t.three
    exact ⟨_, _, _, _, rfl, r1, r2, r3, r4⟩
theorem lk_fst {f : Str} {v : V} {l : List (Str × V)} : List.lookup f ((f, v) :: l) = some v := by simp [List.lookup]
theorem lk_nxt {f g : Str} {v : V} {l : List (Str × V)} (n : ¬ g = f) : List.lookup g ((f, v) :: l) = List.lookup g l := by
  have e : (g == f) = false := by simpa using n
  simp [List.lookup, e]
/-- a new tuple, a new list of data -/
theorem R.newT {cl : Nat → Addr} {h c p : Addr} {H : Hp} {vs : List V} {ds : List Dt} (hd : Hd h c H) (n : H p = none) (r : Rs cl h H vs ds) : R cl h (upd H p (.tup vs)) (.ref p) (.tup ds) :=
  .tup (hd.ne n) upd_same (Rs.kp (Kp.new n) r)
theorem R.newL {cl : Nat → Addr} {h c p : Addr} {H : Hp} {vs : List V} {ds : List Dt} (hd : Hd h c H) (n : H p = none) (r : Rs cl h H vs ds) : R cl h (upd H p (.lst vs)) (.ref p) (.lst ds) :=
  .lst (hd.ne n) upd_same (Rs.kp (Kp.new n) r)
def newT (Q : VK) (xs : List V) (H : Hp) : Prop := xs.length ≤ sizeLine ∧ ∀ p, H p = none → Q (.ref p) (upd H p (.tup xs))
def newL (Q : VK) (xs : List V) (H : Hp) : Prop := xs.length ≤ sizeLine ∧ ∀ p, H p = none → Q (.ref p) (upd H p (.lst xs))
theorem z_tupI {tr : TA} {σ : L2.St} {H : Hp} {Q : VK} (x : tr σ H fun xs H1 => newT Q xs H1) : tTup tr σ H Q := x
theorem z_lstI {tr : TA} {σ : L2.St} {H : Hp} {Q : VK} (x : tr σ H fun xs H1 => newL Q xs H1) : tLst tr σ H Q := x
theorem sz1000 {n : Nat} (h : n ≤ 1000000) : n ≤ sizeLine := Nat.le_trans h (by decide)
theorem z_newT {cl : Nat → Addr} {h c : Addr} {H : Hp} {vs : List V} {ds : List Dt} {Q : VK} (hd : Hd h c H) (rs : Rs cl h H vs ds) (k : ∀ p H', Go h c H H' → H p = none → R cl h H' (.ref p) (.tup ds) → Q (.ref p) H') (l : vs.length ≤ 1000000 := by exact Nat.le_of_ble_eq_true rfl) :
    newT Q vs H := ⟨sz1000 l, fun p n => k p _ (Go.new hd n) n (R.newT hd n rs)⟩
theorem z_newL {cl : Nat → Addr} {h c : Addr} {H : Hp} {vs : List V} {ds : List Dt} {Q : VK} (hd : Hd h c H) (rs : Rs cl h H vs ds) (k : ∀ p H', Go h c H H' → H p = none → R cl h H' (.ref p) (.lst ds) → Q (.ref p) H') (l : vs.length ≤ 1000000 := by exact Nat.le_of_ble_eq_true rfl) :
    newL Q vs H := ⟨sz1000 l, fun p n => k p _ (Go.new hd n) n (R.newL hd n rs)⟩
theorem z_newD {cl : Nat → Addr} {h c : Addr} {σ : L2.St} {H : Hp} {Q : VK} (hd : Hd h c H) (k : ∀ p H', Go h c H H' → H p = none → R cl h H' (.ref p) (.dct [] []) → Q (.ref p) H') : tDNewK σ H Q := fun p n =>
  k p _ (Go.new hd n) n (.dct (vs := []) (hd.ne n) upd_same rfl .nil)
theorem z_cat {cl : Nat → Addr} {h c a b : Addr} {H : Hp} {ds es : List Dt} {Q : VK} (hd : Hd h c H) (r1 : R cl h H (.ref a) (.lst ds)) (r2 : R cl h H (.ref b) (.lst es)) (l : ds.length + es.length ≤ 1000000)
    (k : ∀ p H', Go h c H H' → H p = none → R cl h H' (.ref p) (.lst (ds ++ es)) → Q (.ref p) H') : rCat (.ref a) (.ref b) H Q := by
  obtain ⟨_, xs, e, _, ha, s1⟩ := r1.lst_inv
  cases e
  obtain ⟨_, ys, e, _, hb, s2⟩ := r2.lst_inv
  cases e
  refine ⟨a, b, xs, ys, rfl, rfl, ha, hb, sz1000 (by rw [s1.len, s2.len]; exact l), fun p n => k p _ (Go.new hd n) n (R.newL hd n (s1.app s2))⟩
def newO (C : Addr) (sp : Sp) (E : XK) (Q : VK) (vs : List V) (H : Hp) : Prop := ∀ x dx, H x = none → H dx = none → dx ≠ x → sp (.ref x :: vs) (upd (upd H dx (.own x)) x (.ins C dx [])) (fun v H2 => v = .non ∧ Q (.ref x) H2) E
theorem z_make {C : Addr} {sp : Sp} {E : XK} {tr : TA} {σ : L2.St} {H : Hp} {Q : VK} (h : tr σ H fun vs H1 => newO C sp E Q vs H1) : tMake C sp [] E tr σ H Q := by
  have e : tMake C sp [] E tr σ H Q = (tr σ H fun vs H1 => newO C sp E Q vs H1) := by
    unfold tMake newO
    simp only [List.append_nil]
  rw [e]
  exact h
theorem Go.ins0 {h c x dx : Addr} {H : Hp} {o : HO} (hd : Hd h c H) (nx : H x = none) (nd : H dx = none) : Go h c H (upd (upd H dx (.own x)) x o) := ((Go.refl H).mut hd nd).mut hd nx
theorem Go.ins {h c x dx : Addr} {H : Hp} {o o' : HO} (hd : Hd h c H) (nx : H x = none) (nd : H dx = none) : Go h c H (upd (upd (upd H dx (.own x)) x o) x o') := (Go.ins0 hd nx nd).mut hd nx
theorem R.newI {cl : Nat → Addr} {h c x dx : Addr} {k : Nat} {ns : List Str} {H : Hp} {o : HO} {vs : List V} {ds : List Dt} (hd : Hd h c H) (nx : H x = none) (nd : H dx = none) (rs : Rs cl h H vs ds) (l : ns.length = vs.length) :
    R cl h (upd (upd (upd H dx (.own x)) x o) x (.ins (cl k) dx (ns.zip vs))) (.ref x) (.ins k ns ds) :=
  .ins (hd.ne nx) upd_same l (Rs.kp (Go.ins (o := o) hd nx nd).1 rs)
theorem z_par {i j : Nat} {ta : TA} {D : Ends} {σ : L2.St} {H : Hp} (h : ta σ H fun vs H1 => ∃ v w, vs = [v, w] ∧ D.nx ((σ.set i (some v)).set j (some w)) H1) : tPar i j ta D σ H := h
theorem z_two {v w : V} {q : V → V → Prop} (h : q v w) : ∃ v' w', [v, w] = [v', w'] ∧ q v' w' := ⟨v, w, rfl, h⟩
theorem z_gcons {t : TG} {u : TGs} {v : V} {r : List V} {σ : L2.St} {H : Hp} {q : L2.St → Hp → Prop} (h : t v σ H fun σ' H' => u r σ' H' q) : gCons t u (v :: r) σ H q := ⟨v, r, rfl, h⟩
theorem z_gnil {σ : L2.St} {H : Hp} {q : L2.St → Hp → Prop} (h : q σ H) : gNil [] σ H q := ⟨rfl, h⟩
theorem z_gtup {K : PySem.W.Frag} {n : Nat} {t : TGs} {a : Addr} {xs : List V} {σ : L2.St} {H : Hp} {q : L2.St → Hp → Prop} (e : H a = some (.tup xs)) (l : xs.length = n) (h : t xs σ H q) : gTup K n t (.ref a) σ H q := ⟨a, xs, rfl, .inl (.inl e), l, h⟩
theorem z_eqS {x y : Str} {H : Hp} {Q : VK} (b : Bool) (e : decide (x = y) = b) (h : Q (.bl b) H) : rEq (.str x) (.str y) H Q := ⟨rfl, by
  have e1 : decide (V.str x = V.str y) = b := by
    rw [← e]
    by_cases q : x = y
    · rw [q]; simp
    · rw [decide_eq_false q, decide_eq_false (fun z => q (V.str.inj z))]
  rw [e1]
  exact h⟩
theorem z_neS {x y : Str} {H : Hp} {Q : VK} (b : Bool) (e : decide (x = y) = !b) (h : Q (.bl b) H) : rNe (.str x) (.str y) H Q := ⟨rfl, by
  have e1 : decide (V.str x = V.str y) = !b := by
    rw [← e]
    by_cases q : x = y
    · rw [q]; simp
    · rw [decide_eq_false q, decide_eq_false (fun z => q (V.str.inj z))]
  rw [e1, Bool.not_not]
  exact h⟩
theorem iteNF {A B : Prop} (h : A) : if (!false) = true then A else B := by
  show if true = true then A else B
  exact iteT h
theorem iteNT {A B : Prop} (h : B) : if (!true) = true then A else B := by
  show if false = true then A else B
  exact iteF h
theorem z_neBs {a b : Bool} {H : Hp} {Q : VK} (e : a = b) (h : Q (.bl false) H) : rNe (.bl a) (.bl b) H Q := ⟨rfl, by
  rw [decide_eq_true (by rw [e])]
  exact h⟩
theorem z_eqBn {a b : Bool} {H : Hp} {Q : VK} (e : a ≠ b) (h : Q (.bl false) H) : rEq (.bl a) (.bl b) H Q := ⟨rfl, by
  rw [decide_eq_false (fun z => e (V.bl.inj z))]
  exact h⟩
/-! ### comprehensions -/
section
variable {K : PySem.W.Frag} {σ : L2.St} {H : Hp} {Q : VK}
theorem z_lc {wi : TI} {g : TG} {tt : TT} {te : TE} {vs : List Nat} (h : wi σ H fun J H1 => ∀ D, H1 D = none → ∃ W : Nat → Nat → Hp → Prop, (∃ m, W 0 m (upd H1 D (.lst []))) ∧ ∀ i m H, W i m H →
    (J.stop i H ∧ Q (.ref D) H) ∨ (J.go i H ∧ ∃ Nx : Hp → Prop, (∀ H', Nx H' → ∃ m', m' < m ∧ W (i + 1) m' H') ∧ ∀ x H', J.yld i H x H' → g x (wipe σ vs) H' fun σ2 H2 => wipe σ2 vs = wipe σ vs ∧ tt σ2 H2 fun b H3 =>
      if b = true then te σ2 H3 fun y H4 => ∃ acc, H4 D = some (.lst acc) ∧ acc.length < sizeLine ∧ Nx (upd H4 D (.lst (acc ++ [y]))) else Nx H3)) : tLc wi g tt te vs σ H Q := h
theorem z_pow {a b n : Int} (c : CPow a b) (e : a ^ b.toNat = n) (h : Q (.int n) H) : rI CPow (fun i j => .int (i ^ j.toNat)) (.int a) (.int b) H Q := ⟨a, b, rfl, rfl, c, by show Q (.int (a ^ b.toNat)) H; rw [e]; exact h⟩
theorem z_for {wi : TI} {g : TG} {tb : TS} {D : Ends} (h : wi σ H fun J H1 => ∃ W : Nat → Nat → L2.St → Hp → Prop, (∃ m, W 0 m σ H1) ∧ ∀ i m σ H, W i m σ H →
    (J.stop i H ∧ D.nx σ H) ∨ (J.go i H ∧ ∃ Nx : L2.St → Hp → Prop, (∀ σ' H', Nx σ' H' → ∃ m', m' < m ∧ W (i + 1) m' σ' H') ∧ ∀ x H', J.yld i H x H' → g x σ H' fun σ2 H2 => tb { D with nx := Nx, ct := Nx, bk := D.nx } σ2 H2)) : tFor wi g tb D σ H := h
theorem z_r1 {ta : TA} {q : It → Hp → Prop} (h : ta σ H fun vs H1 => ∃ j : Int, vs = [.int j] ∧ -(2 ^ 62) ≤ j ∧ j < 2 ^ 62 ∧ q (Itr 0 j.toNat) H1) : iRng1 ta σ H q := h
theorem z_r2 {ta : TA} {q : It → Hp → Prop} (h : ta σ H fun vs H1 => ∃ i j : Int, vs = [.int i, .int j] ∧ (-(2 ^ 62) ≤ i ∧ i < 2 ^ 62 ∧ -(2 ^ 62) ≤ j ∧ j < 2 ^ 62) ∧ q (Itr i (j - i).toNat) H1) : iRng2 ta σ H q := h
theorem z_iL {tl : TE} {q : It → Hp → Prop} (h : tl σ H fun x H1 => ∃ a, x = .ref a ∧ (∃ xs, SqL K H1 a xs) ∧ q (Itl K a) H1) : iList K tl σ H q := h
theorem z_iT {tl : TE} {q : It → Hp → Prop} (h : tl σ H fun x H1 => ∃ a, x = .ref a ∧ (∃ xs, SqT K H1 a xs) ∧ q (Itt K a) H1) : iTup K tl σ H q := h
theorem z_yes {q : Bool → Hp → Prop} (h : q true H) : tYes σ H q := h
theorem z_slL {p : Addr} {xs : List V} {lo hi : Option Int} (e : SqL K H p xs) (h : ∀ p', H p' = none → Q (.ref p') (upd H p' (.lst (cutV xs lo hi)))) : rSlL K (.ref p) lo hi H Q := ⟨p, xs, rfl, e, h⟩
end
theorem SqL.new {K : PySem.W.Frag} {H : Hp} {a p : Addr} {xs : List V} {o : HO} (e : SqL K H a xs) (n : H p = none) : SqL K (upd H p o) a xs := Same.seq (fun b u q => by rw [upd_ne (ne_of_none q n)]; exact q) e
theorem cutV_all {xs : List V} {n : Int} (h : (xs.length : Int) ≤ n) : cutV xs none (some n) = xs := by
  unfold cutV
  have e1 : HT.sIx xs.length 0 none = 0 := rfl
  have e2 : HT.sIx xs.length xs.length (some n) = xs.length := by
    show (if n < 0 then (n + (xs.length : Int)).toNat else min n.toNat xs.length) = xs.length
    rw [if_neg (by omega)]
    omega
  rw [e1, e2]
  simp
theorem take_one {α : Type} {l : List α} {i : Nat} {x : α} (h : l[i]? = some x) : l.take (i + 1) = l.take i ++ [x] := by
  obtain ⟨hi, e⟩ := List.getElem?_eq_some_iff.mp h
  rw [List.take_succ_eq_append_getElem hi, e]
/-- the law's promise -/
def spLaw (K : PySem.W.Frag) : Sp := fun vs H Q _ => ∃ (a : Addr) (ns : List Int), vs = [.ref a] ∧ SqL K H a (ns.map V.int) ∧ ns.length ≤ 63 ∧ ∀ H', Q (.bl true) H'
theorem kd_same {K : PySem.W.Frag} {C : Addr} (h : PySem.W.mroIn K C (.ref C) = some true) : PySem.W.mroIn K C (.ref C) = some (decide (C = C)) := by
  rw [decide_eq_true rfl]
  exact h
theorem kd_other {K : PySem.W.Frag} {C D : Addr} (h : PySem.W.mroIn K C (.ref D) = some false) (s : PySem.W.mroIn K C (.ref C) = some true) : PySem.W.mroIn K C (.ref D) = some (decide (C = D)) := by
  by_cases e : C = D
  · rw [← e, s] at h
    cases h
  · rw [decide_eq_false e]
    exact h
theorem putF_one (f : Str) (v : V) : putF f v [] = [(f, v)] := rfl
theorem putF_more {f g : Str} (v w : V) (l : List (Str × V)) (n : ¬ g = f) : putF f v ((g, w) :: l) = (g, w) :: putF f v l := by
  show (if g = f then _ else _) = _
  rw [if_neg n]
end Zo

namespace Zo
open PySem L2 PySem.Spec PyProof.Rows
section
variable {prog : Program} {w : World} {A : Around} {E : Value → Shared → Prop} {s : Shared} {K : PySem.W.Frag} {x C L f : Addr} {h₀ : Heap} {m : Str → Option Value} {ox : Obj} {od : Option Obj} {b tb : Value}
theorem neEntry {Q : Fin → Shared → Prop} (hu : A.units < cLine) (X : K.In s.heap) (I : PySem.W.InstAt s.heap x ox C od) (hs : PySem.W.findIn K (.ref C) "__eq__" = some (some (.ref f))) (hf : PySem.W.isFn K (.ref f) = true)
    (h : wpAny (model prog w) A (call (.ref f) [.ref x, b]) (fun v s' => ∃ t, v = .bool t ∧ Q (.done (.ret (.bool (!t)))) s') E s) :
    wpAny (model prog w) A (Builtin.«object.__ne__» ⟨[.ref x, b], []⟩) Q E s := by
  unfold Builtin.«object.__ne__»
  repeat (first
    | with_reducible refine wpAny_cRoomFor hu ?_
    | (refine wpAny_bind (m := callSpecialIfBound? (.ref x) (Str.ofString "__eq__") [b])
        (PySem.W.ifBound_K X I hs hf (wpAny_mono h (fun r s' hr => by
          obtain ⟨t, rfl, hq⟩ := hr
          repeat (first | exact hq | exact wpAny_pure hq | exact wpAny_truthy_bool hq | (refine wpAny_bind (m := truthy (.bool _)) (wpAny_truthy_bool ?_)) | wp_step)) fun _ _ e => e)))
    | wp_step)
theorem ifBound_ne {M : Model} {args : List Value} {Q : Option Value → Shared → Prop} (X : K.In s.heap) (I : PySem.W.InstAt s.heap x ox C od) (hs : PySem.W.findIn K (.ref C) "__ne__" = some (some (.builtin "object.__ne__")))
    (h : wpAny M A (call (.builtin "object.__ne__") (.ref x :: args)) (fun v => Q (some v)) E s) : wpAny M A (callSpecialIfBound? (.ref x) "__ne__" args) Q E s := by
  simp only [callSpecialIfBound?, bindSpecialIfBound?]
  refine wpAny_holding (wpAny_bind (wpAny_bind (wpAny_bind (I.type.here ((PySem.W.looks_findIn X hs).here ?_)))))
  refine wpAny_bind (wpAny_askSetting (wpAny_ite ?_))
  have fin : wpAny M A (call (.builtin "object.__ne__") ([.ref x] ++ args) >>= fun v => pure (some v)) Q E s := wpAny_bind (wpAny_mono h (fun v s' h' => wpAny_pure h') fun _ _ h' => h')
  split
  · exact wpAny_bind (wpAny_of_eq (F.cmp_object.ne.bind _) (wpAny_pure (by exact fin)))
  · exact wpAny_tryCatch (wpAny_bind (wpAny_of_eq (F.cmp_object.ne.bind _) (wpAny_pure (by exact fin))))
theorem ne_K {Q : Value → Shared → Prop} (hu : A.units + 1 < cLine) (FR : Fr h₀ L s.heap m) (X₀ : K.In h₀) (I : PySem.W.InstAt s.heap x ox C od) (hb : PySem.W.Looks (model prog w) s.heap (typeOf b) tb) (hn : PySem.W.notFirst K C tb = true)
    (hne : PySem.W.findIn K (.ref C) "__ne__" = some (some (.builtin "object.__ne__"))) (hs : PySem.W.findIn K (.ref C) "__eq__" = some (some (.ref f))) (hf : PySem.W.isFn K (.ref f) = true) (hm : PySem.W.mroIn K C (.type "object") = some true)
    (h : wpAny (model prog w) A.in1 (call (.ref f) [.ref x, b]) (fun v s' => ∃ t, v = .bool t ∧ Q (.bool (!t)) s') E s) : wpAny (model prog w) A (richCompare .NotEq (.ref x) b) Q E s := by
  have X := X₀.keeps FR.keep
  have one : wpAny (model prog w) A (tryCompare (.ref x) "__ne__" b) (fun r s' => ∃ v, r = some v ∧ Q v s') E s := by
    unfold tryCompare
    refine wpAny_bind (ifBound_ne X I hne (wpAny_call (codeAny_call_builtin F.cmp_object.ne.plain F.cmpEntry_ne (PySem.W.check_slot F.cmpKind_ne F.cmpSplit_ne (I.type.andThen (PySem.W.looks_mroIn X hm)) (F.cmpArgs_ne _ _)
      (neEntry (A := A.in1) hu X I hs hf (wpAny_mono h (fun v s' hv => ?_) fun _ _ e => e))))))
    obtain ⟨t, rfl, hq⟩ := hv
    exact ⟨t, rfl, wpAny_pure ⟨_, rfl, hq⟩⟩
  unfold richCompare
  simp only [oneThing_ref]
  refine wpAny_holding (wpAny_bind (wpAny_cRoomFor (Nat.lt_of_succ_lt hu) ?_))
  rw [cmpInfo_NotEq]
  dsimp only
  refine wpAny_bind (I.type.here (wpAny_bind (hb.here ?_)))
  split
  · rename_i q
    have e : PySem.W.subIn K tb (.ref C) = some false := by
      rcases Bool.or_eq_true_iff.mp hn with e | e
      · rw [beq_iff_eq.mp e] at q; simp at q
      · exact beq_iff_eq.mp e
    refine wpAny_bind ((PySem.W.looks_subIn X e).here ?_)
    simp only [Bool.false_eq_true, if_false]
    refine wpAny_bind (wpAny_mono one (fun r s' z => ?_) fun _ _ e => e)
    obtain ⟨v, rfl, hq⟩ := z
    exact wpAny_pure hq
  · refine wpAny_bind (wpAny_pure ?_)
    simp only [Bool.false_eq_true, if_false]
    refine wpAny_bind (wpAny_mono one (fun r s' z => ?_) fun _ _ e => e)
    obtain ⟨v, rfl, hq⟩ := z
    exact wpAny_pure hq
end
/-- x == y, x != y: x an instance of the class at C whose own == keeps sp -/
def rEqO (K : PySem.W.Frag) (C : Addr) (sp : Sp) (E : XK) : R2 := fun x y H Q => ∃ a dx fs t, x = .ref a ∧ H a = some (.ins C dx fs) ∧ TyX K H y t ∧ PySem.W.notFirst K C t = true ∧ sp [x, y] H Q E
def rNeO (K : PySem.W.Frag) (C : Addr) (sp : Sp) (E : XK) : R2 := fun x y H Q => ∃ a dx fs t, x = .ref a ∧ H a = some (.ins C dx fs) ∧ TyX K H y t ∧ PySem.W.notFirst K C t = true ∧ sp [x, y] H (fun z H' => ∃ c, z = .bl c ∧ Q (.bl (!c)) H') E
section
variable {X : Cx} {CX : CXT} {k : Nat} {C f : Addr} {fd : FuncData} {ps : List Str} {sp : Sp} {E : XK}
theorem op_eqO (F1 : FnOk X.prog X.w X.K X.mg X.base CX k f fd ps sp) (hr : Room k X.A) (hs : PySem.W.findIn X.K (.ref C) "__eq__" = some (some (.ref f))) (hf : PySem.W.isFn X.K (.ref f) = true) (hb : Binds X.K fd ps []) (hx : Passes CX X E) :
    OpR X (compareOp .Eq) (rEqO X.K C sp E) := by
  intro pins s σ H x y v u Q I rx ry h
  obtain ⟨a, dx, fs, t, rfl, ha, ty, hn, h⟩ := h
  cases rx
  obtain ⟨P, kx, p, _⟩ := kit_of I ry ty
  obtain ⟨mA, J, _⟩ := ins_get I.hok ha
  obtain ⟨od, J, _⟩ := J.look
  obtain ⟨m, hF⟩ := I.fr
  show wpAny _ _ (richCompare .Eq _ _) _ _ _
  refine PySem.W.cmp_K (op := .Eq) (tb := t) hr.units0 hF I.ok.mod.kin J (kx.ty _ _ I.kIn p) hn hs hf ?_
  have hl := F1.len _ _ _ _ h
  refine wpAny_call (codeAny_mono (F1.run X.A X.stack s H ⟨[.ref a, u], []⟩ [.ref a, u] [.ref a, y] Q E hr I.env0 (by
    have := hb s [.ref a, u] I.kIn (by simpa using hl)
    simpa using this) (.cons rfl (.cons ry .nil)) h) fun r s' hq => ?_)
  cases r with
  | error e => exact hx pins σ H s e s' I hq
  | ok fl =>
    cases fl with
    | ret w =>
      obtain ⟨z, H', I', rz, q⟩ := I.after hq
      cases z with
      | non => cases (show w = Value.none from rz); exact ⟨.non, H', I', rfl, q⟩
      | bl c => cases (show w = Value.bool c from rz); exact ⟨.bl c, H', I', rfl, q⟩
      | int i => obtain ⟨t, e⟩ := (show ∃ t, w = Value.int i t from rz); cases e; exact ⟨.int i, H', I', ⟨_, rfl⟩, q⟩
      | str x => obtain ⟨t, e⟩ := (show ∃ t, w = Value.str x t from rz); cases e; exact ⟨.str x, H', I', ⟨_, rfl⟩, q⟩
      | byt x => obtain ⟨t, e⟩ := (show ∃ t, w = Value.bytes x t from rz); cases e; exact ⟨.byt x, H', I', ⟨_, rfl⟩, q⟩
      | flt x => obtain ⟨t, e⟩ := (show ∃ t, w = Value.float x t from rz); cases e; exact ⟨.flt x, H', I', ⟨_, rfl⟩, q⟩
      | ref a => cases (show w = Value.ref a from rz); exact ⟨.ref a, H', I', rfl, q⟩
      | ty n => cases (show w = Value.type n from rz); exact ⟨.ty n, H', I', rfl, q⟩
    | next => exact False.elim hq
    | brk => exact False.elim hq
    | cont => exact False.elim hq
theorem op_neO (F1 : FnOk X.prog X.w X.K X.mg X.base CX k f fd ps sp) (hr : Room (k + 1) X.A) (hne : PySem.W.findIn X.K (.ref C) "__ne__" = some (some (.builtin "object.__ne__"))) (hs : PySem.W.findIn X.K (.ref C) "__eq__" = some (some (.ref f))) (hf : PySem.W.isFn X.K (.ref f) = true)
    (hm : PySem.W.mroIn X.K C (.type "object") = some true) (hb : Binds X.K fd ps []) (hx : Passes CX X E) :
    OpR X (compareOp .NotEq) (rNeO X.K C sp E) := by
  intro pins s σ H x y v u Q I rx ry h
  obtain ⟨a, dx, fs, t, rfl, ha, ty, hn, h⟩ := h
  cases rx
  obtain ⟨P, kx, p, _⟩ := kit_of I ry ty
  obtain ⟨mA, J, _⟩ := ins_get I.hok ha
  obtain ⟨od, J, _⟩ := J.look
  obtain ⟨m, hF⟩ := I.fr
  show wpAny _ _ (richCompare .NotEq _ _) _ _ _
  refine ne_K (tb := t) (by have := hr.un; omega) hF I.ok.mod.kin J (kx.ty _ _ I.kIn p) hn hne hs hf hm ?_
  have hl := F1.len _ _ _ _ h
  refine wpAny_call (codeAny_mono (F1.run X.A.in1 X.stack s H ⟨[.ref a, u], []⟩ [.ref a, u] [.ref a, y] _ E hr.in1 I.env0.in1 (by
    have := hb s [.ref a, u] I.kIn (by simpa using hl)
    simpa using this) (.cons rfl (.cons ry .nil)) h) fun r s' hq => ?_)
  cases r with
  | error e => exact hx pins σ H s e s' I hq
  | ok fl =>
    cases fl with
    | ret w =>
      obtain ⟨z, H', I', rz, c, rfl, q⟩ := I.after hq
      cases (show w = Value.bool c from rz)
      exact ⟨c, rfl, .bl (!c), H', I', rfl, q⟩
    | next => exact False.elim hq
    | brk => exact False.elim hq
    | cont => exact False.elim hq
end
end Zo

namespace Zo
open PySem L2 PySem.Spec PyProof.Rows
/-! ### what the top says of a class of one's own -/
structure Kit (K : PySem.W.Frag) (C : Addr) : Prop where
  cl : Cls K C
  ha : PySem.W.findIn K (.ref C) "__class__" = some (some (.builtin "object.__class__"))
  hn : PySem.W.specialIn K (.builtin "object.__class__") "__get__" = some (some (.builtin "getset_descriptor.__get__"))
  ht : PySem.W.takesIn K (.builtin "object.__class__") = some true
  hm : PySem.W.mroIn K C (.type "object") = some true
  ic : PySem.W.isClsIn K C = true
  ty : PySem.W.typeIn K (.ref C) = some (.type "type")
  mi : PySem.W.mroIn K C (.type "int") = some false
  mb : PySem.W.mroIn K C (.type "bool") = some false
  ms : PySem.W.mroIn K C (.type "str") = some false
  ml : PySem.W.mroIn K C (.type "list") = some false
  mt : PySem.W.mroIn K C (.type "tuple") = some false
  md : PySem.W.mroIn K C (.type "dict") = some false
theorem Kit.some {K : PySem.W.Frag} {C : Addr} (k : Kit K C) : (PySem.W.clsIn K C).isSome = true := k.ic
theorem kit_ot {K : PySem.W.Frag} {C : Addr} {b : String} (hb : PySem.W.kitMeta b = true) {r : Bool} (h : PySem.W.mroIn K C (.type b) = some r) : PySem.W.kitOne K (.ref C) (.type b) = some r := by
  show (if ((Value.ref C == Value.type b) = true) then some true else (if PySem.W.kitMeta b = true then PySem.W.subIn K (.ref C) (.type b) else none)) = some r
  rw [if_neg (by simp), if_pos hb]
  exact h
theorem kit_to {K : PySem.W.Frag} {C : Addr} {a : String} {l : List Value} (k : Kit K C) (e : fastBuiltinMro a = some l) (hl : l.contains (.ref C) = false) : PySem.W.kitOne K (.type a) (.ref C) = some false := by
  show (if ((Value.type a == Value.ref C) = true) then some true else (if ((PySem.W.clsIn K C).isSome && PySem.W.typeIn K (.ref C) == some (.type "type")) = true then (fastBuiltinMro a).map (·.contains (.ref C)) else none)) = some false
  rw [if_neg (by simp), if_pos (by rw [k.some, k.ty]; rfl), e]
  exact congrArg some hl
theorem nf_to {K : PySem.W.Frag} {C : Addr} {a : String} {l : List Value} (e : fastBuiltinMro a = some l) (hl : l.contains (.ref C) = false) : PySem.W.notFirst K C (.type a) = true := by
  have h : PySem.W.subIn K (.type a) (.ref C) = some false := by
    show (fastBuiltinMro a).map (·.contains (.ref C)) = some false
    rw [e]
    exact congrArg some hl
  unfold PySem.W.notFirst
  rw [h]
  simp
theorem nf_self {K : PySem.W.Frag} {C : Addr} : PySem.W.notFirst K C (.ref C) = true := by
  unfold PySem.W.notFirst
  simp
/-- the name of a datum's type, where it is a built-in one -/
def Dt.ty : Dt → Option String
  | .non => some "NoneType"
  | .bl _ => some "bool"
  | .int _ => some "int"
  | .str _ => some "str"
  | .tup _ => some "tuple"
  | .lst _ => some "list"
  | .dct _ _ => some "dict"
  | .ins _ _ _ => none
/-- the type as a value -/
def Dt.tyV (cl : Nat → Addr) : Dt → Value
  | .non => .type "NoneType"
  | .bl _ => .type "bool"
  | .int _ => .type "int"
  | .str _ => .type "str"
  | .tup _ => .type "tuple"
  | .lst _ => .type "list"
  | .dct _ _ => .type "dict"
  | .ins c _ _ => .ref (cl c)
def Dt.isI : Dt → Bool | .int _ => true | .bl _ => true | _ => false
def Dt.isB : Dt → Bool | .bl _ => true | _ => false
def Dt.isS : Dt → Bool | .str _ => true | _ => false
def Dt.isT : Dt → Bool | .tup _ => true | _ => false
def Dt.isL : Dt → Bool | .lst _ => true | _ => false
def Dt.isD : Dt → Bool | .dct _ _ => true | _ => false
def Dt.isO (cl : Nat → Addr) (C : Addr) : Dt → Bool | .ins c _ _ => decide (cl c = C) | _ => false
/-- an int that is no flag -/
def Dt.isN : Dt → Bool | .int _ => true | _ => false
theorem Dt.isN_eq (d : Dt) : d.isN = (d.isI && !d.isB) := by cases d <;> rfl
/-- an int from a to b -/
def Dt.bet (a b : Int) : Dt → Bool | .int i => decide (a ≤ i) && decide (i ≤ b) | _ => false
/-- an int from a on -/
def Dt.frm (a : Int) : Dt → Bool | .int i => decide (a ≤ i) | _ => false
theorem Dt.of_isN {d : Dt} (h : d.isN = true) : ∃ i, d = .int i := by
  cases d with
  | int i => exact ⟨i, rfl⟩
  | _ => exact Bool.noConfusion h
abbrev Dt.hou (f r : Int) : Dt := .ins 0 ["floors", "room"] [.int f, .int r]
structure Kits (K : PySem.W.Frag) (cl : Nat → Addr) : Prop where
  kit : ∀ c, Kit K (cl c)
  two : ∀ c d, PySem.W.mroIn K (cl c) (.ref (cl d)) = some (decide (cl c = cl d))
theorem R.ty {K : PySem.W.Frag} {cl : Nat → Addr} {h : Addr} {H : Hp} {v : V} {d : Dt} (k : Kits K cl) (r : R cl h H v d) : TyX K H v (d.tyV cl) := by
  cases r with
  | non => exact .base .non
  | bl b => exact .base (.bl b)
  | int i => exact .base (.int i)
  | str x => exact .base (.str x)
  | tup n e r => exact .base (.tup e)
  | lst n e r => exact .base (.lst e)
  | dct n e l r => exact .base (.dK e)
  | @ins a dx c ns vs ds n e l r => exact .base (.ins e (k.kit c).cl (k.kit c).ha (k.kit c).hn (k.kit c).ht (k.kit c).hm)
theorem bm_non : fastBuiltinMro "NoneType" = some [.type "NoneType", .type "object"] := by decide +kernel
theorem bm_int : fastBuiltinMro "int" = some [.type "int", .type "object"] := by decide +kernel
theorem bm_bool : fastBuiltinMro "bool" = some [.type "bool", .type "int", .type "object"] := by decide +kernel
theorem bm_str : fastBuiltinMro "str" = some [.type "str", .type "object"] := by decide +kernel
theorem bm_list : fastBuiltinMro "list" = some [.type "list", .type "object"] := by decide +kernel
theorem bm_tup : fastBuiltinMro "tuple" = some [.type "tuple", .type "object"] := by decide +kernel
theorem bm_dict : fastBuiltinMro "dict" = some [.type "dict", .type "object"] := by decide +kernel
section
variable {K : PySem.W.Frag} {cl : Nat → Addr} {h : Addr} {H : Hp} {v : V} {d : Dt} {Q : VK}
theorem isi_int (k : Kits K cl) (r : R cl h H v d) (q : Q (.bl d.isI) H) : rIsi K [v, .ty "int"] H Q := by
  refine ⟨v, .ty "int", d.tyV cl, .type "int", d.isI, rfl, .ty _, r.ty k, ?_, q⟩
  cases d <;> first | exact kit_ty (r := true) (by decide +kernel) | exact kit_ty (r := false) (by decide +kernel) | exact kit_ot (by decide +kernel) (k.kit _).mi
theorem isi_bool (k : Kits K cl) (r : R cl h H v d) (q : Q (.bl d.isB) H) : rIsi K [v, .ty "bool"] H Q := by
  refine ⟨v, .ty "bool", d.tyV cl, .type "bool", d.isB, rfl, .ty _, r.ty k, ?_, q⟩
  cases d <;> first | exact kit_ty (r := true) (by decide +kernel) | exact kit_ty (r := false) (by decide +kernel) | exact kit_ot (by decide +kernel) (k.kit _).mb
theorem isi_boolI {i : Int} (q : Q (.bl false) H) : rIsi K [.int i, .ty "bool"] H Q := ⟨.int i, .ty "bool", .type "int", .type "bool", false, rfl, .ty _, .base (.int i), kit_ty (by decide +kernel), q⟩
theorem isi_str (k : Kits K cl) (r : R cl h H v d) (q : Q (.bl d.isS) H) : rIsi K [v, .ty "str"] H Q := by
  refine ⟨v, .ty "str", d.tyV cl, .type "str", d.isS, rfl, .ty _, r.ty k, ?_, q⟩
  cases d <;> first | exact kit_ty (r := true) (by decide +kernel) | exact kit_ty (r := false) (by decide +kernel) | exact kit_ot (by decide +kernel) (k.kit _).ms
theorem isi_tup (k : Kits K cl) (r : R cl h H v d) (q : Q (.bl d.isT) H) : rIsi K [v, .ty "tuple"] H Q := by
  refine ⟨v, .ty "tuple", d.tyV cl, .type "tuple", d.isT, rfl, .ty _, r.ty k, ?_, q⟩
  cases d <;> first | exact kit_ty (r := true) (by decide +kernel) | exact kit_ty (r := false) (by decide +kernel) | exact kit_ot (by decide +kernel) (k.kit _).mt
theorem isi_list (k : Kits K cl) (r : R cl h H v d) (q : Q (.bl d.isL) H) : rIsi K [v, .ty "list"] H Q := by
  refine ⟨v, .ty "list", d.tyV cl, .type "list", d.isL, rfl, .ty _, r.ty k, ?_, q⟩
  cases d <;> first | exact kit_ty (r := true) (by decide +kernel) | exact kit_ty (r := false) (by decide +kernel) | exact kit_ot (by decide +kernel) (k.kit _).ml
theorem isi_dict (k : Kits K cl) (r : R cl h H v d) (q : Q (.bl d.isD) H) : rIsi K [v, .ty "dict"] H Q := by
  refine ⟨v, .ty "dict", d.tyV cl, .type "dict", d.isD, rfl, .ty _, r.ty k, ?_, q⟩
  cases d <;> first | exact kit_ty (r := true) (by decide +kernel) | exact kit_ty (r := false) (by decide +kernel) | exact kit_ot (by decide +kernel) (k.kit _).md
theorem kit_oo {c d : Nat} (k : Kits K cl) : PySem.W.kitOne K (.ref (cl c)) (.ref (cl d)) = some (decide (cl c = cl d)) := by
  by_cases e : cl c = cl d
  · rw [e, decide_eq_true rfl]
    show (if ((Value.ref (cl d) == Value.ref (cl d)) = true) then some true else _) = some true
    rw [if_pos (by simp)]
  · show (if ((Value.ref (cl c) == Value.ref (cl d)) = true) then some true else (if ((PySem.W.clsIn K (cl d)).isSome && PySem.W.typeIn K (.ref (cl d)) == some (.type "type")) = true then PySem.W.mroIn K (cl c) (.ref (cl d)) else none)) = _
    rw [if_neg (by simpa using e), if_pos (by rw [(k.kit d).some, (k.kit d).ty]; rfl)]
    exact k.two c d
theorem isi_own {c : Nat} (k : Kits K cl) (r : R cl h H v d) (q : Q (.bl (d.isO cl (cl c))) H) : rIsi K [v, .ref (cl c)] H Q := by
  refine ⟨v, .ref (cl c), d.tyV cl, .ref (cl c), d.isO cl (cl c), rfl, .own _, r.ty k, ?_, q⟩
  cases d with
  | non => exact kit_to (k.kit c) bm_non rfl
  | bl b => exact kit_to (k.kit c) bm_bool rfl
  | int b => exact kit_to (k.kit c) bm_int rfl
  | str b => exact kit_to (k.kit c) bm_str rfl
  | tup b => exact kit_to (k.kit c) bm_tup rfl
  | lst b => exact kit_to (k.kit c) bm_list rfl
  | dct b l => exact kit_to (k.kit c) bm_dict rfl
  | ins c' ns l => exact kit_oo k
/-- whatever stands on the right of an own == comes behind -/
theorem R.nf {c : Nat} (k : Kits K cl) (r : R cl h H v d) : PySem.W.notFirst K (cl c) (d.tyV cl) = true := by
  cases d with
  | non => exact nf_to bm_non rfl
  | bl b => exact nf_to bm_bool rfl
  | int b => exact nf_to bm_int rfl
  | str b => exact nf_to bm_str rfl
  | tup b => exact nf_to bm_tup rfl
  | lst b => exact nf_to bm_list rfl
  | dct b l => exact nf_to bm_dict rfl
  | ins c' ns l =>
    show PySem.W.notFirst K (cl c) (.ref (cl c')) = true
    unfold PySem.W.notFirst
    by_cases e : cl c' = cl c
    · rw [e]
      simp
    · have h : PySem.W.subIn K (.ref (cl c')) (.ref (cl c)) = some false := by
        show PySem.W.mroIn K (cl c') (.ref (cl c)) = some false
        rw [k.two, decide_eq_false e]
      rw [h]
      simp
end
/-- a computed int of the module by its name -/
theorem pe_gi {X : Cx} {x : Str} {i : Int} {pos : Pos} (hg : Gl X x) (hm : ∃ t, X.mg x = some (.int i t)) (hd : (x == ("__debug__" : Str)) = false := by decide) (hcd : (x == ("__classdict__" : Str)) = false := by decide) : PE X (.Name x pos) (tC (.int i)) := by
  obtain ⟨t, e⟩ := hm
  exact pe_glob hg e ⟨t, rfl⟩ hd
end Zo

namespace Zo
open PySem L2 PySem.Spec PyProof.Rows
/-! ### an object made where what its __init__ raises is wished at the slots -/
def tMakeS (C : Addr) (sp : Sp) (E : L2.St → XK) (t : TA) : TE := fun σ H Q => t σ H fun vs H1 => ∀ x dx, H1 x = none → H1 dx = none → dx ≠ x →
  sp (.ref x :: vs) (upd (upd H1 dx (.own x)) x (.ins C dx [])) (fun v H2 => v = .non ∧ Q (.ref x) H2) (E σ)
section
variable {X : Cx} {CX : CXT} {k : Nat} {f C : Addr} {fd : FuncData} {ps : List Str} {sp : Sp} {E : L2.St → XK} {x : Str} {p pos : Pos} {e : Expr} {es : List Expr} {t : TA}
theorem run_makeS {pins : List (Addr × Obj)} {σ : L2.St} {H : Hp} {s : Shared} {Q : VK} {us : List Value} {vs : List V} (M : Mk X.K C f) (F1 : FnOk X.prog X.w X.K X.mg X.base CX k f fd ps sp) (hr : Room (k + 1) X.A) (hb : Binds X.K fd ps [])
    (hx : ∀ (pins : List (Addr × Obj)) (H : Hp) (s : Shared) (e : Value) (s' : Shared), Inv X pins σ H s → CX X.stack H s (E σ) e s' → X.xe e s') (I : Inv X pins σ H s) (r : Vals vs us)
    (h : ∀ x dx, H x = none → H dx = none → dx ≠ x → sp (.ref x :: vs) (upd (upd H dx (.own x)) x (.ins C dx [])) (fun v H2 => v = .non ∧ Q (.ref x) H2) (E σ)) :
    wpAny (model X.prog X.w) X.A (call (.ref C) us) (EP X pins σ Q) X.xe s := by
  have new := h (s.heap.objs.size + 1) s.heap.objs.size (I.hok.fresh (Nat.le_succ _)) (I.hok.fresh (Nat.le_refl _)) (Nat.ne_of_lt (Nat.lt_succ_self _))
  have J := Inv.made (C := C) I
  have rr : Vals (V.ref (s.heap.objs.size + 1) :: vs) (Value.ref (s.heap.objs.size + 1) :: us) := .cons rfl r
  have hlen : (Value.ref (s.heap.objs.size + 1) :: us).length = ps.length := rr.length.symm.trans (F1.len _ _ _ _ new)
  have bd := hb _ (Value.ref (s.heap.objs.size + 1) :: us) J.kIn (by rw [List.append_nil]; exact hlen)
  rw [List.append_nil] at bd
  refine wpAny_call (make_map (f := f) I.kIn M.makes M.init (beq_iff_eq.mp M.fn) (codeAny_mono (F1.run _ X.stack _ _ ⟨Value.ref (s.heap.objs.size + 1) :: us, []⟩ _ _ _ (E σ) (hr.make C us []) (J.env0.make C us []) bd rr new) fun r s' q => ?_))
  cases r with
  | error e => exact hx pins _ _ e s' J q
  | ok fl =>
    cases fl with
    | ret u =>
      obtain ⟨v, H', I3, rv, ev, q3⟩ := J.after q
      subst ev
      exact ⟨rv, ⟨.ref (s.heap.objs.size + 1), H', I3, rfl, q3⟩⟩
    | next => exact q.elim
    | brk => exact q.elim
    | cont => exact q.elim
theorem pe_makeS (M : Mk X.K C f) (F1 : FnOk X.prog X.w X.K X.mg X.base CX k f fd ps sp) (hr : Room (k + 1) X.A) (hg : Gl X x) (hm : X.mg x = some (.ref C)) (hb : Binds X.K fd ps [])
    (hx : ∀ σ, ∀ (pins : List (Addr × Obj)) (H : Hp) (s : Shared) (e : Value) (s' : Shared), Inv X pins σ H s → CX X.stack H s (E σ) e s' → X.xe e s')
    (ha : PA X (e :: es) t) (hdb : (x == ("__debug__" : Str)) = false := by decide) (he : starEach (e :: es) X.env = (false, eval e X.env) :: starEach es X.env := by rfl) (hpl : (backTo pos (starEach es X.env)).any (·.1) = false := by rfl) :
    PE X (.Call (.Name x p) (e :: es) [] pos) (tMakeS C sp E t) := by
  refine ⟨fun pins s σ H Q I h => ?_⟩
  refine wpAny_Call_Name_kw (ld_glob I hg hm ?_ hdb)
  exact PySem.W.callWith_K (h₀ := X.base) I.ok.mod.kin M.kp (thn (ha.run pos pins s σ H _ I h) fun us s1 ⟨vs, H1, J, r, q⟩ => ⟨J.kIn, run_makeS M F1 hr hb (hx σ) J r q⟩) he hpl
end
theorem z_makeS {C : Addr} {sp : Sp} {E : L2.St → XK} {tr : TA} {σ : L2.St} {H : Hp} {Q : VK} (h : tr σ H fun vs H1 => newO C sp (E σ) Q vs H1) : tMakeS C sp E tr σ H Q := h
theorem z_callS {sp : Sp} {E : L2.St → XK} {tr : TA} {σ : L2.St} {H : Hp} {Q : VK} (h : tr σ H fun vs H1 => sp vs H1 Q (E σ)) : tCallS sp E tr σ H Q := h
theorem z_xf {a : Addr} {cls : Value} {d : Option Addr} {C : Addr} {f : Str} {te : TE} {σ : L2.St} {H : Hp} {Q : VK} (h : te σ H fun x H1 => x = .ref a ∧ cls = .ref C ∧ ∃ (dd : Addr) (fs : List (Str × V)) (v : V), d = some dd ∧ H1 dd = some (.xd fs) ∧ fs.lookup f = some v ∧ Q v H1) : tXf a cls d C f te σ H Q := h
theorem z_eqO {K : PySem.W.Frag} {cl : Nat → Addr} {h : Addr} {H : Hp} {x y : V} {c : Nat} {ns : List Str} {ds : List Dt} {d : Dt} {sp : Sp} {E : XK} {Q : VK} (k : Kits K cl) (rx : R cl h H x (.ins c ns ds)) (ry : R cl h H y d) (q : sp [x, y] H Q E) : rEqO K (cl c) sp E x y H Q := by
  have t := ry.ty k
  have n := R.nf (c := c) k ry
  obtain ⟨a, dx, vs, rfl, _, e, _⟩ := rx.ins_inv
  exact ⟨a, dx, _, _, rfl, e, t, n, q⟩
theorem z_neO {K : PySem.W.Frag} {cl : Nat → Addr} {h : Addr} {H : Hp} {x y : V} {c : Nat} {ns : List Str} {ds : List Dt} {d : Dt} {sp : Sp} {E : XK} {Q : VK} (k : Kits K cl) (rx : R cl h H x (.ins c ns ds)) (ry : R cl h H y d)
    (q : sp [x, y] H (fun z H' => ∃ c, z = .bl c ∧ Q (.bl (!c)) H') E) : rNeO K (cl c) sp E x y H Q := by
  have t := ry.ty k
  have n := R.nf (c := c) k ry
  obtain ⟨a, dx, vs, rfl, _, e, _⟩ := rx.ins_inv
  exact ⟨a, dx, _, _, rfl, e, t, n, q⟩
/-! ### errors with one field -/
def spX1 (K : PySem.W.Frag) (C : Addr) (f : Str) : Sp := fun vs H Q _ => ∃ (a : Addr) (v : V), vs = [.ref a, v] ∧ OexC K C ∧ PySem.W.findIn K (.ref C) f = some none ∧ H a = some (exo a C none) ∧
  ∀ dx, H dx = none → dx ≠ a → Q .non (upd (upd H dx (exd dx [(f, v)])) a (exo a C (some dx)))
theorem z_ost {K : PySem.W.Frag} {C a : Addr} {f : Str} {v : V} {D : Ends} {σ : L2.St} {H : Hp} (e0 : σ[0]? = some (some (.ref a))) (e1 : σ[1]? = some (some v)) (T : OexC K C) (no : PySem.W.findIn K (.ref C) f = some none) (ha : H a = some (exo a C none))
    (k : ∀ dx, H dx = none → dx ≠ a → D.nx σ (upd (upd H dx (exd dx [(f, v)])) a (exo a C (some dx)))) : tOst K f (tVar 0) (tVar 1) D σ H :=
  ⟨v, e1, _, e0, a, C, rfl, T, no, .inl ⟨ha, k⟩⟩
/-- C(v), as it is raised -/
theorem z_raise1 {K : PySem.W.Frag} {C : Addr} {f : Str} {ta : TA} {v : V} {σ : L2.St} {H : Hp} {Q : XK} (T : OexC K C) (no : PySem.W.findIn K (.ref C) f = some none)
    (h : ta σ H fun vs H1 => ∃ v, vs = [v] ∧ ∀ d, H1 d = none → Q (.ref C) (some d) (upd H1 d (.xd [(f, v)]))) (mono : ∀ Q1 Q2 : List V → Hp → Prop, (∀ vs H, Q1 vs H → Q2 vs H) → ta σ H Q1 → ta σ H Q2) : tMkO C (spX1 K C f) [] ta σ H Q := by
  refine mono _ _ (fun vs H1 z => ?_) h
  obtain ⟨v, rfl, k⟩ := z
  refine ⟨Nat.succ_le_succ (Nat.zero_le _), fun a na => ⟨a, v, rfl, T, no, upd_same, fun dx nd ne => ⟨rfl, dx, [(f, v)], upd_same, ?_, ?_, ?_⟩⟩⟩
  · rw [upd_ne ne, upd_same]
  · rw [upd_ne ne] at nd
    exact nd
  · have nd1 : H1 dx = none := by
      rw [upd_ne ne] at nd
      exact nd
    have q := k dx nd1
    have e : upd (del (upd (upd (upd H1 a (exo a C none)) dx (exd dx [(f, v)])) a (exo a C (some dx))) a) dx (.xd [(f, v)]) = upd H1 dx (.xd [(f, v)]) := by
      funext b
      by_cases hb : b = dx
      · rw [hb, upd_same, upd_same]
      · rw [upd_ne hb, upd_ne hb]
        by_cases hc : b = a
        · rw [hc, del_same, na]
        · rw [del_ne hc, upd_ne hc, upd_ne hb, upd_ne hc]
    rw [e]
    exact q
/-- a constant alone -/
theorem z_raiseC {K : PySem.W.Frag} {C : Addr} {f : Str} {v : V} {σ : L2.St} {H : Hp} {Q : XK} (T : OexC K C) (no : PySem.W.findIn K (.ref C) f = some none) (h : ∀ d, H d = none → Q (.ref C) (some d) (upd H d (.xd [(f, v)]))) :
    tMkO C (spX1 K C f) [] (tCons (tC v) tNil) σ H Q := z_raise1 (v := v) T no ⟨v, rfl, h⟩ fun _ _ g q => g _ _ q
/-- a slot alone -/
theorem z_raiseV {K : PySem.W.Frag} {C : Addr} {f : Str} {v : V} {i : Nat} {σ : L2.St} {H : Hp} {Q : XK} (T : OexC K C) (no : PySem.W.findIn K (.ref C) f = some none) (e : σ[i]? = some (some v)) (h : ∀ d, H d = none → Q (.ref C) (some d) (upd H d (.xd [(f, v)]))) :
    tMkO C (spX1 K C f) [] (tCons (tVar i) tNil) σ H Q := z_raise1 (v := v) T no ⟨v, e, v, rfl, h⟩ fun _ _ g ⟨w, e, q⟩ => ⟨w, e, g _ _ q⟩
end Zo

namespace Zo
open PySem L2 PySem.Spec PyProof.Rows
local macro_rules | `(tactic| walk_at "z1") => `(tactic| first
  | with_reducible refine z_seq ?_
  | with_reducible refine z_asgN ?_
  | with_reducible refine z_asg ?_
  | with_reducible refine z_gname ?_
  | (with_reducible refine z_var0 ?_; refine ⟨_, rfl, ?_⟩)
  | with_reducible refine z_c ?_
  | with_reducible refine z_op ?_
  | with_reducible refine z_un ?_
  | with_reducible refine z_I0 ?_
  | with_reducible refine z_eqI ?_
  | with_reducible refine z_neI ?_
  | with_reducible refine iteF ?_
  | with_reducible refine iteT ?_
  | with_reducible refine iteNT ?_
  | with_reducible refine iteNF ?_
  | with_reducible refine z_U ?_
  | with_reducible refine z_cons ?_
  | with_reducible refine z_nil ?_
  | with_reducible refine z_call ?_
  | with_reducible refine z_CB ?_
  | with_reducible refine z_bl ?_
  | with_reducible refine z_int ?_
  | with_reducible refine z_test ?_
  | with_reducible refine z_B ?_
  | with_reducible refine z_not ?_
  | with_reducible refine z_and ?_
  | with_reducible refine z_or ?_
  | with_reducible refine z_andV ?_
  | with_reducible refine z_orV ?_
  | with_reducible refine z_notV ?_
  | with_reducible refine z_chain ?_
  | with_reducible refine z_ifE ?_
  | with_reducible refine z_if ?_
  | with_reducible refine z_drop ?_
  | with_reducible refine z_ret ?_
  | with_reducible refine z_retN ?_
  | with_reducible refine z_next ?_
  | with_reducible refine z_brk ?_
  | with_reducible refine z_cont ?_
  | with_reducible refine z_sl ?_
  | with_reducible refine z_lc ?_
  | with_reducible refine z_iL ?_
  | with_reducible refine z_iT ?_
  | with_reducible refine z_par ?_
  | with_reducible refine z_two ?_
  | with_reducible refine z_gcons ?_
  | with_reducible refine z_gnil ?_
  | with_reducible refine z_make ?_
  | with_reducible refine z_makeS ?_
  | with_reducible refine z_callS ?_
  | with_reducible refine z_xf ?_
  | with_reducible refine z_tupI ?_
  | with_reducible refine z_sf ?_
  | with_reducible refine z_fld ?_
  | with_reducible refine z_for ?_
  | with_reducible refine z_r1 ?_
  | with_reducible refine z_r2 ?_
  | with_reducible refine z_yes ?_
  | with_reducible refine z_gsub ?_
  | with_reducible refine z_noPart ?_
  | with_reducible refine z_part ?_
  | with_reducible refine z_lstI ?_)
local macro_rules | `(tactic| walk_at "zs") => `(tactic| repeat (walk_at "z1"))
def top (i : Nat) : Stmt := PySem.Challenge.pw_willinglift_k01_houses_judged.main.body.getD i (.Pass ⟨0, 0, 0, 0⟩)
abbrev s__law_hand : Stmt := (top 11)
abbrev s_is_integer : Stmt := (top 1)
abbrev s_is_between : Stmt := (top 2)
abbrev s_BadHouse___init__ : Stmt := (inClass (top 5) 0)
abbrev s_House___init__ : Stmt := (inClass (top 9) 0)
abbrev s__law_told : Stmt := (top 18)
abbrev s_House___eq__ : Stmt := (inClass (top 9) 1)
abbrev s__law_draw : Stmt := (top 12)
abbrev s__law_some : Stmt := (top 14)
abbrev s__law_great : Stmt := (top 13)
abbrev s__law_deep : Stmt := (top 15)
abbrev s__law_part : Stmt := (top 17)
abbrev s__law_is_int : Stmt := (top 16)
abbrev s_law : Stmt := (top 19)
structure Ad where
  c_LiftError : Addr
  c_BadHouse : Addr
  c_House : Addr
  a__law_hand : Addr
  d__law_hand : FuncData
  a_is_integer : Addr
  d_is_integer : FuncData
  a_is_between : Addr
  d_is_between : FuncData
  a_BadHouse___init__ : Addr
  d_BadHouse___init__ : FuncData
  a_House___init__ : Addr
  d_House___init__ : FuncData
  a__law_told : Addr
  d__law_told : FuncData
  a_House___eq__ : Addr
  d_House___eq__ : FuncData
  a__law_draw : Addr
  d__law_draw : FuncData
  a__law_some : Addr
  d__law_some : FuncData
  a__law_great : Addr
  d__law_great : FuncData
  a__law_deep : Addr
  d__law_deep : FuncData
  a__law_part : Addr
  d__law_part : FuncData
  a__law_is_int : Addr
  d__law_is_int : FuncData
  a_law : Addr
  d_law : FuncData
def Ad.cl (A : Ad) : Nat → Addr
  | _ => A.c_House
structure Txt (K : PySem.W.Frag) (mg : Str → Option Value) (A : Ad) : Prop where
  g_LiftError : mg "LiftError" = some (.ref A.c_LiftError)
  g_BadHouse : mg "BadHouse" = some (.ref A.c_BadHouse)
  g_House : mg "House" = some (.ref A.c_House)
  F__law_hand : Fun K "_law_hand" "_law_hand" s__law_hand A.a__law_hand A.d__law_hand
  g__law_hand : mg "_law_hand" = some (.ref A.a__law_hand)
  b__law_hand : Binds K A.d__law_hand ["script"] []
  F_is_integer : Fun K "is_integer" "is_integer" s_is_integer A.a_is_integer A.d_is_integer
  g_is_integer : mg "is_integer" = some (.ref A.a_is_integer)
  b_is_integer : Binds K A.d_is_integer ["thing"] []
  F_is_between : Fun K "is_between" "is_between" s_is_between A.a_is_between A.d_is_between
  g_is_between : mg "is_between" = some (.ref A.a_is_between)
  b_is_between : Binds K A.d_is_between ["low", "high", "thing"] []
  F_BadHouse___init__ : Fun K "__init__" "BadHouse.__init__" s_BadHouse___init__ A.a_BadHouse___init__ A.d_BadHouse___init__
  b_BadHouse___init__ : Binds K A.d_BadHouse___init__ ["self", "part"] []
  F_House___init__ : Fun K "__init__" "House.__init__" s_House___init__ A.a_House___init__ A.d_House___init__
  b_House___init__ : Binds K A.d_House___init__ ["self", "floors", "room"] []
  F__law_told : Fun K "_law_told" "_law_told" s__law_told A.a__law_told A.d__law_told
  g__law_told : mg "_law_told" = some (.ref A.a__law_told)
  b__law_told : Binds K A.d__law_told ["floors", "room"] []
  F_House___eq__ : Fun K "__eq__" "House.__eq__" s_House___eq__ A.a_House___eq__ A.d_House___eq__
  b_House___eq__ : Binds K A.d_House___eq__ ["self", "other"] []
  F_House___eq__i : PySem.W.isFn K (.ref A.a_House___eq__) = true
  F__law_draw : Fun K "_law_draw" "_law_draw" s__law_draw A.a__law_draw A.d__law_draw
  g__law_draw : mg "_law_draw" = some (.ref A.a__law_draw)
  b__law_draw : Binds K A.d__law_draw ["hand", "many"] []
  F__law_some : Fun K "_law_some" "_law_some" s__law_some A.a__law_some A.d__law_some
  g__law_some : mg "_law_some" = some (.ref A.a__law_some)
  b__law_some : Binds K A.d__law_some ["hand", "things"] []
  F__law_great : Fun K "_law_great" "_law_great" s__law_great A.a__law_great A.d__law_great
  g__law_great : mg "_law_great" = some (.ref A.a__law_great)
  b__law_great : Binds K A.d__law_great ["hand", "most"] []
  F__law_deep : Fun K "_law_deep" "_law_deep" s__law_deep A.a__law_deep A.d__law_deep
  g__law_deep : mg "_law_deep" = some (.ref A.a__law_deep)
  b__law_deep : Binds K A.d__law_deep ["kind"] []
  F__law_part : Fun K "_law_part" "_law_part" s__law_part A.a__law_part A.d__law_part
  g__law_part : mg "_law_part" = some (.ref A.a__law_part)
  b__law_part : Binds K A.d__law_part ["hand", "most", "house"] []
  F__law_is_int : Fun K "_law_is_int" "_law_is_int" s__law_is_int A.a__law_is_int A.d__law_is_int
  g__law_is_int : mg "_law_is_int" = some (.ref A.a__law_is_int)
  b__law_is_int : Binds K A.d__law_is_int ["thing", "least", "most"] []
  F_law : Fun K "law" "law" s_law A.a_law A.d_law
  g_law : mg "law" = some (.ref A.a_law)
  b_law : Binds K A.d_law ["script"] []
  mk_House : Mk K A.c_House A.a_House___init__
  eq_House : PySem.W.findIn K (.ref A.c_House) "__eq__" = some (some (.ref A.a_House___eq__))
  ne_House : PySem.W.findIn K (.ref A.c_House) "__ne__" = some (some (.builtin "object.__ne__"))
  ob_House : PySem.W.mroIn K A.c_House (.type "object") = some true
  na_House_floors : NoAttr K A.c_House "floors"
  na_House_room : NoAttr K A.c_House "room"
  kits : Kits K A.cl
  oe_BadHouse : OexC K A.c_BadHouse
  i_BadHouse : PySem.W.findIn K (.ref A.c_BadHouse) "__init__" = some (some (.ref A.a_BadHouse___init__))
  t_BadHouse : PySem.W.typeIn K (.ref A.a_BadHouse___init__) = some (.type "function")
  xf_BadHouse : XfC K A.c_BadHouse
  no_BadHouse : PySem.W.findIn K (.ref A.c_BadHouse) "part" = some none
  em_BadHouse_BadHouse : PySem.W.exmOne K (.ref A.c_BadHouse) (.ref A.c_BadHouse) = some true
  c_MOST_FLOORS : ∃ t, mg "MOST_FLOORS" = some (.int 40 t)
  c_MOST_ROOM : ∃ t, mg "MOST_ROOM" = some (.int 1000000000000 t)
  n_abs : mg "abs" = none
  n_bool : mg "bool" = none
  n_int : mg "int" = none
  n_isinstance : mg "isinstance" = none
  n_len : mg "len" = none
  n_range : mg "range" = none
section
variable {P : Program} {w : World} {K : PySem.W.Frag} {mg : Str → Option Value} {base : Heap} {A : Ad}
theorem sc__law_hand : FnScope ["script", "cells", "cell"] ["script"] (defScope s__law_hand) := ⟨rfl, rfl, rfl, by decide +kernel, rfl, by decide +kernel, by decide +kernel⟩
def sp__law_hand (K : PySem.W.Frag) (A : Ad) : Sp := fun vs H Q E =>
  ∃ (a : Addr) (ns : List Int), vs = [.ref a] ∧ SqL K H a (ns.map V.int) ∧ ns.length ≤ 63 ∧ ∀ (h c : Addr) (H' : Hp), Same H H' → Hd h c H' → H h = none → H c = none → Q (.ref h) H'
theorem G__law_hand (T : Txt K mg A) : FnOk P w K mg base CX0 1 A.a__law_hand A.d__law_hand ["script"] (sp__law_hand K A) := by
  refine T.F__law_hand.ok sc__law_hand (fun vs H Q E h => ?_) (fun cdv A' outer s H vs Q E hr h => ?_)
  · obtain ⟨_, _, rfl, _⟩ := h; rfl
  · obtain ⟨a, ns, rfl, hS, hl, k⟩ := h
    refine ⟨_, ((pss_cons (ps_setLc (i := 1) (own := [("cell", 2)]) (g := gName 2) rfl sc__law_hand.nd rfl rfl (sw_true rfl rfl rfl (by decide +kernel)) (pi_list (pe_slice sl_list (pv 0) po_none (po_some pe_int))) (blkOk_by (own := [("cell", 2)]) (N := ["script", "cells", "cell"]) (sc := defScope s__law_hand) (by decide +kernel)) (fun _ _ _ _ _ => (pg_name (i := 2) sc__law_hand.nd rfl (Or.inl rfl))) (fun _ _ _ _ _ => pts_nil) (fun _ _ _ _ _ => (pe_callB call_abs (by rfl) T.n_abs (by decide +kernel) (pa_cons (pe_callTy call_int1 (by rfl) T.n_int (by decide +kernel) (pa_cons (pv 2) pa_nil)) pa_nil))))
          (pss_one (ps_ret (pe_lst (pa_cons (pv 1) (pa_cons pe_int (pa_cons pe_int (pa_cons (pe_op op_add pe_int (pe_callB call_len_seq (by rfl) T.n_len (by decide +kernel) (pa_cons (pv 1) pa_nil))) (pa_cons pe_int pa_nil)))))))))), ?_⟩
    dsimp only [cxOf, Cx.nox]
    (walk_at "zs")
    refine z_slL hS fun b hb => ?_
    rw [cutV_all (by rw [List.length_map]; omega)]
    (walk_at "zs")
    refine ⟨b, rfl, ⟨_, .inl (.inl upd_same)⟩, fun D hD => lc_list (xs := ns.map V.int) (fun i H2 => H2 b = some (.lst (ns.map V.int)) ∧ H2 D = some (.lst ((ns.take i).map fun n => V.int (if n < 0 then -n else n))) ∧ Same H H2) ?_ (fun i H2 _ p => .inl (.inl p.1)) ?_ ?_⟩
    · have nbD : b ≠ D := fun q => by
        rw [← q, upd_same] at hD
        cases hD
      have hDn : H D = none := by
        rw [upd_ne nbD.symm] at hD
        exact hD
      refine ⟨by rw [upd_ne nbD, upd_same], by rw [upd_same]; rfl, fun q o e => ?_⟩
      rw [upd_ne (ne_of_none e hDn), upd_ne (ne_of_none e hb)]
      exact e
    · intro i x H2 hx p
      obtain ⟨n, hn, rfl⟩ : ∃ n, ns[i]? = some n ∧ x = V.int n := by
        rw [List.getElem?_map] at hx
        cases e : ns[i]? with
        | none => rw [e] at hx; cases hx
        | some n => rw [e] at hx; exact ⟨n, rfl, (Option.some.inj hx).symm⟩
      refine z_gname ⟨rfl, ?_⟩
      (walk_at "zs")
      refine .inl ⟨_, rfl, ?_⟩
      (walk_at "zs")
      refine ⟨_, rfl, _, p.2.1, ?_, ?_⟩
      · rw [List.length_map, List.length_take]
        exact Nat.lt_of_le_of_lt (Nat.le_trans (Nat.min_le_right _ _) hl) (by decide)
      · have nbD : b ≠ D := fun q => by
          rw [← q, upd_same] at hD
          cases hD
        have hDn : H D = none := by
          rw [upd_ne nbD.symm] at hD
          exact hD
        refine ⟨by rw [upd_ne nbD]; exact p.1, ?_, fun q o e => ?_⟩
        · rw [upd_same, take_one hn, List.map_append]
          rfl
        · rw [upd_ne (ne_of_none e hDn)]
          exact p.2.2 q o e
    · intro H2 p
      rw [List.length_map, List.take_length] at p
      have nbD : b ≠ D := fun q => by
        rw [← q, upd_same] at hD
        cases hD
      have hDn : H D = none := by
        rw [upd_ne nbD.symm] at hD
        exact hD
      (walk_at "zs")
      refine ⟨_, _, rfl, .inl (.inl (.inl p.2.1)), ?_⟩
      (walk_at "zs")
      refine ⟨by show 5 ≤ sizeLine; decide, fun q hq => k q D _ ?_ ?_ (p.2.2.free hq) hDn⟩
      · intro a' o e
        rw [upd_ne (ne_of_none (p.2.2 _ _ e) hq)]
        exact p.2.2 _ _ e
      · have nDq : D ≠ q := fun z => by
          rw [← z, p.2.1] at hq
          cases hq
        refine ⟨nDq, ns.map fun n => if n < 0 then -n else n, 0, 0, _, 0, upd_same, ?_, by rw [List.length_map]; exact hl, fun n hn => ?_, Int.le_refl _, ?_, ?_, Int.le_refl _⟩
        · rw [upd_ne nDq, p.2.1, List.map_map]
          rfl
        · obtain ⟨m, _, rfl⟩ := List.mem_map.mp hn
          split <;> omega
        · rw [List.length_map]
          omega
        · rw [List.length_map]
          omega
theorem sc_is_integer : FnScope ["thing"] ["thing"] (defScope s_is_integer) := ⟨rfl, rfl, rfl, by decide +kernel, rfl, by decide +kernel, by decide +kernel⟩
def sp_is_integer (K : PySem.W.Frag) (A : Ad) : Sp := fun vs H Q E =>
  ∃ (h : Addr) (v : V) (d : Dt), vs = [v] ∧ R A.cl h H v d ∧ Q (.bl d.isN) H
theorem G_is_integer (T : Txt K mg A) : FnOk P w K mg base CX0 1 A.a_is_integer A.d_is_integer ["thing"] (sp_is_integer K A) := by
  refine T.F_is_integer.ok sc_is_integer (fun vs H Q E h => ?_) (fun cdv A' outer s H vs Q E hr h => ?_)
  · obtain ⟨_, _, _, rfl, _⟩ := h; rfl
  · obtain ⟨h, v, d, rfl, r, k⟩ := h
    refine ⟨_, ((pss_one (ps_ret (pe_and (pe_callB call_isi (by rfl) T.n_isinstance (by decide +kernel) (pa_cons (pv 0) (pa_cons (pe_bltn (v := .ty "int") (by rfl) T.n_int (by decide +kernel) rfl) pa_nil))) (pe_one (pe_not (pe_callB call_isi (by rfl) T.n_isinstance (by decide +kernel) (pa_cons (pv 0) (pa_cons (pe_bltn (v := .ty "bool") (by rfl) T.n_bool (by decide +kernel) rfl) pa_nil))))))))), ?_⟩
    dsimp only [cxOf, Cx.nox]
    rw [d.isN_eq] at k
    (walk_at "zs")
    refine isi_int T.kits r ?_
    (walk_at "zs")
    refine z_iteB (fun e => ?_) (fun e => ?_)
    · (walk_at "zs")
      refine isi_bool T.kits r ?_
      (walk_at "zs")
      rw [e] at k
      exact k
    · rw [e] at k
      exact k
theorem sc_is_between : FnScope ["low", "high", "thing"] ["low", "high", "thing"] (defScope s_is_between) := ⟨rfl, rfl, rfl, by decide +kernel, rfl, by decide +kernel, by decide +kernel⟩
def sp_is_between (K : PySem.W.Frag) (A : Ad) : Sp := fun vs H Q E =>
  ∃ (h : Addr) (v : V) (d : Dt) (a b : Int), vs = [.int a, .int b, v] ∧ R A.cl h H v d ∧ Q (.bl (d.bet a b)) H
theorem G_is_between (T : Txt K mg A) : FnOk P w K mg base CX0 2 A.a_is_between A.d_is_between ["low", "high", "thing"] (sp_is_between K A) := by
  refine T.F_is_between.ok sc_is_between (fun vs H Q E h => ?_) (fun cdv A' outer s H vs Q E hr h => ?_)
  · obtain ⟨_, _, _, _, _, rfl, _⟩ := h; rfl
  · obtain ⟨h, v, d, a, b, rfl, r, k⟩ := h
    refine ⟨_, ((pss_one (ps_ret (pe_and (pe_call (G_is_integer T) (hr.mono (by decide)) rfl T.g_is_integer T.F_is_integer.kp T.b_is_integer .nil pass0 (pa_cons (pv 2) pa_nil)) (pe_one (pe_chain op_le op_le (pv 0) (pv 2) (pv 1))))))), ?_⟩
    dsimp only [cxOf, Cx.nox]
    (walk_at "zs")
    refine ⟨h, v, d, rfl, r, ?_⟩
    (walk_at "zs")
    refine z_iteB (fun e => ?_) (fun e => ?_)
    · obtain ⟨i, rfl⟩ := Dt.of_isN e
      cases r
      (walk_at "zs")
      refine z_ite (fun e1 => ?_) (fun e1 => ?_)
      · (walk_at "zs")
        have q : (Dt.int i).bet a b = decide (i ≤ b) := by show (decide (a ≤ i) && decide (i ≤ b)) = _; rw [decide_eq_true e1]; rfl
        rw [q] at k
        exact k
      · have q : (Dt.int i).bet a b = false := by show (decide (a ≤ i) && decide (i ≤ b)) = _; rw [decide_eq_false e1]; rfl
        rw [q] at k
        exact k
    · have q : d.bet a b = false := by cases d <;> first | rfl | (exact Bool.noConfusion e)
      rw [q] at k
      exact k
theorem sc_BadHouse___init__ : FnScope ["self", "part"] ["self", "part"] (defScope s_BadHouse___init__) := ⟨rfl, rfl, rfl, by decide +kernel, rfl, by decide +kernel, by decide +kernel⟩
theorem G_BadHouse___init__ (T : Txt K mg A) : FnOk P w K mg base CX0 1 A.a_BadHouse___init__ A.d_BadHouse___init__ ["self", "part"] (spX1 K A.c_BadHouse "part") := by
  refine T.F_BadHouse___init__.ok sc_BadHouse___init__ (fun vs H Q E h => ?_) (fun cdv A' outer s H vs Q E hr h => ?_)
  · obtain ⟨_, _, rfl, _⟩ := h
    rfl
  · obtain ⟨a, v, rfl, T1, no, ha, k⟩ := h
    refine ⟨_, ((pss_one (ps_ost (pv 0) (pv 1)))), z_ost rfl rfl T1 no ha k⟩
theorem sc_House___init__ : FnScope ["self", "floors", "room"] ["self", "floors", "room"] (defScope s_House___init__) := ⟨rfl, rfl, rfl, by decide +kernel, rfl, by decide +kernel, by decide +kernel⟩
def sp_House___init__ (K : PySem.W.Frag) (A : Ad) : Sp := fun vs H Q E =>
  ∃ (h : Addr) (x dx : Addr) (fv rv : V) (fd rd : Dt), vs = [.ref x, fv, rv] ∧ H x = some (.ins A.c_House dx []) ∧ R A.cl h H fv fd ∧ R A.cl h H rv rd ∧
  (fd.bet 2 40 = false → ∀ d, H d = none → E (.ref A.c_BadHouse) (some d) (upd H d (.xd [("part", .str "floors")]))) ∧
  (fd.bet 2 40 = true → rd.bet 1 1000000000000 = false → ∀ d, H d = none → E (.ref A.c_BadHouse) (some d) (upd H d (.xd [("part", .str "room")]))) ∧
  (fd.bet 2 40 = true → rd.bet 1 1000000000000 = true → Q .non (upd H x (.ins A.c_House dx [("floors", fv), ("room", rv)])))
theorem G_House___init__ (T : Txt K mg A) : FnOk P w K mg base (L2.CX P w) 3 A.a_House___init__ A.d_House___init__ ["self", "floors", "room"] (sp_House___init__ K A) := by
  refine T.F_House___init__.okX sc_House___init__ (fun vs H Q E h => ?_) (fun cdv A' outer s H vs Q E hr h => ?_)
  · obtain ⟨_, _, _, _, _, _, _, rfl, _⟩ := h; rfl
  · obtain ⟨h, x, dx, fv, rv, fd, rd, rfl, hx, r1, r2, k1, k2, k3⟩ := h
    refine ⟨_, ((pss_cons (ps_if (pt_not (pt_val (pe_call (G_is_between T) (hr.mono (by decide)) rfl T.g_is_between T.F_is_between.kp T.b_is_between .nil pass0 (pa_cons pe_int (pa_cons (pe_gi rfl T.c_MOST_FLOORS) (pa_cons (pv 1) pa_nil)))))) (pss_one (ps_raise rfl (takes_of rfl rfl rfl rfl) (pmk_oex T.oe_BadHouse T.i_BadHouse T.t_BadHouse (G_BadHouse___init__ T) (hr.mono (by decide)) T.b_BadHouse___init__ .nil pass0 rfl T.g_BadHouse (pa_cons pe_str pa_nil)))) pss_nil)
          (pss_cons (ps_if (pt_not (pt_val (pe_call (G_is_between T) (hr.mono (by decide)) rfl T.g_is_between T.F_is_between.kp T.b_is_between .nil pass0 (pa_cons pe_int (pa_cons (pe_gi rfl T.c_MOST_ROOM) (pa_cons (pv 2) pa_nil)))))) (pss_one (ps_raise rfl (takes_of rfl rfl rfl rfl) (pmk_oex T.oe_BadHouse T.i_BadHouse T.t_BadHouse (G_BadHouse___init__ T) (hr.mono (by decide)) T.b_BadHouse___init__ .nil pass0 rfl T.g_BadHouse (pa_cons pe_str pa_nil)))) pss_nil)
          (pss_cons (ps_fld (pv 0) (pv 1) rfl)
          (pss_one (ps_fld (pv 0) (pv 2) rfl)))))), ?_⟩
    dsimp only [cxOf, Cx.nox]
    (walk_at "zs")
    refine ⟨h, fv, fd, _, _, rfl, r1, ?_⟩
    (walk_at "zs")
    refine z_iteN (fun e1 => ?_) (fun e1 => ?_)
    · exact z_raiseC T.oe_BadHouse T.no_BadHouse (k1 e1)
    · (walk_at "zs")
      refine ⟨h, rv, rd, _, _, rfl, r2, ?_⟩
      (walk_at "zs")
      refine z_iteN (fun e2 => ?_) (fun e2 => ?_)
      · exact z_raiseC T.oe_BadHouse T.no_BadHouse (k2 e1 e2)
      · (walk_at "zs")
        refine ⟨x, _, dx, _, rfl, hx, (T.kits.kit 0).cl, T.na_House_floors, by decide, ?_⟩
        (walk_at "zs")
        refine ⟨x, _, dx, _, rfl, upd_same, (T.kits.kit 0).cl, T.na_House_room, by show 1 < 1000; decide, ?_⟩
        (walk_at "zs")
        rw [upd_upd, putF_one, putF_more _ _ _ (by decide +kernel)]
        exact k3 e1 e2
theorem z_house {h c : Addr} {H : Hp} {fv rv : V} {fd rd : Dt} {Q : VK} {E : XK} (hd : Hd h c H) (r1 : R A.cl h H fv fd) (r2 : R A.cl h H rv rd) (e1 : fd.bet 2 40 = true) (e2 : rd.bet 1 1000000000000 = true)
    (q : ∀ x H', Go h c H H' → H x = none → R A.cl h H' (.ref x) (.ins 0 ["floors", "room"] [fd, rd]) → Q (.ref x) H') :
    newO A.c_House (sp_House___init__ K A) E Q [fv, rv] H := by
  intro x dx nx nd ne
  have g0 := Go.ins0 (o := .ins A.c_House dx []) hd nx nd
  refine ⟨h, x, dx, fv, rv, fd, rd, rfl, upd_same, g0.r r1, g0.r r2, fun z => ?_, fun _ z => ?_, fun _ _ => ⟨rfl, ?_⟩⟩
  · rw [e1] at z
    cases z
  · rw [e2] at z
    cases z
  · exact q x _ (Go.ins hd nx nd) nx (R.newI (cl := A.cl) (k := 0) (ns := ["floors", "room"]) hd nx nd (.cons r1 (.cons r2 .nil)) rfl)
theorem sc__law_told : FnScope ["floors", "room", "told", "e"] ["floors", "room"] (defScope s__law_told) := ⟨rfl, rfl, rfl, by decide +kernel, rfl, by decide +kernel, by decide +kernel⟩
def sp__law_told (K : PySem.W.Frag) (A : Ad) : Sp := fun vs H Q E =>
  ∃ (h c : Addr) (fv rv : V) (fd rd : Dt), vs = [fv, rv] ∧ Hd h c H ∧ R A.cl h H fv fd ∧ R A.cl h H rv rd ∧
  ∀ (v : V) (H' : Hp), Go h c H H' → R A.cl h H' v (if fd.bet 2 40 = true then (if rd.bet 1 1000000000000 = true then .tup [.str "house", .ins 0 ["floors", "room"] [fd, rd]] else .tup [.str "bad", .str "room"]) else .tup [.str "bad", .str "floors"]) → Q v H'
theorem G__law_told (T : Txt K mg A) : FnOk P w K mg base CX0 5 A.a__law_told A.d__law_told ["floors", "room"] (sp__law_told K A) := by
  refine T.F__law_told.ok sc__law_told (fun vs H Q E h => ?_) (fun cdv A' outer s H vs Q E hr h => ?_)
  · obtain ⟨_, _, _, _, _, _, rfl, _⟩ := h; rfl
  · obtain ⟨h, c, fv, rv, fd, rd, rfl, hd, r1, r2, q⟩ := h
    refine ⟨_, ((pss_cons (ps_set (i := 2) sc__law_told.nd rfl (Or.inl rfl) pe_non)
          (pss_cons (ps_try_as (i := 3) (tb := fun W => (tAsg (tTup (tCons (tC (.str "house")) (tCons (tMakeS A.c_House (sp_House___init__ K A) (WE W) (tCons (tVar 0) (tCons (tVar 1) tNil))) tNil))) (gName 2))) (ts := fun a cls d => (tAsg (tTup (tCons (tC (.str "bad")) (tCons (tXf a cls d A.c_BadHouse "part" (tVar 3)) tNil))) (gName 2))) (Wout := fun _ _ _ _ => False) rfl rfl sc__law_told.nd rfl rfl ⟨rfl, by decide, .inl T.g_BadHouse⟩ takes0 (fun W pn xe tk _ => by exact (pss_one (ps_set (i := 2) sc__law_told.nd rfl (Or.inl rfl) (pe_tup (pa_cons pe_str (pa_cons (pe_makeS T.mk_House (G_House___init__ T) (hr.mono (by decide)) rfl T.g_House T.b_House___init__ (fun σ => passAt tk σ) (by exact (pa_cons (pv 0) (pa_cons (pv 1) pa_nil)))) pa_nil)))))) (fun a oe cls d pn hz hf => by exact (pss_one (ps_set (i := 2) sc__law_told.nd rfl (Or.inl rfl) (pe_tup (pa_cons pe_str (pa_cons (pe_xf T.xf_BadHouse T.no_BadHouse hz hf (by exact (pv 3))) pa_nil)))))))
          (pss_one (ps_ret (pv 2)))))), ?_⟩
    dsimp only [cxOf, Cx.nox]
    (walk_at "zs")
    intro x dx nx nd ne
    have g0 := Go.ins0 (o := .ins A.c_House dx []) hd nx nd
    have hd0 := g0.2 hd
    refine ⟨h, x, dx, fv, rv, fd, rd, rfl, upd_same, g0.r r1, g0.r r2, fun e1 d hdn => ?_, fun e1 e2 d hdn => ?_, fun e1 e2 => ⟨rfl, ?_⟩⟩
    · rw [e1] at q
      refine ⟨true, T.em_BadHouse_BadHouse, fun _ a na => ?_, fun z => Bool.noConfusion z⟩
      have g1 := Go.new (o := .xd [("part", .str "floors")]) hd0 hdn
      (walk_at "zs")
      refine ⟨rfl, rfl, d, _, _, rfl, upd_same, lk_fst, ?_⟩
      (walk_at "zs")
      refine z_newT (cl := A.cl) (g1.2 hd0) (.cons (.str _) (.cons (.str _) .nil)) fun p2 H2 g2 _ r2' => ?_
      (walk_at "zs")
      exact q _ _ ((g0.trans g1).trans g2) r2'
    · rw [e1, e2] at q
      refine ⟨true, T.em_BadHouse_BadHouse, fun _ a na => ?_, fun z => Bool.noConfusion z⟩
      have g1 := Go.new (o := .xd [("part", .str "room")]) hd0 hdn
      (walk_at "zs")
      refine ⟨rfl, rfl, d, _, _, rfl, upd_same, lk_fst, ?_⟩
      (walk_at "zs")
      refine z_newT (cl := A.cl) (g1.2 hd0) (.cons (.str _) (.cons (.str _) .nil)) fun p2 H2 g2 _ r2' => ?_
      (walk_at "zs")
      exact q _ _ ((g0.trans g1).trans g2) r2'
    · rw [e1, e2] at q
      have g1 := Go.ins (o := .ins A.c_House dx []) (o' := .ins A.c_House dx [("floors", fv), ("room", rv)]) hd nx nd
      have r3 : R A.cl h (upd (upd (upd H dx (.own x)) x (.ins A.c_House dx [])) x (.ins A.c_House dx [("floors", fv), ("room", rv)])) (.ref x) (.ins 0 ["floors", "room"] [fd, rd]) :=
        R.newI (cl := A.cl) (k := 0) (ns := ["floors", "room"]) hd nx nd (.cons r1 (.cons r2 .nil)) rfl
      (walk_at "zs")
      refine z_newT (cl := A.cl) (g1.2 hd) (.cons (.str _) (.cons r3 .nil)) fun p2 H2 g2 _ r2' => ?_
      (walk_at "zs")
      exact q _ _ (g1.trans g2) r2'
theorem sc_House___eq__ : FnScope ["self", "other"] ["self", "other"] (defScope s_House___eq__) := ⟨rfl, rfl, rfl, by decide +kernel, rfl, by decide +kernel, by decide +kernel⟩
def sp_House___eq__ (K : PySem.W.Frag) (A : Ad) : Sp := fun vs H Q E =>
  ∃ (h : Addr) (v v' : V) (f r : Int) (d : Dt), vs = [v, v'] ∧ R A.cl h H v (.ins 0 ["floors", "room"] [.int f, .int r]) ∧ R A.cl h H v' d ∧ (d.isO A.cl A.c_House = true → ∃ f' r', d = .ins 0 ["floors", "room"] [.int f', .int r']) ∧
  ∀ b : Bool, (b = true ↔ d = .ins 0 ["floors", "room"] [.int f, .int r]) → Q (.bl b) H
theorem G_House___eq__ (T : Txt K mg A) : FnOk P w K mg base CX0 1 A.a_House___eq__ A.d_House___eq__ ["self", "other"] (sp_House___eq__ K A) := by
  refine T.F_House___eq__.ok sc_House___eq__ (fun vs H Q E h => ?_) (fun cdv A' outer s H vs Q E hr h => ?_)
  · obtain ⟨_, _, _, _, _, _, rfl, _⟩ := h; rfl
  · obtain ⟨h, v, v', f, r, d, rfl, rx, rv, hd, k⟩ := h
    refine ⟨_, ((pss_one (ps_ret (pe_and (pe_callB call_isi (by rfl) T.n_isinstance (by decide +kernel) (pa_cons (pv 1) (pa_cons (pe_glob (v := .ref A.c_House) (by rfl) T.g_House rfl) pa_nil))) (pe_and (pe_cmpR op_eq (pe_fld (pv 0) rfl) (pe_fld (pv 1) rfl) (nomark _)) (pe_one (pe_cmpR op_eq (pe_fld (pv 0) rfl) (pe_fld (pv 1) rfl) (nomark _)))))))), ?_⟩
    dsimp only [cxOf, Cx.nox]
    (walk_at "zs")
    refine isi_own (c := 0) T.kits rv ?_
    (walk_at "zs")
    refine z_iteB (fun e => ?_) (fun e => ?_)
    · obtain ⟨f', r', rfl⟩ := hd e
      obtain ⟨x, dx, xs, rfl, _, hx, rs, _⟩ := rx.ins_inv
      obtain ⟨_, _, rfl, q1, q2⟩ := rs.two
      cases q1
      cases q2
      obtain ⟨y, dy, ys, rfl, _, hy, rt, _⟩ := rv.ins_inv
      obtain ⟨_, _, rfl, q1, q2⟩ := rt.two
      cases q1
      cases q2
      have nr : ¬ ("room" : Str) = "floors" := by decide +kernel
      (walk_at "zs")
      refine ⟨x, _, dx, _, _, rfl, hx, (T.kits.kit 0).cl, T.na_House_floors, lk_fst, ?_⟩
      (walk_at "zs")
      refine ⟨y, _, dy, _, _, rfl, hy, (T.kits.kit 0).cl, T.na_House_floors, lk_fst, ?_⟩
      (walk_at "zs")
      refine z_ite (fun e1 => ?_) (fun e1 => ?_)
      · (walk_at "zs")
        refine ⟨x, _, dx, _, _, rfl, hx, (T.kits.kit 0).cl, T.na_House_room, (lk_nxt nr).trans lk_fst, ?_⟩
        (walk_at "zs")
        refine ⟨y, _, dy, _, _, rfl, hy, (T.kits.kit 0).cl, T.na_House_room, (lk_nxt nr).trans lk_fst, ?_⟩
        (walk_at "zs")
        refine k _ ?_
        rw [decide_eq_true_iff, e1]
        exact ⟨fun z => by rw [z], fun z => by injection z with _ _ z; injection z with _ z; injection z with z _; injection z with z; exact z.symm⟩
      · (walk_at "zs")
        refine k _ ⟨fun z => Bool.noConfusion z, fun z => absurd ?_ e1⟩
        injection z with _ _ z
        injection z with z _
        injection z with z
        exact z.symm
    · refine k false ⟨fun z => Bool.noConfusion z, fun z => ?_⟩
      rw [z] at e
      have : decide (A.cl 0 = A.cl 0) = false := e
      simp at this
theorem hou_inj {f r f' r' : Int} {n n' : List Str} {c c' : Nat} : Dt.ins c n [.int f, .int r] = Dt.ins c' n' [.int f', .int r'] ↔ c = c' ∧ n = n' ∧ f = f' ∧ r = r' := by
  constructor
  · intro z
    injection z with y1 y2 y
    injection y with y3 y
    injection y with y4 _
    injection y3 with y3
    injection y4 with y4
    exact ⟨y1, y2, y3, y4⟩
  · rintro ⟨rfl, rfl, rfl, rfl⟩
    rfl
theorem z_hh {h : Addr} {H : Hp} {v v' : V} {f r f' r' : Int} {Q : VK} {E : XK} (T : Txt K mg A) (rx : R A.cl h H v (.ins 0 ["floors", "room"] [.int f, .int r])) (ry : R A.cl h H v' (.ins 0 ["floors", "room"] [.int f', .int r'])) (q : Q (.bl (decide (f' = f ∧ r' = r))) H) :
    rEqO K A.c_House (sp_House___eq__ K A) E v v' H Q := by
  refine z_eqO (cl := A.cl) (c := 0) T.kits rx ry ⟨h, v, v', f, r, _, rfl, rx, ry, fun _ => ⟨_, _, rfl⟩, fun b hb => ?_⟩
  have e : b = decide (f' = f ∧ r' = r) := by
    rw [Bool.eq_iff_iff, decide_eq_true_iff, hb, hou_inj]
    exact ⟨fun z => z.2.2, fun z => ⟨rfl, rfl, z⟩⟩
  rw [e]
  exact q
theorem z_hhN {h : Addr} {H : Hp} {v v' : V} {f r f' r' : Int} {Q : VK} {E : XK} (T : Txt K mg A) (rx : R A.cl h H v (.ins 0 ["floors", "room"] [.int f, .int r])) (ry : R A.cl h H v' (.ins 0 ["floors", "room"] [.int f', .int r'])) (q : Q (.bl (!decide (f' = f ∧ r' = r))) H) :
    rNeO K A.c_House (sp_House___eq__ K A) E v v' H Q := by
  refine z_neO (cl := A.cl) (c := 0) T.kits rx ry ⟨h, v, v', f, r, _, rfl, rx, ry, fun _ => ⟨_, _, rfl⟩, fun b hb => ⟨b, rfl, ?_⟩⟩
  have e : b = decide (f' = f ∧ r' = r) := by
    rw [Bool.eq_iff_iff, decide_eq_true_iff, hb, hou_inj]
    exact ⟨fun z => z.2.2, fun z => ⟨rfl, rfl, z⟩⟩
  rw [e]
  exact q
theorem z_ho {h : Addr} {H : Hp} {v v' : V} {f r : Int} {d : Dt} {Q : VK} {E : XK} (T : Txt K mg A) (rx : R A.cl h H v (.ins 0 ["floors", "room"] [.int f, .int r])) (ry : R A.cl h H v' d) (n : d.isO A.cl A.c_House = false) (q : Q (.bl false) H) :
    rEqO K A.c_House (sp_House___eq__ K A) E v v' H Q := by
  refine z_eqO (cl := A.cl) (c := 0) T.kits rx ry ⟨h, v, v', f, r, _, rfl, rx, ry, fun z => (by rw [n] at z; cases z), fun b hb => ?_⟩
  have e : b = false := by
    cases b with
    | false => rfl
    | true =>
      rw [hb.mp rfl] at n
      have z : decide (A.cl 0 = A.cl 0) = false := n
      simp at z
  rw [e]
  exact q
theorem z_hoN {h : Addr} {H : Hp} {v v' : V} {f r : Int} {d : Dt} {Q : VK} {E : XK} (T : Txt K mg A) (rx : R A.cl h H v (.ins 0 ["floors", "room"] [.int f, .int r])) (ry : R A.cl h H v' d) (n : d.isO A.cl A.c_House = false) (q : Q (.bl true) H) :
    rNeO K A.c_House (sp_House___eq__ K A) E v v' H Q := by
  refine z_neO (cl := A.cl) (c := 0) T.kits rx ry ⟨h, v, v', f, r, _, rfl, rx, ry, fun z => (by rw [n] at z; cases z), fun b hb => ⟨b, rfl, ?_⟩⟩
  have e : b = false := by
    cases b with
    | false => rfl
    | true =>
      rw [hb.mp rfl] at n
      have z : decide (A.cl 0 = A.cl 0) = false := n
      simp at z
  rw [e]
  exact q
theorem sc__law_draw : FnScope ["hand", "many", "number", "cell", "digit"] ["hand", "many"] (defScope s__law_draw) := ⟨rfl, rfl, rfl, by decide +kernel, rfl, by decide +kernel, by decide +kernel⟩
def sp__law_draw (K : PySem.W.Frag) (A : Ad) : Sp := fun vs H Q E =>
  ∃ (h c : Addr) (m : Int), vs = [.ref h, .int m] ∧ Hd h c H ∧ 0 < m ∧ m < 1073741824 ∧ ∀ (r : Int) (H' : Hp), 0 ≤ r → r < m → Go h c H H' → Q (.int r) H'
theorem G__law_draw (T : Txt K mg A) : FnOk P w K mg base CX0 1 A.a__law_draw A.d__law_draw ["hand", "many"] (sp__law_draw K A) := by
  refine T.F__law_draw.ok sc__law_draw (fun vs H Q E h => ?_) (fun cdv A' outer s H vs Q E hr h => ?_)
  · obtain ⟨_, _, _, rfl, _⟩ := h; rfl
  · obtain ⟨h, c, m, rfl, hd, m0, m1, k⟩ := h
    refine ⟨_, ((Evl.pss_cut (ps_if (PW.pt (pw_and (pt_cmpR op_eq (pe_ix ix_list (pv 0) pe_int (fun _ _ => rfl)) pe_int (nomark _)) (pw_and1 (pt_cmpR op_lt (pe_ix ix_list (pv 0) pe_int (fun _ _ => rfl)) (pe_callB call_len_seq (by rfl) T.n_len (by decide +kernel) (pa_cons (pe_ix ix_list (pv 0) pe_int (fun _ _ => rfl)) pa_nil)) (nomark _))))) (pss_cons (ps_set (i := 3) sc__law_draw.nd rfl (Or.inl rfl) (pe_ix ix_list (pe_ix ix_list (pv 0) pe_int (fun _ _ => rfl)) (pe_ix ix_list (pv 0) pe_int (fun _ _ => rfl)) (fun _ _ => rfl)))
          (pss_cons (ps_asg (pe_op op_add (pe_ix ix_list (pv 0) pe_int (fun _ _ => rfl)) pe_int) (pg_sub (pv 0) pe_int set_list))
          (pss_cons (ps_asg (pe_op op_modN (pe_callTy call_int1 (by rfl) T.n_int (by decide +kernel) (pa_cons (pe_op op_add (pe_op op_add (pe_op op_mul (pe_ix ix_list (pv 0) pe_int (fun _ _ => rfl)) pe_int) (pv 3)) pe_int) pa_nil)) pe_int) (pg_sub (pv 0) pe_int set_list))
          (pss_one (ps_if (pt_cmpR op_ge (pv 3) (pe_op op_pow pe_int pe_int) (nomark _)) (pss_one (ps_asg (pv 3) (pg_sub (pv 0) pe_int set_list))) pss_nil))))) pss_nil)
          (pss_cons (ps_if (pt_cmpR op_gt (pe_ix ix_list (pv 0) pe_int (fun _ _ => rfl)) pe_int (nomark _)) (pss_cons (ps_set (i := 4) sc__law_draw.nd rfl (Or.inl rfl) (pe_op op_modN (pe_callTy call_int1 (by rfl) T.n_int (by decide +kernel) (pa_cons (pe_ix ix_list (pv 0) pe_int (fun _ _ => rfl)) pa_nil)) (pv 1)))
          (pss_cons (ps_asg (pe_op op_fdivN (pe_ix ix_list (pv 0) pe_int (fun _ _ => rfl)) (pv 1)) (pg_sub (pv 0) pe_int set_list))
          (pss_one (ps_ret (pv 4))))) pss_nil)
          (pss_cons (ps_asg (pe_op op_add (pe_ix ix_list (pv 0) pe_int (fun _ _ => rfl)) pe_int) (pg_sub (pv 0) pe_int set_list))
          (pss_cons (ps_set (i := 2) sc__law_draw.nd rfl (Or.inl rfl) (pe_op op_modN (pe_callTy call_int1 (by rfl) T.n_int (by decide +kernel) (pa_cons (pe_op op_mul (pe_callTy call_int1 (by rfl) T.n_int (by decide +kernel) (pa_cons (pe_op op_add (pe_ix ix_list (pv 0) pe_int (fun _ _ => rfl)) (pe_op op_mul pe_int (pe_ix ix_list (pv 0) pe_int (fun _ _ => rfl)))) pa_nil)) pe_int) pa_nil)) pe_int))
          (pss_cons (ps_set (i := 2) sc__law_draw.nd rfl (Or.inl rfl) (pe_op op_modN (pe_callTy call_int1 (by rfl) T.n_int (by decide +kernel) (pa_cons (pe_op op_mul (pv 2) (pe_op op_add (pe_op op_fdivN (pv 2) pe_int) pe_int)) pa_nil)) pe_int))
          (pss_cons (ps_set (i := 2) sc__law_draw.nd rfl (Or.inl rfl) (pe_op op_modN (pe_callTy call_int1 (by rfl) T.n_int (by decide +kernel) (pa_cons (pe_op op_mul (pv 2) (pe_op op_add (pe_op op_fdivN (pv 2) pe_int) pe_int)) pa_nil)) pe_int))
          (pss_one (ps_ret (pe_op op_modN (pe_callTy call_int1 (by rfl) T.n_int (by decide +kernel) (pa_cons (pe_op op_fdivN (pv 2) pe_int) pa_nil)) (pv 1))))))))))), ?_⟩
    dsimp only [cxOf, Cx.nox]
    have hd0 := hd
    obtain ⟨nc, ns, i, z, g, t, eh, ec, l63, n0, z0, g0, g1, t0⟩ := hd
    refine z_cut (fun σ H1 => (∃ u v w, σ = [some (.ref h), some (.int m), u, v, w]) ∧ Kp h H H1 ∧ ∃ (i : Nat) (z g t : Int), H1 h = some (.lst [.ref c, .int (i : Int), .int z, .int g, .int t]) ∧ 0 ≤ z ∧ 0 ≤ g ∧ g < 2147483648 ∧ 0 ≤ t) ?_ ?_
    · have kph : ∀ o, Kp h H (upd H h o) := fun o a u n e => by
        rw [upd_ne n]
        exact e
      (walk_at "zs")
      refine z_ixL (.inl (.inl eh)) rfl ?_
      (walk_at "zs")
      refine z_ite (fun e0 => ?_) (fun e0 => ?_)
      · (walk_at "zs")
        refine z_ixL (.inl (.inl eh)) rfl ?_
        (walk_at "zs")
        refine z_ixL (.inl (.inl eh)) rfl ?_
        (walk_at "zs")
        refine ⟨_, _, rfl, .inl (.inl (.inl ec)), ?_⟩
        (walk_at "zs")
        refine z_ite (fun e1 => ?_) (fun e1 => ?_)
        · rw [List.length_map] at e1
          have hi : i < ns.length := by omega
          have ai : atI (ns.map V.int) (i : Int) = some (.int ns[i]) := atI_nat (by rw [List.getElem?_map, List.getElem?_eq_getElem hi]; rfl)
          have np := n0 _ (List.getElem_mem hi)
          (walk_at "zs")
          refine z_ixL (.inl (.inl eh)) rfl ?_
          (walk_at "zs")
          refine z_ixL (.inl (.inl eh)) rfl ?_
          refine z_ixL (.inl (.inl ec)) ai ?_
          (walk_at "zs")
          refine z_ixL (.inl (.inl eh)) rfl ?_
          (walk_at "zs")
          refine z_setL eh rfl ?_
          (walk_at "zs")
          refine z_ixL (.inl (.inl upd_same)) rfl ?_
          (walk_at "zs")
          refine z_I (.inl ⟨by omega, by omega⟩) ?_
          (walk_at "zs")
          refine .inl ⟨_, rfl, ?_⟩
          (walk_at "zs")
          refine z_I (by decide) ?_
          (walk_at "zs")
          refine z_setL upd_same rfl ?_
          rw [upd_upd]
          have f0 := Int.emod_nonneg (g * 69621 + ns[i] + 11) (show (2147483629 : Int) ≠ 0 by decide)
          have f1 := Int.emod_lt_of_pos (g * 69621 + ns[i] + 11) (show (0 : Int) < 2147483629 by decide)
          have fe : (g * 69621 + ns[i] + 11).fmod 2147483629 = (g * 69621 + ns[i] + 11) % 2147483629 := Int.fmod_eq_emod_of_nonneg _ (by decide)
          rw [fe]
          (walk_at "zs")
          refine z_I ⟨by decide, by decide, by decide⟩ ?_
          (walk_at "zs")
          refine z_ite (fun e2 => ?_) (fun e2 => ?_)
          · (walk_at "zs")
            refine z_setL upd_same rfl ?_
            rw [upd_upd]
            exact ⟨⟨_, _, _, rfl⟩, kph _, i + 1, ns[i], _, t, upd_same, np, f0, by omega, t0⟩
          · (walk_at "zs")
            exact ⟨⟨_, _, _, rfl⟩, kph _, i + 1, z, _, t, upd_same, z0, f0, by omega, t0⟩
        · (walk_at "zs")
          exact ⟨⟨_, _, _, rfl⟩, Kp.refl H, i, z, g, t, eh, z0, g0, g1, t0⟩
      · (walk_at "zs")
        exact ⟨⟨_, _, _, rfl⟩, Kp.refl H, i, z, g, t, eh, z0, g0, g1, t0⟩
    · rintro σ H1 ⟨⟨u, v, w, rfl⟩, kp, i', z', g', t', eh', z0', g0', g1', t0'⟩
      have fin : ∀ o, (∃ (i : Nat) (z g t : Int), o = HO.lst [.ref c, .int (i : Int), .int z, .int g, .int t] ∧ 0 ≤ z ∧ 0 ≤ g ∧ g < 2147483648 ∧ 0 ≤ t) → Go h c H (upd H1 h o) := fun o ⟨i, z, g, t, e, b0, b1, b2, b3⟩ => by
        refine ⟨fun a u n q => by rw [upd_ne n]; exact kp a u n q, fun _ => ⟨nc, ns, i, z, g, t, by rw [upd_same, e], by rw [upd_ne nc]; exact kp c _ nc ec, l63, n0, b0, b1, b2, b3⟩⟩
      (walk_at "zs")
      refine z_ixL (.inl (.inl eh')) rfl ?_
      (walk_at "zs")
      refine z_ite (fun e0 => ?_) (fun e0 => ?_)
      · (walk_at "zs")
        refine z_ixL (.inl (.inl eh')) rfl ?_
        refine .inl ⟨_, rfl, ?_⟩
        (walk_at "zs")
        refine z_I (by omega) ?_
        (walk_at "zs")
        refine z_ixL (.inl (.inl eh')) rfl ?_
        (walk_at "zs")
        refine z_I ⟨by omega, by omega⟩ ?_
        (walk_at "zs")
        refine z_setL eh' rfl ?_
        have e1 : z'.fmod m = z' % m := Int.fmod_eq_emod_of_nonneg _ (by omega)
        have e2 : z'.fdiv m = z' / m := Int.fdiv_eq_ediv_of_nonneg _ (by omega)
        rw [e1, e2]
        (walk_at "zs")
        exact k _ _ (Int.emod_nonneg _ (by omega)) (Int.emod_lt_of_pos _ m0) (fin _ ⟨i', z' / m, g', t', rfl, Int.ediv_nonneg z0' (by omega), g0', g1', t0'⟩)
      · (walk_at "zs")
        refine z_ixL (.inl (.inl eh')) rfl ?_
        (walk_at "zs")
        refine z_setL eh' rfl ?_
        (walk_at "zs")
        refine z_ixL (.inl (.inl upd_same)) rfl ?_
        (walk_at "zs")
        refine z_ixL (.inl (.inl upd_same)) rfl ?_
        refine z_I (.inl ⟨by decide, by decide⟩) ?_
        (walk_at "zs")
        refine .inl ⟨_, rfl, ?_⟩
        (walk_at "zs")
        refine z_I (.inr ⟨by decide, by decide⟩) ?_
        (walk_at "zs")
        refine .inl ⟨_, rfl, ?_⟩
        (walk_at "zs")
        refine z_I (by decide) ?_
        rw [Int.fmod_eq_emod_of_nonneg _ (show (0 : Int) ≤ 2147483647 by decide)]
        generalize ha : ((g' + 7919 * (t' + 1)) * 48271) % 2147483647 = a
        have a0 : 0 ≤ a := by rw [← ha]; exact Int.emod_nonneg _ (by decide)
        have a1 : a < 2147483647 := by rw [← ha]; exact Int.emod_lt_of_pos _ (by decide)
        (walk_at "zs")
        refine z_I ⟨by decide, by decide⟩ ?_
        (walk_at "zs")
        refine z_I (.inl ⟨by omega, by omega⟩) ?_
        (walk_at "zs")
        refine .inl ⟨_, rfl, ?_⟩
        (walk_at "zs")
        refine z_I (by decide) ?_
        rw [Int.fmod_eq_emod_of_nonneg _ (show (0 : Int) ≤ 2147483647 by decide)]
        generalize hb : (a * (a.fdiv 1009 + 69621)) % 2147483647 = b
        have b0 : 0 ≤ b := by rw [← hb]; exact Int.emod_nonneg _ (by decide)
        have b1 : b < 2147483647 := by rw [← hb]; exact Int.emod_lt_of_pos _ (by decide)
        (walk_at "zs")
        refine z_I ⟨by decide, by decide⟩ ?_
        (walk_at "zs")
        refine z_I (.inl ⟨by omega, by omega⟩) ?_
        (walk_at "zs")
        refine .inl ⟨_, rfl, ?_⟩
        (walk_at "zs")
        refine z_I (by decide) ?_
        (walk_at "zs")
        refine z_I ⟨by decide, by decide⟩ ?_
        (walk_at "zs")
        refine .inl ⟨_, rfl, ?_⟩
        (walk_at "zs")
        refine z_I (by omega) ?_
        rw [Int.fmod_eq_emod_of_nonneg _ (show (0 : Int) ≤ m by omega)]
        exact k _ _ (Int.emod_nonneg _ (by omega)) (Int.emod_lt_of_pos _ m0) (fin _ ⟨i', z', g', t' + 1, rfl, z0', g0', g1', by omega⟩)
theorem sc__law_some : FnScope ["hand", "things"] ["hand", "things"] (defScope s__law_some) := ⟨rfl, rfl, rfl, by decide +kernel, rfl, by decide +kernel, by decide +kernel⟩
def sp__law_some (K : PySem.W.Frag) (A : Ad) : Sp := fun vs H Q E =>
  ∃ (h c p : Addr) (xs : List V), vs = [.ref h, .ref p] ∧ Hd h c H ∧ p ≠ h ∧ H p = some (.lst xs) ∧ 0 < xs.length ∧ xs.length < 1000000 ∧ ∀ (v : V) (i : Nat) (H' : Hp), xs[i]? = some v → Go h c H H' → Q v H'
theorem G__law_some (T : Txt K mg A) : FnOk P w K mg base CX0 2 A.a__law_some A.d__law_some ["hand", "things"] (sp__law_some K A) := by
  refine T.F__law_some.ok sc__law_some (fun vs H Q E h => ?_) (fun cdv A' outer s H vs Q E hr h => ?_)
  · obtain ⟨_, _, _, _, rfl, _⟩ := h; rfl
  · obtain ⟨h, c, p, xs, rfl, hd, np, hp, l0, l1, k⟩ := h
    refine ⟨_, ((pss_one (ps_ret (pe_ix ix_list (pv 1) (pe_call (G__law_draw T) (hr.mono (by decide)) rfl T.g__law_draw T.F__law_draw.kp T.b__law_draw .nil pass0 (pa_cons (pv 0) (pa_cons (pe_callB call_len_seq (by rfl) T.n_len (by decide +kernel) (pa_cons (pv 1) pa_nil)) pa_nil))) (fun _ _ => rfl))))), ?_⟩
    dsimp only [cxOf, Cx.nox]
    (walk_at "zs")
    refine ⟨_, _, rfl, .inl (.inl (.inl hp)), ?_⟩
    (walk_at "zs")
    refine ⟨h, c, _, rfl, hd, by omega, by omega, fun r H1 r0 r1 g => ?_⟩
    have hi : r.toNat < xs.length := by omega
    have e : ((r.toNat : Nat) : Int) = r := by omega
    have a : atI xs r = some xs[r.toNat] := by
      have z := atI_nat (xs := xs) (j := r.toNat) (v := xs[r.toNat]) (List.getElem?_eq_getElem hi)
      rw [e] at z
      exact z
    refine z_ixL (.inl (.inl (g.1 _ _ np hp))) a ?_
    exact k _ r.toNat H1 (List.getElem?_eq_getElem hi) g
theorem sc__law_great : FnScope ["hand", "most", "found", "turn"] ["hand", "most"] (defScope s__law_great) := ⟨rfl, rfl, rfl, by decide +kernel, rfl, by decide +kernel, by decide +kernel⟩
def sp__law_great (K : PySem.W.Frag) (A : Ad) : Sp := fun vs H Q E =>
  ∃ (h c : Addr) (m : Int), vs = [.ref h, .int m] ∧ Hd h c H ∧ 0 < m ∧ ∀ (r : Int) (H' : Hp), 1 ≤ r → r ≤ m → Go h c H H' → Q (.int r) H'
theorem G__law_great (T : Txt K mg A) : FnOk P w K mg base CX0 2 A.a__law_great A.d__law_great ["hand", "most"] (sp__law_great K A) := by
  refine T.F__law_great.ok sc__law_great (fun vs H Q E h => ?_) (fun cdv A' outer s H vs Q E hr h => ?_)
  · obtain ⟨_, _, _, rfl, _⟩ := h; rfl
  · obtain ⟨h, c, m, rfl, hd, m0, k⟩ := h
    refine ⟨_, ((pss_cons (ps_set (i := 2) sc__law_great.nd rfl (Or.inl rfl) pe_int)
          (pss_cons (ps_for PassesOwn.never rfl (pi_range1 (by rfl) T.n_range (pa_cons pe_int pa_nil)) (pg_name (i := 3) sc__law_great.nd rfl (Or.inl rfl))
          (pss_one (ps_set (i := 2) sc__law_great.nd rfl (Or.inl rfl) (pe_op op_add (pe_op op_mul (pv 2) (pe_op op_pow pe_int pe_int)) (pe_call (G__law_draw T) (hr.mono (by decide)) rfl T.g__law_draw T.F__law_draw.kp T.b__law_draw .nil pass0 (pa_cons (pv 0) (pa_cons (pe_op op_pow pe_int pe_int) pa_nil)))))))
          (pss_one (ps_ret (pe_op op_add pe_int (pe_op op_modN (pe_callTy call_int1 (by rfl) T.n_int (by decide +kernel) (pa_cons (pv 2) pa_nil)) (pv 1)))))))), ?_⟩
    dsimp only [cxOf, Cx.nox]
    (walk_at "zs")
    refine ⟨_, rfl, by decide, by decide, for_range (lo := 0) (n := 4) (fun _ σ H1 => ∃ (f : Int) (u : Option V), σ = [some (.ref h), some (.int m), some (.int f), u] ∧ Go h c H H1 ∧ 0 ≤ f) ⟨0, none, rfl, Go.refl H, Int.le_refl 0⟩ ?_ ?_⟩
    · rintro i σ H1 _ ⟨f, u, rfl, g, f0⟩
      (walk_at "zs")
      refine z_pow (n := 100000000) ⟨by decide, by decide, by decide⟩ rfl ?_
      refine z_I (.inr ⟨by decide, by decide⟩) ?_
      (walk_at "zs")
      refine z_pow (n := 100000000) ⟨by decide, by decide, by decide⟩ rfl ?_
      (walk_at "zs")
      refine ⟨h, c, _, rfl, g.2 hd, by decide, by decide, fun r H2 r0 r1 g2 => ?_⟩
      (walk_at "zs")
      exact ⟨_, _, rfl, g.trans g2, by omega⟩
    · rintro σ H1 ⟨f, u, rfl, g, f0⟩
      (walk_at "zs")
      refine .inl ⟨_, rfl, ?_⟩
      (walk_at "zs")
      refine z_I (by omega) ?_
      (walk_at "zs")
      rw [Int.fmod_eq_emod_of_nonneg _ (show (0 : Int) ≤ m by omega)]
      have a0 := Int.emod_nonneg f (show m ≠ 0 by omega)
      have a1 := Int.emod_lt_of_pos f m0
      exact k _ _ (by omega) (by omega) g
theorem sc__law_deep : FnScope ["kind", "found", "turn"] ["kind"] (defScope s__law_deep) := ⟨rfl, rfl, rfl, by decide +kernel, rfl, by decide +kernel, by decide +kernel⟩
def sp__law_deep (K : PySem.W.Frag) (A : Ad) : Sp := fun vs H Q E =>
  ∃ (h c : Addr) (k : Int), vs = [.int k] ∧ Hd h c H ∧ 0 ≤ k ∧ k < 3 ∧ ∀ (v : V) (d : Dt) (H' : Hp), Go h c H H' → R A.cl h H' v d → (d.isT = true ∨ d.isL = true) → Q v H'
theorem G__law_deep (T : Txt K mg A) : FnOk P w K mg base CX0 1 A.a__law_deep A.d__law_deep ["kind"] (sp__law_deep K A) := by
  refine T.F__law_deep.ok sc__law_deep (fun vs H Q E h => ?_) (fun cdv A' outer s H vs Q E hr h => ?_)
  · obtain ⟨_, _, _, rfl, _⟩ := h; rfl
  · obtain ⟨h, c, k, rfl, hd, k0, k1, q⟩ := h
    refine ⟨_, ((pss_cons (ps_set (i := 1) sc__law_deep.nd rfl (Or.inl rfl) (pe_tup pa_nil))
          (pss_cons (ps_for PassesOwn.never rfl (pi_range1 (by rfl) T.n_range (pa_cons pe_int pa_nil)) (pg_name (i := 2) sc__law_deep.nd rfl (Or.inl rfl))
          (pss_one (ps_set (i := 1) sc__law_deep.nd rfl (Or.inl rfl) (pe_ix ix_list (pe_lst (pa_cons (pe_tup (pa_cons (pe_tup (pa_cons pe_int (pa_cons (pv 1) pa_nil))) pa_nil)) (pa_cons (pe_lst (pa_cons (pe_lst (pa_cons (pv 1) pa_nil)) pa_nil)) (pa_cons (pe_tup (pa_cons pe_str (pa_cons (pe_tup (pa_cons (pv 1) pa_nil)) pa_nil))) pa_nil)))) (pv 0) (fun _ _ => rfl)))))
          (pss_one (ps_ret (pv 1)))))), ?_⟩
    dsimp only [cxOf, Cx.nox]
    (walk_at "zs")
    refine z_newT (cl := A.cl) hd .nil fun p H1 g1 _ r1 => ?_
    (walk_at "zs")
    refine ⟨_, rfl, by decide, by decide, for_range (lo := 0) (n := 15) (fun _ σ H2 => ∃ (v : V) (d : Dt) (u : Option V), σ = [some (.int k), some v, u] ∧ Go h c H H2 ∧ R A.cl h H2 v d ∧ (d.isT = true ∨ d.isL = true)) ⟨_, _, none, rfl, g1, r1, .inl rfl⟩ ?_ ?_⟩
    · rintro i σ H2 _ ⟨v, d, u, rfl, g2, r2, _⟩
      have hd2 := g2.2 hd
      (walk_at "zs")
      refine z_newT hd2 (.cons (.int _) (.cons r2 .nil)) fun p3 H3 g3 _ r3 => ?_
      (walk_at "zs")
      refine z_newT (g3.2 hd2) (.cons r3 .nil) fun p4 H4 g4 _ r4 => ?_
      have g24 := g3.trans g4
      (walk_at "zs")
      refine z_newL (g24.2 hd2) (.cons (g24.r r2) .nil) fun p5 H5 g5 _ r5 => ?_
      have g25 := g24.trans g5
      (walk_at "zs")
      refine z_newL (g25.2 hd2) (.cons r5 .nil) fun p6 H6 g6 _ r6 => ?_
      have g26 := g25.trans g6
      (walk_at "zs")
      refine z_newT (g26.2 hd2) (.cons (g26.r r2) .nil) fun p7 H7 g7 _ r7 => ?_
      have g27 := g26.trans g7
      (walk_at "zs")
      refine z_newT (g27.2 hd2) (.cons (.str _) (.cons r7 .nil)) fun p8 H8 g8 _ r8 => ?_
      have g28 := g27.trans g8
      (walk_at "zs")
      refine z_newL (g28.2 hd2) (.cons (g8.r (g7.r (g6.r (g5.r r4)))) (.cons (g8.r (g7.r r6)) (.cons r8 .nil))) fun p9 H9 g9 _ r9 => ?_
      have g29 := g28.trans g9
      obtain ⟨_, xs, e9, n9, h9, s9⟩ := r9.lst_inv
      cases e9
      (walk_at "zs")
      have three : k = 0 ∨ k = 1 ∨ k = 2 := by omega
      obtain ⟨va, vb, vc, rfl, ra, rb, rc⟩ := s9.three
      rcases three with rfl | rfl | rfl
      · refine z_ixL (.inl (.inl h9)) rfl ?_
        (walk_at "zs")
        exact ⟨_, _, _, rfl, g2.trans g29, ra, .inl rfl⟩
      · refine z_ixL (.inl (.inl h9)) rfl ?_
        (walk_at "zs")
        exact ⟨_, _, _, rfl, g2.trans g29, rb, .inr rfl⟩
      · refine z_ixL (.inl (.inl h9)) rfl ?_
        (walk_at "zs")
        exact ⟨_, _, _, rfl, g2.trans g29, rc, .inl rfl⟩
    · rintro σ H2 ⟨v, d, u, rfl, g2, r2, hT⟩
      (walk_at "zs")
      exact q v d H2 g2 r2 hT
theorem sc__law_part : FnScope ["hand", "most", "house", "things"] ["hand", "most", "house"] (defScope s__law_part) := ⟨rfl, rfl, rfl, by decide +kernel, rfl, by decide +kernel, by decide +kernel⟩
def sp__law_part (K : PySem.W.Frag) (A : Ad) : Sp := fun vs H Q E =>
  ∃ (h c : Addr) (m : Int) (hv : V) (f r : Int), vs = [.ref h, .int m, hv] ∧ Hd h c H ∧ 0 < m ∧ R A.cl h H hv (.ins 0 ["floors", "room"] [.int f, .int r]) ∧
  ∀ (v : V) (d : Dt) (H' : Hp), Go h c H H' → R A.cl h H' v d → (d.isO A.cl A.c_House = true → ∃ f' r', d = .ins 0 ["floors", "room"] [.int f', .int r']) → Q v H'
theorem G__law_part (T : Txt K mg A) : FnOk P w K mg base CX0 3 A.a__law_part A.d__law_part ["hand", "most", "house"] (sp__law_part K A) := by
  refine T.F__law_part.ok sc__law_part (fun vs H Q E h => ?_) (fun cdv A' outer s H vs Q E hr h => ?_)
  · obtain ⟨_, _, _, _, _, _, rfl, _⟩ := h; rfl
  · obtain ⟨h, c, m, hv, f, r, rfl, hd, m0, rh, q⟩ := h
    refine ⟨_, ((pss_cons (ps_if (pt_cmpR op_eq (pe_call (G__law_draw T) (hr.mono (by decide)) rfl T.g__law_draw T.F__law_draw.kp T.b__law_draw .nil pass0 (pa_cons (pv 0) (pa_cons pe_int pa_nil))) pe_int (nomark _)) (pss_one (ps_ret (pe_call (G__law_great T) (hr.mono (by decide)) rfl T.g__law_great T.F__law_great.kp T.b__law_great .nil pass0 (pa_cons (pv 0) (pa_cons (pv 1) pa_nil))))) pss_nil)
          (pss_cons (ps_set (i := 3) sc__law_part.nd rfl (Or.inl rfl) (pe_lst (pa_cons pe_int (pa_cons pe_int (pa_cons pe_int (pa_cons pe_int (pa_cons (pv 1) (pa_cons (pe_op op_add (pv 1) pe_int) (pa_cons (pe_un un_neg pe_int) (pa_cons (pe_op op_pow pe_int pe_int) (pa_cons pe_bl (pa_cons pe_bl (pa_cons pe_non (pa_cons pe_str (pa_cons (pe_tup (pa_cons pe_int pa_nil)) (pa_cons (pe_lst (pa_cons pe_int pa_nil)) (pa_cons pe_dnewK (pa_cons (pv 2) pa_nil))))))))))))))))))
          (pss_one (ps_ret (pe_call (G__law_some T) (hr.mono (by decide)) rfl T.g__law_some T.F__law_some.kp T.b__law_some .nil pass0 (pa_cons (pv 0) (pa_cons (pe_op op_cat (pv 3) (pe_lst (pa_cons (pe_call (G__law_deep T) (hr.mono (by decide)) rfl T.g__law_deep T.F__law_deep.kp T.b__law_deep .nil pass0 (pa_cons (pe_call (G__law_draw T) (hr.mono (by decide)) rfl T.g__law_draw T.F__law_draw.kp T.b__law_draw .nil pass0 (pa_cons (pv 0) (pa_cons pe_int pa_nil))) pa_nil)) pa_nil))) pa_nil)))))))), ?_⟩
    dsimp only [cxOf, Cx.nox]
    (walk_at "zs")
    refine ⟨h, c, _, rfl, hd, by decide, by decide, fun k H1 k0 k1 g1 => ?_⟩
    (walk_at "zs")
    refine z_ite (fun e => ?_) (fun e => ?_)
    · (walk_at "zs")
      refine ⟨h, c, _, rfl, g1.2 hd, m0, fun k H2 k0 k1 g2 => ?_⟩
      exact q _ _ H2 (g1.trans g2) (.int _) fun z => Bool.noConfusion z
    · have hd1 := g1.2 hd
      (walk_at "zs")
      refine z_pow (n := 1000000000000000000000000000000000000000) ⟨by decide, by decide, by decide⟩ rfl ?_
      (walk_at "zs")
      refine z_newT (cl := A.cl) hd1 (.cons (.int _) .nil) fun p2 H2 g2 _ r2 => ?_
      have hd2 := g2.2 hd1
      (walk_at "zs")
      refine z_newL (cl := A.cl) hd2 (.cons (.int _) .nil) fun p3 H3 g3 _ r3 => ?_
      have hd3 := g3.2 hd2
      (walk_at "zs")
      refine z_newD (cl := A.cl) hd3 fun p4 H4 g4 _ r4 => ?_
      have hd4 := g4.2 hd3
      have g14 := (g2.trans g3).trans g4
      (walk_at "zs")
      refine z_newL hd4 (.cons (.int _) (.cons (.int _) (.cons (.int _) (.cons (.int _) (.cons (.int _) (.cons (.int _) (.cons (.int _) (.cons (.int _) (.cons (.bl _) (.cons (.bl _) (.cons .non (.cons (.str _)
        (.cons (g4.r (g3.r r2)) (.cons (g4.r r3) (.cons r4 (.cons (g14.r (g1.r rh)) .nil)))))))))))))))) fun p5 H5 g5 _ r5 => ?_
      have hd5 := g5.2 hd4
      (walk_at "zs")
      refine ⟨h, c, _, rfl, hd5, by decide, by decide, fun k H6 k0 k1 g6 => ?_⟩
      have hd6 := g6.2 hd5
      refine ⟨h, c, _, rfl, hd6, k0, k1, fun v d H7 g7 r7 hT => ?_⟩
      have hd7 := g7.2 hd6
      (walk_at "zs")
      refine z_newL hd7 (.cons r7 .nil) fun p8 H8 g8 _ r8 => ?_
      have hd8 := g8.2 hd7
      refine z_cat hd8 (g8.r (g7.r (g6.r r5))) r8 (Nat.le_of_ble_eq_true rfl) fun p9 H9 g9 _ r9 => ?_
      have hd9 := g9.2 hd8
      obtain ⟨_, xs, e9, n9, h9, s9⟩ := r9.lst_inv
      cases e9
      have l9 := s9.len
      (walk_at "zs")
      refine ⟨h, c, p9, xs, rfl, hd9, n9, h9, by rw [l9]; simp, by rw [l9]; simp, fun v i H10 hv g10 => ?_⟩
      obtain ⟨dv, hdv, rv⟩ := s9.atV hv
      refine q v dv H10 (((((((g1.trans g14).trans g5).trans g6).trans g7).trans g8).trans g9).trans g10) (g10.r rv) fun z => ?_
      have hm := List.mem_of_getElem? hdv
      simp only [List.cons_append, List.nil_append, List.mem_cons, List.not_mem_nil, or_false] at hm
      rcases hm with rfl | rfl | rfl | rfl | rfl | rfl | rfl | rfl | rfl | rfl | rfl | rfl | rfl | rfl | rfl | rfl | rfl
      all_goals first
        | exact Bool.noConfusion z
        | exact ⟨_, _, rfl⟩
        | (cases dv <;> first | exact Bool.noConfusion z | (rcases hT with w | w <;> exact Bool.noConfusion w))
theorem sc__law_is_int : FnScope ["thing", "least", "most"] ["thing", "least", "most"] (defScope s__law_is_int) := ⟨rfl, rfl, rfl, by decide +kernel, rfl, by decide +kernel, by decide +kernel⟩
def sp__law_is_int (K : PySem.W.Frag) (A : Ad) : Sp := fun vs H Q E =>
  ∃ (h : Addr) (v : V) (d : Dt) (a b : Int), vs = [v, .int a, .int b] ∧ R A.cl h H v d ∧ Q (.bl (d.bet a b)) H
theorem G__law_is_int (T : Txt K mg A) : FnOk P w K mg base CX0 1 A.a__law_is_int A.d__law_is_int ["thing", "least", "most"] (sp__law_is_int K A) := by
  refine T.F__law_is_int.ok sc__law_is_int (fun vs H Q E h => ?_) (fun cdv A' outer s H vs Q E hr h => ?_)
  · obtain ⟨_, _, _, _, _, rfl, _⟩ := h; rfl
  · obtain ⟨h, v, d, a, b, rfl, r, k⟩ := h
    refine ⟨_, ((pss_one (ps_ret (pe_and (pe_callB call_isi (by rfl) T.n_isinstance (by decide +kernel) (pa_cons (pv 0) (pa_cons (pe_bltn (v := .ty "int") (by rfl) T.n_int (by decide +kernel) rfl) pa_nil))) (pe_and (pe_not (pe_callB call_isi (by rfl) T.n_isinstance (by decide +kernel) (pa_cons (pv 0) (pa_cons (pe_bltn (v := .ty "bool") (by rfl) T.n_bool (by decide +kernel) rfl) pa_nil)))) (pe_one (pe_chain op_le op_le (pv 1) (pv 0) (pv 2)))))))), ?_⟩
    dsimp only [cxOf, Cx.nox]
    (walk_at "zs")
    refine isi_int T.kits r ?_
    (walk_at "zs")
    refine z_iteB (fun e => ?_) (fun e => ?_)
    · (walk_at "zs")
      refine isi_bool T.kits r ?_
      (walk_at "zs")
      refine z_iteN (fun e2 => ?_) (fun e2 => ?_)
      · obtain ⟨i, rfl⟩ := Dt.of_isN (d := d) (by rw [d.isN_eq, e, e2]; rfl)
        cases r
        (walk_at "zs")
        refine z_ite (fun e1 => ?_) (fun e1 => ?_)
        · (walk_at "zs")
          have q : (Dt.int i).bet a b = decide (i ≤ b) := by show (decide (a ≤ i) && decide (i ≤ b)) = _; rw [decide_eq_true e1]; rfl
          rw [q] at k
          exact k
        · have q : (Dt.int i).bet a b = false := by show (decide (a ≤ i) && decide (i ≤ b)) = _; rw [decide_eq_false e1]; rfl
          rw [q] at k
          exact k
      · have q : d.bet a b = false := by cases d <;> first | rfl | (exact Bool.noConfusion e2)
        rw [q] at k
        exact k
    · have q : d.bet a b = false := by cases d <;> first | rfl | (exact Bool.noConfusion e)
      rw [q] at k
      exact k
theorem sc_law : FnScope ["script", "hand", "house", "turn", "floors", "room", "kind", "told", "due", "more", "others", "other"] ["script"] (defScope s_law) := ⟨rfl, rfl, rfl, by decide +kernel, rfl, by decide +kernel, by decide +kernel⟩
def sp_law (K : PySem.W.Frag) (A : Ad) : Sp := fun vs H Q E =>
  spLaw K vs H Q E
theorem G_law (T : Txt K mg A) : FnOk P w K mg base CX0 6 A.a_law A.d_law ["script"] (sp_law K A) := by
  refine T.F_law.ok sc_law (fun vs H Q E h => ?_) (fun cdv A' outer s H vs Q E hr h => ?_)
  · obtain ⟨_, _, rfl, _⟩ := h; rfl
  · obtain ⟨a, ns, rfl, hS, hl, k⟩ := h
    refine ⟨_, ((pss_cons (ps_set (i := 1) sc_law.nd rfl (Or.inl rfl) (pe_call (G__law_hand T) (hr.mono (by decide)) rfl T.g__law_hand T.F__law_hand.kp T.b__law_hand .nil pass0 (pa_cons (pv 0) pa_nil)))
          (pss_cons (ps_set (i := 2) sc_law.nd rfl (Or.inl rfl) (pe_make T.mk_House (G_House___init__ T) (hr.mono (by decide)) rfl T.g_House T.b_House___init__ .nil passL (pa_cons pe_int (pa_cons (pe_op op_pow pe_int pe_int) pa_nil))))
          (pss_cons (ps_for PassesOwn.never rfl (pi_range1 (by rfl) T.n_range (pa_cons pe_int pa_nil)) (pg_name (i := 3) sc_law.nd rfl (Or.inl rfl))
          (pss_cons (ps_par (i := 4) (j := 5) (by rfl) sc_law.nd rfl rfl (by decide) rfl rfl (pa_cons (pe_call (G__law_part T) (hr.mono (by decide)) rfl T.g__law_part T.F__law_part.kp T.b__law_part .nil pass0 (pa_cons (pv 1) (pa_cons pe_int (pa_cons (pv 2) pa_nil)))) (pa_cons (pe_call (G__law_part T) (hr.mono (by decide)) rfl T.g__law_part T.F__law_part.kp T.b__law_part .nil pass0 (pa_cons (pv 1) (pa_cons (pe_op op_pow pe_int pe_int) (pa_cons (pv 2) pa_nil)))) pa_nil)) (by rfl))
          (pss_cons (ps_asg (pe_call (G__law_told T) (hr.mono (by decide)) rfl T.g__law_told T.F__law_told.kp T.b__law_told .nil pass0 (pa_cons (pv 4) (pa_cons (pv 5) pa_nil))) (pg_tup (by rfl) (pgs_cons (pg_name (i := 6) sc_law.nd rfl (Or.inl rfl)) (pgs_cons (pg_name (i := 7) sc_law.nd rfl (Or.inl rfl)) pgs_nil))))
          (pss_cons (ps_set (i := 8) sc_law.nd rfl (Or.inl rfl) pe_str)
          (pss_cons (ps_if (pt_not (pt_val (pe_call (G__law_is_int T) (hr.mono (by decide)) rfl T.g__law_is_int T.F__law_is_int.kp T.b__law_is_int .nil pass0 (pa_cons (pv 4) (pa_cons pe_int (pa_cons pe_int pa_nil)))))) (pss_one (ps_set (i := 8) sc_law.nd rfl (Or.inl rfl) pe_str)) (pss_one (ps_if (pt_not (pt_val (pe_call (G__law_is_int T) (hr.mono (by decide)) rfl T.g__law_is_int T.F__law_is_int.kp T.b__law_is_int .nil pass0 (pa_cons (pv 5) (pa_cons pe_int (pa_cons (pe_op op_pow pe_int pe_int) pa_nil)))))) (pss_one (ps_set (i := 8) sc_law.nd rfl (Or.inl rfl) pe_str)) pss_nil)))
          (pss_one (ps_if (pt_cmpR op_ne (pv 8) pe_str (nomark _)) (pss_one (ps_if (PW.pt (pw_or (pt_cmpR op_ne (pv 6) pe_str (nomark _)) (pw_or1 (pt_cmpR op_ne (pv 7) (pv 8) (nomark _))))) (pss_one (ps_ret pe_bl)) pss_nil)) (pss_cons (ps_if (PW.pt (pw_or (pt_cmpR op_ne (pv 6) pe_str (nomark _)) (pw_or (pt_not (pt_val (pe_callB call_isi (by rfl) T.n_isinstance (by decide +kernel) (pa_cons (pv 7) (pa_cons (pe_glob (v := .ref A.c_House) (by rfl) T.g_House rfl) pa_nil))))) (pw_or (pt_cmpR op_ne (pe_fld (pv 7) rfl) (pv 4) (nomark _)) (pw_or1 (pt_cmpR op_ne (pe_fld (pv 7) rfl) (pv 5) (nomark _))))))) (pss_one (ps_ret pe_bl)) pss_nil)
          (pss_cons (ps_if (PW.pt (pw_or (pt_val (pe_callB call_isi (by rfl) T.n_isinstance (by decide +kernel) (pa_cons (pe_fld (pv 7) rfl) (pa_cons (pe_bltn (v := .ty "bool") (by rfl) T.n_bool (by decide +kernel) rfl) pa_nil)))) (pw_or1 (pt_val (pe_callB call_isi (by rfl) T.n_isinstance (by decide +kernel) (pa_cons (pe_fld (pv 7) rfl) (pa_cons (pe_bltn (v := .ty "bool") (by rfl) T.n_bool (by decide +kernel) rfl) pa_nil))))))) (pss_one (ps_ret pe_bl)) pss_nil)
          (pss_cons (ps_par (i := 9) (j := 10) (by rfl) sc_law.nd rfl rfl (by decide) rfl rfl (pa_cons (pe_op op_add pe_int (pe_call (G__law_draw T) (hr.mono (by decide)) rfl T.g__law_draw T.F__law_draw.kp T.b__law_draw .nil pass0 (pa_cons (pv 1) (pa_cons pe_int pa_nil)))) (pa_cons (pe_op op_add pe_int (pe_call (G__law_draw T) (hr.mono (by decide)) rfl T.g__law_draw T.F__law_draw.kp T.b__law_draw .nil pass0 (pa_cons (pv 1) (pa_cons pe_int pa_nil)))) pa_nil)) (by rfl))
          (pss_cons (ps_set (i := 11) sc_law.nd rfl (Or.inl rfl) (pe_make T.mk_House (G_House___init__ T) (hr.mono (by decide)) rfl T.g_House T.b_House___init__ .nil passL (pa_cons (pv 9) (pa_cons (pv 10) pa_nil))))
          (pss_cons (ps_if (PW.pt (pw_or (pt_cmpR op_ne (pe_cmpR (op_eqO (E := E0) (G_House___eq__ T) (hr.mono (by decide)) T.eq_House T.F_House___eq__i T.b_House___eq__ pass0) (pv 7) (pv 11) (nomark _)) (pe_and (pe_cmpR op_eq (pv 4) (pv 9) (nomark _)) (pe_one (pe_cmpR op_eq (pv 5) (pv 10) (nomark _)))) (nomark _)) (pw_or1 (pt_cmpR op_eq (pe_cmpR (op_neO (E := E0) (G_House___eq__ T) (hr.mono (by decide)) T.ne_House T.eq_House T.F_House___eq__i T.ob_House T.b_House___eq__ pass0) (pv 7) (pv 11) (nomark _)) (pe_cmpR (op_eqO (E := E0) (G_House___eq__ T) (hr.mono (by decide)) T.eq_House T.F_House___eq__i T.b_House___eq__ pass0) (pv 7) (pv 11) (nomark _)) (nomark _))))) (pss_one (ps_ret pe_bl)) pss_nil)
          (pss_cons (ps_if (PW.pt (pw_or (pt_not (pt_cmpR (op_eqO (E := E0) (G_House___eq__ T) (hr.mono (by decide)) T.eq_House T.F_House___eq__i T.b_House___eq__ pass0) (pv 7) (pe_make T.mk_House (G_House___init__ T) (hr.mono (by decide)) rfl T.g_House T.b_House___init__ .nil passL (pa_cons (pv 4) (pa_cons (pv 5) pa_nil))) (nomark _))) (pw_or1 (pt_cmpR (op_neO (E := E0) (G_House___eq__ T) (hr.mono (by decide)) T.ne_House T.eq_House T.F_House___eq__i T.ob_House T.b_House___eq__ pass0) (pv 7) (pe_make T.mk_House (G_House___init__ T) (hr.mono (by decide)) rfl T.g_House T.b_House___init__ .nil passL (pa_cons (pv 4) (pa_cons (pv 5) pa_nil))) (nomark _))))) (pss_one (ps_ret pe_bl)) pss_nil)
          (pss_one (ps_if (PW.pt (pw_or (pt_cmpR (op_eqO (E := E0) (G_House___eq__ T) (hr.mono (by decide)) T.eq_House T.F_House___eq__i T.b_House___eq__ pass0) (pv 7) (pv 4) (nomark _)) (pw_or (pt_cmpR (op_eqO (E := E0) (G_House___eq__ T) (hr.mono (by decide)) T.eq_House T.F_House___eq__i T.b_House___eq__ pass0) (pv 7) (pe_tup (pa_cons (pv 4) (pa_cons (pv 5) pa_nil))) (nomark _)) (pw_or (pt_cmpR (op_eqO (E := E0) (G_House___eq__ T) (hr.mono (by decide)) T.eq_House T.F_House___eq__i T.b_House___eq__ pass0) (pv 7) (pe_tup pa_nil) (nomark _)) (pw_or1 (pt_not (pt_cmpR (op_neO (E := E0) (G_House___eq__ T) (hr.mono (by decide)) T.ne_House T.eq_House T.F_House___eq__i T.ob_House T.b_House___eq__ pass0) (pv 7) pe_str (nomark _)))))))) (pss_one (ps_ret pe_bl)) pss_nil)))))))))))))))
          (pss_one (ps_ret (pe_and (pe_cmpR (op_eqO (E := E0) (G_House___eq__ T) (hr.mono (by decide)) T.eq_House T.F_House___eq__i T.b_House___eq__ pass0) (pe_make T.mk_House (G_House___init__ T) (hr.mono (by decide)) rfl T.g_House T.b_House___init__ .nil passL (pa_cons pe_int (pa_cons pe_int pa_nil))) (pe_make T.mk_House (G_House___init__ T) (hr.mono (by decide)) rfl T.g_House T.b_House___init__ .nil passL (pa_cons pe_int (pa_cons pe_int pa_nil))) (nomark _)) (pe_and (pe_cmpR (op_neO (E := E0) (G_House___eq__ T) (hr.mono (by decide)) T.ne_House T.eq_House T.F_House___eq__i T.ob_House T.b_House___eq__ pass0) (pe_make T.mk_House (G_House___init__ T) (hr.mono (by decide)) rfl T.g_House T.b_House___init__ .nil passL (pa_cons pe_int (pa_cons pe_int pa_nil))) (pe_make T.mk_House (G_House___init__ T) (hr.mono (by decide)) rfl T.g_House T.b_House___init__ .nil passL (pa_cons pe_int (pa_cons pe_int pa_nil))) (nomark _)) (pe_one (pe_cmpR (op_neO (E := E0) (G_House___eq__ T) (hr.mono (by decide)) T.ne_House T.eq_House T.F_House___eq__i T.ob_House T.b_House___eq__ pass0) (pe_make T.mk_House (G_House___init__ T) (hr.mono (by decide)) rfl T.g_House T.b_House___init__ .nil passL (pa_cons pe_int (pa_cons pe_int pa_nil))) (pe_make T.mk_House (G_House___init__ T) (hr.mono (by decide)) rfl T.g_House T.b_House___init__ .nil passL (pa_cons pe_int (pa_cons pe_int pa_nil))) (nomark _))))))))))), ?_⟩
    dsimp only [cxOf, Cx.nox]
    (walk_at "zs")
    refine ⟨a, ns, rfl, hS, hl, fun h c H1 sm hd _ _ => ?_⟩
    (walk_at "zs")
    refine z_pow (n := 1000000000000) ⟨by decide, by decide, by decide⟩ rfl ?_
    (walk_at "zs")
    refine z_house hd (.int _) (.int _) rfl rfl fun hx H2 g2 _ r2 => ?_
    have hd2 := g2.2 hd
    (walk_at "zs")
    refine ⟨_, rfl, by decide, by decide, for_range (lo := 0) (n := 8) (fun _ σ H3 => (∃ u3 u4 u5 u6 u7 u8 u9 u10 u11, σ = [some (.ref a), some (.ref h), some (.ref hx), u3, u4, u5, u6, u7, u8, u9, u10, u11]) ∧ Go h c H2 H3) ⟨⟨_, _, _, _, _, _, _, _, _, rfl⟩, Go.refl H2⟩ ?_ ?_⟩
    · rintro i σ H3 _ ⟨⟨u3, u4, u5, u6, u7, u8, u9, u10, u11, rfl⟩, g3⟩
      have hd3 := g3.2 hd2
      have r3 := g3.r r2
      (walk_at "zs")
      refine ⟨h, c, _, _, _, _, rfl, hd3, by decide, r3, fun fv fd H4 g4 r4 w4 => ?_⟩
      have hd4 := g4.2 hd3
      (walk_at "zs")
      refine z_pow (n := 1000000000000) ⟨by decide, by decide, by decide⟩ rfl ?_
      (walk_at "zs")
      refine ⟨h, c, _, _, _, _, rfl, hd4, by decide, g4.r r3, fun rv rd H5 g5 r5 w5 => ?_⟩
      have hd5 := g5.2 hd4
      have g35 := g4.trans g5
      have r4' := g5.r r4
      (walk_at "zs")
      refine ⟨h, c, fv, rv, fd, rd, rfl, hd5, r4', r5, fun tv H6 g6 r6 => ?_⟩
      have hd6 := g6.2 hd5
      have g36 := g35.trans g6
      have rf := g6.r r4'
      have rr := g6.r r5
      cases e1 : fd.bet 2 40 with
      | false =>
        rw [e1] at r6
        obtain ⟨ta, tvs, rfl, _, ht, st⟩ := r6.tup_inv
        obtain ⟨_, _, rfl, q1, q2⟩ := st.two
        cases q1
        cases q2
        refine z_gtup ht rfl ?_
        (walk_at "zs")
        refine ⟨h, fv, fd, _, _, rfl, rf, ?_⟩
        rw [e1]
        (walk_at "zs")
        refine z_neS true (by decide +kernel) ?_
        (walk_at "zs")
        refine z_neS false (by decide +kernel) ?_
        (walk_at "zs")
        refine z_neS false (by decide +kernel) ?_
        (walk_at "zs")
        exact ⟨⟨_, _, _, _, _, _, _, _, _, rfl⟩, g3.trans g36⟩
      | true =>
        rw [e1] at r6
        cases e2 : rd.bet 1 1000000000000 with
        | false =>
          rw [e2] at r6
          obtain ⟨ta, tvs, rfl, _, ht, st⟩ := r6.tup_inv
          obtain ⟨_, _, rfl, q1, q2⟩ := st.two
          cases q1
          cases q2
          refine z_gtup ht rfl ?_
          (walk_at "zs")
          refine ⟨h, fv, fd, _, _, rfl, rf, ?_⟩
          rw [e1]
          (walk_at "zs")
          refine z_pow (n := 1000000000000) ⟨by decide, by decide, by decide⟩ rfl ?_
          (walk_at "zs")
          refine ⟨h, rv, rd, _, _, rfl, rr, ?_⟩
          rw [e2]
          (walk_at "zs")
          refine z_neS true (by decide +kernel) ?_
          (walk_at "zs")
          refine z_neS false (by decide +kernel) ?_
          (walk_at "zs")
          refine z_neS false (by decide +kernel) ?_
          (walk_at "zs")
          exact ⟨⟨_, _, _, _, _, _, _, _, _, rfl⟩, g3.trans g36⟩
        | true =>
          rw [e2] at r6
          obtain ⟨ta, tvs, rfl, _, ht, st⟩ := r6.tup_inv
          obtain ⟨_, tx, rfl, q1, rx⟩ := st.two
          cases q1
          refine z_gtup ht rfl ?_
          (walk_at "zs")
          refine ⟨h, fv, fd, _, _, rfl, rf, ?_⟩
          rw [e1]
          (walk_at "zs")
          refine z_pow (n := 1000000000000) ⟨by decide, by decide, by decide⟩ rfl ?_
          (walk_at "zs")
          refine ⟨h, rv, rd, _, _, rfl, rr, ?_⟩
          rw [e2]
          (walk_at "zs")
          refine z_neS false (by decide +kernel) ?_
          (walk_at "zs")
          refine z_neS false (by decide +kernel) ?_
          obtain ⟨f, rfl⟩ : ∃ f, fd = .int f := by cases fd <;> first | exact ⟨_, rfl⟩ | exact Bool.noConfusion e1
          obtain ⟨r, rfl⟩ : ∃ r, rd = .int r := by cases rd <;> first | exact ⟨_, rfl⟩ | exact Bool.noConfusion e2
          have fe := rf.int_inv
          have re := rr.int_inv
          subst fe
          subst re
          have hf : 2 ≤ f ∧ f ≤ 40 := by
            have z : (decide (2 ≤ f) && decide (f ≤ 40)) = true := e1
            simpa using z
          have hr1 : 1 ≤ r ∧ r ≤ 1000000000000 := by
            have z : (decide (1 ≤ r) && decide (r ≤ 1000000000000)) = true := e2
            simpa using z
          obtain ⟨xa, xd, xvs, rfl, _, hxa, sx, _⟩ := rx.ins_inv
          obtain ⟨_, _, rfl, q1, q2⟩ := sx.two
          cases q1
          cases q2
          have nr : ¬ ("room" : Str) = "floors" := by decide +kernel
          (walk_at "zs")
          refine isi_own (c := 0) T.kits rx ?_
          have ho : (Dt.ins 0 ["floors", "room"] [.int f, .int r]).isO A.cl (A.cl 0) = true := by
            show decide (A.cl 0 = A.cl 0) = true
            simp
          rw [ho]
          (walk_at "zs")
          refine ⟨xa, _, xd, _, _, rfl, hxa, (T.kits.kit 0).cl, T.na_House_floors, lk_fst, ?_⟩
          (walk_at "zs")
          rw [decide_eq_true rfl]
          (walk_at "zs")
          refine ⟨xa, _, xd, _, _, rfl, hxa, (T.kits.kit 0).cl, T.na_House_room, (lk_nxt nr).trans lk_fst, ?_⟩
          (walk_at "zs")
          rw [decide_eq_true rfl]
          (walk_at "zs")
          refine ⟨xa, _, xd, _, _, rfl, hxa, (T.kits.kit 0).cl, T.na_House_floors, lk_fst, ?_⟩
          (walk_at "zs")
          refine isi_boolI ?_
          (walk_at "zs")
          refine ⟨xa, _, xd, _, _, rfl, hxa, (T.kits.kit 0).cl, T.na_House_room, (lk_nxt nr).trans lk_fst, ?_⟩
          (walk_at "zs")
          refine isi_boolI ?_
          (walk_at "zs")
          refine ⟨h, c, _, rfl, hd6, by decide, by decide, fun m1 H7 m10 m11 g7 => ?_⟩
          (walk_at "zs")
          refine ⟨h, c, _, rfl, g7.2 hd6, by decide, by decide, fun m2 H8 m20 m21 g8 => ?_⟩
          have hd8 := g8.2 (g7.2 hd6)
          have rx8 := g8.r (g7.r rx)
          (walk_at "zs")
          have b1 : (Dt.int (2 + m1)).bet 2 40 = true := by
            show (decide (2 ≤ 2 + m1) && decide (2 + m1 ≤ 40)) = true
            simp only [Bool.and_eq_true, decide_eq_true_eq]
            omega
          have b2 : (Dt.int (1 + m2)).bet 1 1000000000000 = true := by
            show (decide (1 ≤ 1 + m2) && decide (1 + m2 ≤ 1000000000000)) = true
            simp only [Bool.and_eq_true, decide_eq_true_eq]
            omega
          refine z_house hd8 (.int _) (.int _) b1 b2 fun xo H9 g9 _ r9 => ?_
          have hd9 := g9.2 hd8
          have rx9 := g9.r rx8
          (walk_at "zs")
          refine z_hh T rx9 r9 ?_
          (walk_at "zs")
          have g69 := (g7.trans g8).trans g9
          -- (told == other) is as told, whichever way it is
          have go : Go h c H2 H9 := (g3.trans g36).trans g69
          refine z_ite (fun c1 => ?_) (fun c1 => ?_)
          all_goals (
            (walk_at "zs")
            refine z_neBs (by first | (rw [Bool.eq_iff_iff, decide_eq_true_iff, decide_eq_true_iff]; omega) | (rw [decide_eq_false (by omega)])) ?_
            (walk_at "zs")
            refine z_hhN T rx9 r9 ?_
            (walk_at "zs")
            refine z_hh T rx9 r9 ?_
            refine z_eqBn (by cases decide (2 + m1 = f ∧ 1 + m2 = r) <;> decide) ?_
            (walk_at "zs")
            refine z_house hd9 (.int _) (.int _) e1 e2 fun x10 H10 g10 _ r10 => ?_
            have hd10 := g10.2 hd9
            have rx10 := g10.r rx9
            refine z_hh T rx10 r10 ?_
            (walk_at "zs")
            refine z_iteD (fun z => absurd ⟨rfl, rfl⟩ z) (fun _ => ?_)
            (walk_at "zs")
            refine z_house hd10 (.int _) (.int _) e1 e2 fun x11 H11 g11 _ r11 => ?_
            have hd11 := g11.2 hd10
            have rx11 := g11.r rx10
            refine z_hhN T rx11 r11 ?_
            (walk_at "zs")
            refine z_iteD (fun z => absurd ⟨rfl, rfl⟩ z) (fun _ => ?_)
            (walk_at "zs")
            refine z_ho T rx11 (.int f) rfl ?_
            (walk_at "zs")
            refine z_newT (cl := A.cl) hd11 (.cons (.int _) (.cons (.int _) .nil)) fun x12 H12 g12 _ r12 => ?_
            have hd12 := g12.2 hd11
            have rx12 := g12.r rx11
            refine z_ho T rx12 r12 rfl ?_
            (walk_at "zs")
            refine z_newT (cl := A.cl) hd12 .nil fun x13 H13 g13 _ r13 => ?_
            have rx13 := g13.r rx12
            refine z_ho T rx13 r13 rfl ?_
            (walk_at "zs")
            refine z_hoN T rx13 (.str _) rfl ?_
            (walk_at "zs")
            exact ⟨⟨_, _, _, _, _, _, _, _, _, rfl⟩, (((go.trans g10).trans g11).trans g12).trans g13⟩)
    · rintro σ H3 ⟨⟨u3, u4, u5, u6, u7, u8, u9, u10, u11, rfl⟩, g3⟩
      have hd3 := g3.2 hd2
      (walk_at "zs")
      refine z_house hd3 (.int _) (.int _) rfl rfl fun x4 H4 g4 _ r4 => ?_
      have hd4 := g4.2 hd3
      (walk_at "zs")
      refine z_house hd4 (.int _) (.int _) rfl rfl fun x5 H5 g5 _ r5 => ?_
      have hd5 := g5.2 hd4
      (walk_at "zs")
      refine z_hh T (g5.r r4) r5 ?_
      (walk_at "zs")
      refine z_ite (fun _ => ?_) (fun z => absurd ⟨rfl, rfl⟩ z)
      (walk_at "zs")
      refine z_house hd5 (.int _) (.int _) rfl rfl fun x6 H6 g6 _ r6 => ?_
      have hd6 := g6.2 hd5
      (walk_at "zs")
      refine z_house hd6 (.int _) (.int _) rfl rfl fun x7 H7 g7 _ r7 => ?_
      have hd7 := g7.2 hd6
      (walk_at "zs")
      refine z_hhN T (g7.r r6) r7 ?_
      (walk_at "zs")
      refine z_iteD (fun _ => ?_) (fun z => absurd z.1 (by decide))
      (walk_at "zs")
      refine z_house hd7 (.int _) (.int _) rfl rfl fun x8 H8 g8 _ r8 => ?_
      have hd8 := g8.2 hd7
      (walk_at "zs")
      refine z_house hd8 (.int _) (.int _) rfl rfl fun x9 H9 g9 _ r9 => ?_
      (walk_at "zs")
      refine z_hhN T (g9.r r8) r9 ?_
      rw [decide_eq_false (fun z => absurd z.2 (by decide))]
      exact k _
end
theorem all_mk {P : Program} {w : World} {K : PySem.W.Frag} {h : Heap} {mg : Str → Option Value} (X : K.In h) (G : h.Ns mainGlobals mg) {fa : Addr} (hfa : mg "law" = some (.ref fa))
    (hl_MOST_ROOM : ∃ t, mg "MOST_ROOM" = some (.int 1000000000000 t))
    {c_LiftError c_BadHouse c_House a__law_hand a_is_integer a_is_between a_BadHouse___init__ a_House___init__ a__law_told a_House___eq__ a__law_draw a__law_some a__law_great a__law_deep a__law_part a__law_is_int a_law : Addr} {od__law_hand an__law_hand od_is_integer an_is_integer od_is_between an_is_between od_BadHouse___init__ an_BadHouse___init__ od_House___init__ an_House___init__ od__law_told an__law_told od_House___eq__ an_House___eq__ od__law_draw an__law_draw od__law_some an__law_some od__law_great an__law_great od__law_deep an__law_deep od__law_part an__law_part od__law_is_int an__law_is_int od_law an_law : Option Addr} {sl__law_hand sl_is_integer sl_is_between sl_BadHouse___init__ sl_House___init__ sl__law_told sl_House___eq__ sl__law_draw sl__law_some sl__law_great sl__law_deep sl__law_part sl__law_is_int sl_law : Array (Option Value)} {oc__law_hand kV__law_hand dc__law_hand pm__law_hand cd__law_hand ct__law_hand oc_is_integer kV_is_integer dc_is_integer pm_is_integer cd_is_integer ct_is_integer oc_is_between kV_is_between dc_is_between pm_is_between cd_is_between ct_is_between oc_BadHouse___init__ kV_BadHouse___init__ dc_BadHouse___init__ pm_BadHouse___init__ cd_BadHouse___init__ ct_BadHouse___init__ oc_House___init__ kV_House___init__ dc_House___init__ pm_House___init__ cd_House___init__ ct_House___init__ oc__law_told kV__law_told dc__law_told pm__law_told cd__law_told ct__law_told oc_House___eq__ kV_House___eq__ dc_House___eq__ pm_House___eq__ cd_House___eq__ ct_House___eq__ oc__law_draw kV__law_draw dc__law_draw pm__law_draw cd__law_draw ct__law_draw oc__law_some kV__law_some dc__law_some pm__law_some cd__law_some ct__law_some oc__law_great kV__law_great dc__law_great pm__law_great cd__law_great ct__law_great oc__law_deep kV__law_deep dc__law_deep pm__law_deep cd__law_deep ct__law_deep oc__law_part kV__law_part dc__law_part pm__law_part cd__law_part ct__law_part oc__law_is_int kV__law_is_int dc__law_is_int pm__law_is_int cd__law_is_int ct__law_is_int oc_law kV_law dc_law pm_law cd_law ct_law : Value} {tv_MOST_FLOORS : Tok}
    {nm_BadHouse q_BadHouse : Str} {N_BadHouse : Addr} {bs_BadHouse : List Value} {sn_BadHouse : List Str} {sub_BadHouse : List Value} {ab_BadHouse : Bool} {col_BadHouse : Option Bool} {dd_BadHouse : Option Addr} {m0_BadHouse m1_BadHouse m2_BadHouse m3_BadHouse m5_BadHouse : Option Value}
    (gC_LiftError : PySem.W.nsIn K mainGlobals "LiftError" = some (some (.ref c_LiftError)))
    (gC_BadHouse : PySem.W.nsIn K mainGlobals "BadHouse" = some (some (.ref c_BadHouse)))
    (gC_House : PySem.W.nsIn K mainGlobals "House" = some (some (.ref c_House)))
    (hA__law_hand : PySem.W.nsIn K mainGlobals "_law_hand" = some (some (.ref a__law_hand)))
    (hL__law_hand : K.lookup a__law_hand = some ⟨oc__law_hand, od__law_hand, .func (PySem.W.fnOf "_law_hand" "_law_hand" (defArgs s__law_hand) (defBody s__law_hand) (defScope s__law_hand) .none kV__law_hand dc__law_hand pm__law_hand an__law_hand cd__law_hand ct__law_hand), sl__law_hand⟩)
    (hC__law_hand : PySem.W.codeIn K cd__law_hand "_law_hand" = true)
    (hK__law_hand : PySem.W.keepIn K (.ref a__law_hand) = true)
    (hA_is_integer : PySem.W.nsIn K mainGlobals "is_integer" = some (some (.ref a_is_integer)))
    (hL_is_integer : K.lookup a_is_integer = some ⟨oc_is_integer, od_is_integer, .func (PySem.W.fnOf "is_integer" "is_integer" (defArgs s_is_integer) (defBody s_is_integer) (defScope s_is_integer) .none kV_is_integer dc_is_integer pm_is_integer an_is_integer cd_is_integer ct_is_integer), sl_is_integer⟩)
    (hC_is_integer : PySem.W.codeIn K cd_is_integer "is_integer" = true)
    (hK_is_integer : PySem.W.keepIn K (.ref a_is_integer) = true)
    (hA_is_between : PySem.W.nsIn K mainGlobals "is_between" = some (some (.ref a_is_between)))
    (hL_is_between : K.lookup a_is_between = some ⟨oc_is_between, od_is_between, .func (PySem.W.fnOf "is_between" "is_between" (defArgs s_is_between) (defBody s_is_between) (defScope s_is_between) .none kV_is_between dc_is_between pm_is_between an_is_between cd_is_between ct_is_between), sl_is_between⟩)
    (hC_is_between : PySem.W.codeIn K cd_is_between "is_between" = true)
    (hK_is_between : PySem.W.keepIn K (.ref a_is_between) = true)
    (hA_BadHouse___init__ : PySem.W.findIn K (.ref c_BadHouse) "__init__" = some (some (.ref a_BadHouse___init__)))
    (hL_BadHouse___init__ : K.lookup a_BadHouse___init__ = some ⟨oc_BadHouse___init__, od_BadHouse___init__, .func (PySem.W.fnOf "__init__" "BadHouse.__init__" (defArgs s_BadHouse___init__) (defBody s_BadHouse___init__) (defScope s_BadHouse___init__) .none kV_BadHouse___init__ dc_BadHouse___init__ pm_BadHouse___init__ an_BadHouse___init__ cd_BadHouse___init__ ct_BadHouse___init__), sl_BadHouse___init__⟩)
    (hC_BadHouse___init__ : PySem.W.codeIn K cd_BadHouse___init__ "BadHouse.__init__" = true)
    (hK_BadHouse___init__ : PySem.W.keepIn K (.ref a_BadHouse___init__) = true)
    (hA_House___init__ : PySem.W.findIn K (.ref c_House) "__init__" = some (some (.ref a_House___init__)))
    (hL_House___init__ : K.lookup a_House___init__ = some ⟨oc_House___init__, od_House___init__, .func (PySem.W.fnOf "__init__" "House.__init__" (defArgs s_House___init__) (defBody s_House___init__) (defScope s_House___init__) .none kV_House___init__ dc_House___init__ pm_House___init__ an_House___init__ cd_House___init__ ct_House___init__), sl_House___init__⟩)
    (hC_House___init__ : PySem.W.codeIn K cd_House___init__ "House.__init__" = true)
    (hK_House___init__ : PySem.W.keepIn K (.ref a_House___init__) = true)
    (hI_House___init__ : PySem.W.isFn K (.ref a_House___init__) = true)
    (hA__law_told : PySem.W.nsIn K mainGlobals "_law_told" = some (some (.ref a__law_told)))
    (hL__law_told : K.lookup a__law_told = some ⟨oc__law_told, od__law_told, .func (PySem.W.fnOf "_law_told" "_law_told" (defArgs s__law_told) (defBody s__law_told) (defScope s__law_told) .none kV__law_told dc__law_told pm__law_told an__law_told cd__law_told ct__law_told), sl__law_told⟩)
    (hC__law_told : PySem.W.codeIn K cd__law_told "_law_told" = true)
    (hK__law_told : PySem.W.keepIn K (.ref a__law_told) = true)
    (hA_House___eq__ : PySem.W.findIn K (.ref c_House) "__eq__" = some (some (.ref a_House___eq__)))
    (hL_House___eq__ : K.lookup a_House___eq__ = some ⟨oc_House___eq__, od_House___eq__, .func (PySem.W.fnOf "__eq__" "House.__eq__" (defArgs s_House___eq__) (defBody s_House___eq__) (defScope s_House___eq__) .none kV_House___eq__ dc_House___eq__ pm_House___eq__ an_House___eq__ cd_House___eq__ ct_House___eq__), sl_House___eq__⟩)
    (hC_House___eq__ : PySem.W.codeIn K cd_House___eq__ "House.__eq__" = true)
    (hK_House___eq__ : PySem.W.keepIn K (.ref a_House___eq__) = true)
    (hI_House___eq__ : PySem.W.isFn K (.ref a_House___eq__) = true)
    (hA__law_draw : PySem.W.nsIn K mainGlobals "_law_draw" = some (some (.ref a__law_draw)))
    (hL__law_draw : K.lookup a__law_draw = some ⟨oc__law_draw, od__law_draw, .func (PySem.W.fnOf "_law_draw" "_law_draw" (defArgs s__law_draw) (defBody s__law_draw) (defScope s__law_draw) .none kV__law_draw dc__law_draw pm__law_draw an__law_draw cd__law_draw ct__law_draw), sl__law_draw⟩)
    (hC__law_draw : PySem.W.codeIn K cd__law_draw "_law_draw" = true)
    (hK__law_draw : PySem.W.keepIn K (.ref a__law_draw) = true)
    (hA__law_some : PySem.W.nsIn K mainGlobals "_law_some" = some (some (.ref a__law_some)))
    (hL__law_some : K.lookup a__law_some = some ⟨oc__law_some, od__law_some, .func (PySem.W.fnOf "_law_some" "_law_some" (defArgs s__law_some) (defBody s__law_some) (defScope s__law_some) .none kV__law_some dc__law_some pm__law_some an__law_some cd__law_some ct__law_some), sl__law_some⟩)
    (hC__law_some : PySem.W.codeIn K cd__law_some "_law_some" = true)
    (hK__law_some : PySem.W.keepIn K (.ref a__law_some) = true)
    (hA__law_great : PySem.W.nsIn K mainGlobals "_law_great" = some (some (.ref a__law_great)))
    (hL__law_great : K.lookup a__law_great = some ⟨oc__law_great, od__law_great, .func (PySem.W.fnOf "_law_great" "_law_great" (defArgs s__law_great) (defBody s__law_great) (defScope s__law_great) .none kV__law_great dc__law_great pm__law_great an__law_great cd__law_great ct__law_great), sl__law_great⟩)
    (hC__law_great : PySem.W.codeIn K cd__law_great "_law_great" = true)
    (hK__law_great : PySem.W.keepIn K (.ref a__law_great) = true)
    (hA__law_deep : PySem.W.nsIn K mainGlobals "_law_deep" = some (some (.ref a__law_deep)))
    (hL__law_deep : K.lookup a__law_deep = some ⟨oc__law_deep, od__law_deep, .func (PySem.W.fnOf "_law_deep" "_law_deep" (defArgs s__law_deep) (defBody s__law_deep) (defScope s__law_deep) .none kV__law_deep dc__law_deep pm__law_deep an__law_deep cd__law_deep ct__law_deep), sl__law_deep⟩)
    (hC__law_deep : PySem.W.codeIn K cd__law_deep "_law_deep" = true)
    (hK__law_deep : PySem.W.keepIn K (.ref a__law_deep) = true)
    (hA__law_part : PySem.W.nsIn K mainGlobals "_law_part" = some (some (.ref a__law_part)))
    (hL__law_part : K.lookup a__law_part = some ⟨oc__law_part, od__law_part, .func (PySem.W.fnOf "_law_part" "_law_part" (defArgs s__law_part) (defBody s__law_part) (defScope s__law_part) .none kV__law_part dc__law_part pm__law_part an__law_part cd__law_part ct__law_part), sl__law_part⟩)
    (hC__law_part : PySem.W.codeIn K cd__law_part "_law_part" = true)
    (hK__law_part : PySem.W.keepIn K (.ref a__law_part) = true)
    (hA__law_is_int : PySem.W.nsIn K mainGlobals "_law_is_int" = some (some (.ref a__law_is_int)))
    (hL__law_is_int : K.lookup a__law_is_int = some ⟨oc__law_is_int, od__law_is_int, .func (PySem.W.fnOf "_law_is_int" "_law_is_int" (defArgs s__law_is_int) (defBody s__law_is_int) (defScope s__law_is_int) .none kV__law_is_int dc__law_is_int pm__law_is_int an__law_is_int cd__law_is_int ct__law_is_int), sl__law_is_int⟩)
    (hC__law_is_int : PySem.W.codeIn K cd__law_is_int "_law_is_int" = true)
    (hK__law_is_int : PySem.W.keepIn K (.ref a__law_is_int) = true)
    (hA_law : PySem.W.nsIn K mainGlobals "law" = some (some (.ref a_law)))
    (hL_law : K.lookup a_law = some ⟨oc_law, od_law, .func (PySem.W.fnOf "law" "law" (defArgs s_law) (defBody s_law) (defScope s_law) .none kV_law dc_law pm_law an_law cd_law ct_law), sl_law⟩)
    (hC_law : PySem.W.codeIn K cd_law "law" = true)
    (hK_law : PySem.W.keepIn K (.ref a_law) = true)
    (k1_House : PySem.W.plainGet K c_House Str.empty = true)
    (k2_House : PySem.W.hasDictIn K c_House = true)
    (k3_House : PySem.W.plainOver K c_House = true)
    (k4_House : PySem.W.findIn K (.ref c_House) "__setattr__" = some (some (.builtin "object.__setattr__")))
    (k5_House : PySem.W.findIn K (.ref c_House) "__class__" = some (some (.builtin "object.__class__")))
    (k6_House : PySem.W.mroIn K c_House (.type "object") = some true)
    (k7_House : PySem.W.isClsIn K c_House = true)
    (k8_House : PySem.W.typeIn K (.ref c_House) = some (.type "type"))
    (ktint_House : PySem.W.mroIn K c_House (.type "int") = some false)
    (ktbool_House : PySem.W.mroIn K c_House (.type "bool") = some false)
    (ktstr_House : PySem.W.mroIn K c_House (.type "str") = some false)
    (ktlist_House : PySem.W.mroIn K c_House (.type "list") = some false)
    (kttuple_House : PySem.W.mroIn K c_House (.type "tuple") = some false)
    (ktdict_House : PySem.W.mroIn K c_House (.type "dict") = some false)
    (k9_House : PySem.W.makesIn K c_House = true)
    (k0_House : PySem.W.keepIn K (.ref c_House) = true)
    (ne_House : PySem.W.findIn K (.ref c_House) "__ne__" = some (some (.builtin "object.__ne__")))
    (na_House_floors : PySem.W.findIn K (.ref c_House) "floors" = some none)
    (na_House_room : PySem.W.findIn K (.ref c_House) "room" = some none)
    (kk1 : PySem.W.specialIn K (.builtin "object.__class__") "__get__" = some (some (.builtin "getset_descriptor.__get__")))
    (kk2 : PySem.W.takesIn K (.builtin "object.__class__") = some true)
    (kd_House_House : PySem.W.mroIn K c_House (.ref c_House) = some true)
    (x0_BadHouse : K.lookup c_BadHouse = some (PySem.excClassObj nm_BadHouse q_BadHouse c_BadHouse N_BadHouse bs_BadHouse [.ref c_LiftError, .type "ValueError", .type "Exception", .type "BaseException", .type "object"] true sn_BadHouse sub_BadHouse ab_BadHouse col_BadHouse dd_BadHouse m0_BadHouse m1_BadHouse m2_BadHouse m3_BadHouse m5_BadHouse "ValueError.__new__"))
    (x1_BadHouse : PySem.W.findIn K (.ref c_BadHouse) "__setattr__" = some (some (.builtin "object.__setattr__")))
    (x2_BadHouse : PySem.W.subIn K (.ref c_BadHouse) (.type "BaseException") = some true)
    (x3_BadHouse : PySem.W.typeIn K (.ref c_BadHouse) = some (.type "type"))
    (x4_BadHouse : PySem.W.keepIn K (.ref c_BadHouse) = true)
    (x5_BadHouse : PySem.W.typeIn K (.ref a_BadHouse___init__) = some (.type "function"))
    (x6_BadHouse : PySem.W.findIn K (.ref c_BadHouse) "__getattribute__" = some (some (.builtin "BaseException.__getattribute__")))
    (x7_BadHouse : PySem.W.findIn K (.ref c_BadHouse) "__getattr__" = some none)
    (x8_BadHouse : PySem.W.hasDictIn K c_BadHouse = true)
    (no_BadHouse : PySem.W.findIn K (.ref c_BadHouse) "part" = some none)
    (y2_BadHouse : PySem.W.subIn K (.ref c_BadHouse) (.type "BaseException") = some true)
    (y3_BadHouse : PySem.W.typeIn K (.ref c_BadHouse) = some (.type "type"))
    (y8_BadHouse : PySem.W.hasDictIn K c_BadHouse = true)
    (y_BadHouse_BadHouse : PySem.W.subIn K (.ref c_BadHouse) (.ref c_BadHouse) = some true)
    (hv_MOST_FLOORS : PySem.W.nsIn K mainGlobals "MOST_FLOORS" = some (some (.int 40 tv_MOST_FLOORS)))
    (hz_abs : PySem.W.nsIn K mainGlobals "abs" = some none)
    (hz_bool : PySem.W.nsIn K mainGlobals "bool" = some none)
    (hz_int : PySem.W.nsIn K mainGlobals "int" = some none)
    (hz_isinstance : PySem.W.nsIn K mainGlobals "isinstance" = some none)
    (hz_len : PySem.W.nsIn K mainGlobals "len" = some none)
    (hz_range : PySem.W.nsIn K mainGlobals "range" = some none) :
    ∃ fd : FuncData, (∀ (s : Shared) (v : Value), BindsTo s fd ⟨[v], []⟩ [("script", v)]) ∧ ∀ base : Heap, K.In base → base.Ns mainGlobals mg → FnOk P w K mg base CX0 6 fa fd ["script"] (spLaw K) := by
  have e := (PySem.W.mg_of X G hA_law).symm.trans hfa
  cases e
  have T : Txt K mg { c_LiftError := c_LiftError, c_BadHouse := c_BadHouse, c_House := c_House, a__law_hand := a__law_hand, d__law_hand := (PySem.W.fnOf "_law_hand" "_law_hand" (defArgs s__law_hand) (defBody s__law_hand) (defScope s__law_hand) .none kV__law_hand dc__law_hand pm__law_hand an__law_hand cd__law_hand ct__law_hand), a_is_integer := a_is_integer, d_is_integer := (PySem.W.fnOf "is_integer" "is_integer" (defArgs s_is_integer) (defBody s_is_integer) (defScope s_is_integer) .none kV_is_integer dc_is_integer pm_is_integer an_is_integer cd_is_integer ct_is_integer), a_is_between := a_is_between, d_is_between := (PySem.W.fnOf "is_between" "is_between" (defArgs s_is_between) (defBody s_is_between) (defScope s_is_between) .none kV_is_between dc_is_between pm_is_between an_is_between cd_is_between ct_is_between), a_BadHouse___init__ := a_BadHouse___init__, d_BadHouse___init__ := (PySem.W.fnOf "__init__" "BadHouse.__init__" (defArgs s_BadHouse___init__) (defBody s_BadHouse___init__) (defScope s_BadHouse___init__) .none kV_BadHouse___init__ dc_BadHouse___init__ pm_BadHouse___init__ an_BadHouse___init__ cd_BadHouse___init__ ct_BadHouse___init__), a_House___init__ := a_House___init__, d_House___init__ := (PySem.W.fnOf "__init__" "House.__init__" (defArgs s_House___init__) (defBody s_House___init__) (defScope s_House___init__) .none kV_House___init__ dc_House___init__ pm_House___init__ an_House___init__ cd_House___init__ ct_House___init__), a__law_told := a__law_told, d__law_told := (PySem.W.fnOf "_law_told" "_law_told" (defArgs s__law_told) (defBody s__law_told) (defScope s__law_told) .none kV__law_told dc__law_told pm__law_told an__law_told cd__law_told ct__law_told), a_House___eq__ := a_House___eq__, d_House___eq__ := (PySem.W.fnOf "__eq__" "House.__eq__" (defArgs s_House___eq__) (defBody s_House___eq__) (defScope s_House___eq__) .none kV_House___eq__ dc_House___eq__ pm_House___eq__ an_House___eq__ cd_House___eq__ ct_House___eq__), a__law_draw := a__law_draw, d__law_draw := (PySem.W.fnOf "_law_draw" "_law_draw" (defArgs s__law_draw) (defBody s__law_draw) (defScope s__law_draw) .none kV__law_draw dc__law_draw pm__law_draw an__law_draw cd__law_draw ct__law_draw), a__law_some := a__law_some, d__law_some := (PySem.W.fnOf "_law_some" "_law_some" (defArgs s__law_some) (defBody s__law_some) (defScope s__law_some) .none kV__law_some dc__law_some pm__law_some an__law_some cd__law_some ct__law_some), a__law_great := a__law_great, d__law_great := (PySem.W.fnOf "_law_great" "_law_great" (defArgs s__law_great) (defBody s__law_great) (defScope s__law_great) .none kV__law_great dc__law_great pm__law_great an__law_great cd__law_great ct__law_great), a__law_deep := a__law_deep, d__law_deep := (PySem.W.fnOf "_law_deep" "_law_deep" (defArgs s__law_deep) (defBody s__law_deep) (defScope s__law_deep) .none kV__law_deep dc__law_deep pm__law_deep an__law_deep cd__law_deep ct__law_deep), a__law_part := a__law_part, d__law_part := (PySem.W.fnOf "_law_part" "_law_part" (defArgs s__law_part) (defBody s__law_part) (defScope s__law_part) .none kV__law_part dc__law_part pm__law_part an__law_part cd__law_part ct__law_part), a__law_is_int := a__law_is_int, d__law_is_int := (PySem.W.fnOf "_law_is_int" "_law_is_int" (defArgs s__law_is_int) (defBody s__law_is_int) (defScope s__law_is_int) .none kV__law_is_int dc__law_is_int pm__law_is_int an__law_is_int cd__law_is_int ct__law_is_int), a_law := fa, d_law := (PySem.W.fnOf "law" "law" (defArgs s_law) (defBody s_law) (defScope s_law) .none kV_law dc_law pm_law an_law cd_law ct_law) } := {
    g_LiftError := PySem.W.mg_of X G gC_LiftError,
    g_BadHouse := PySem.W.mg_of X G gC_BadHouse,
    g_House := PySem.W.mg_of X G gC_House,
    F__law_hand := fun_mk (st := s__law_hand) hL__law_hand hC__law_hand hK__law_hand,
    g__law_hand := PySem.W.mg_of X G hA__law_hand,
    b__law_hand := (fun_mk (st := s__law_hand) hL__law_hand hC__law_hand hK__law_hand).binds (ps := ["script"]) fun _ _ _ _ _ _ us hl => match us, hl with | [_], _ => rfl,
    F_is_integer := fun_mk (st := s_is_integer) hL_is_integer hC_is_integer hK_is_integer,
    g_is_integer := PySem.W.mg_of X G hA_is_integer,
    b_is_integer := (fun_mk (st := s_is_integer) hL_is_integer hC_is_integer hK_is_integer).binds (ps := ["thing"]) fun _ _ _ _ _ _ us hl => match us, hl with | [_], _ => rfl,
    F_is_between := fun_mk (st := s_is_between) hL_is_between hC_is_between hK_is_between,
    g_is_between := PySem.W.mg_of X G hA_is_between,
    b_is_between := (fun_mk (st := s_is_between) hL_is_between hC_is_between hK_is_between).binds (ps := ["low", "high", "thing"]) fun _ _ _ _ _ _ us hl => match us, hl with | [_, _, _], _ => rfl,
    F_BadHouse___init__ := fun_mk (st := s_BadHouse___init__) hL_BadHouse___init__ hC_BadHouse___init__ hK_BadHouse___init__,
    b_BadHouse___init__ := (fun_mk (st := s_BadHouse___init__) hL_BadHouse___init__ hC_BadHouse___init__ hK_BadHouse___init__).binds (ps := ["self", "part"]) fun _ _ _ _ _ _ us hl => match us, hl with | [_, _], _ => rfl,
    F_House___init__ := fun_mk (st := s_House___init__) hL_House___init__ hC_House___init__ hK_House___init__,
    b_House___init__ := (fun_mk (st := s_House___init__) hL_House___init__ hC_House___init__ hK_House___init__).binds (ps := ["self", "floors", "room"]) fun _ _ _ _ _ _ us hl => match us, hl with | [_, _, _], _ => rfl,
    F__law_told := fun_mk (st := s__law_told) hL__law_told hC__law_told hK__law_told,
    g__law_told := PySem.W.mg_of X G hA__law_told,
    b__law_told := (fun_mk (st := s__law_told) hL__law_told hC__law_told hK__law_told).binds (ps := ["floors", "room"]) fun _ _ _ _ _ _ us hl => match us, hl with | [_, _], _ => rfl,
    F_House___eq__ := fun_mk (st := s_House___eq__) hL_House___eq__ hC_House___eq__ hK_House___eq__,
    b_House___eq__ := (fun_mk (st := s_House___eq__) hL_House___eq__ hC_House___eq__ hK_House___eq__).binds (ps := ["self", "other"]) fun _ _ _ _ _ _ us hl => match us, hl with | [_, _], _ => rfl,
    F_House___eq__i := hI_House___eq__,
    F__law_draw := fun_mk (st := s__law_draw) hL__law_draw hC__law_draw hK__law_draw,
    g__law_draw := PySem.W.mg_of X G hA__law_draw,
    b__law_draw := (fun_mk (st := s__law_draw) hL__law_draw hC__law_draw hK__law_draw).binds (ps := ["hand", "many"]) fun _ _ _ _ _ _ us hl => match us, hl with | [_, _], _ => rfl,
    F__law_some := fun_mk (st := s__law_some) hL__law_some hC__law_some hK__law_some,
    g__law_some := PySem.W.mg_of X G hA__law_some,
    b__law_some := (fun_mk (st := s__law_some) hL__law_some hC__law_some hK__law_some).binds (ps := ["hand", "things"]) fun _ _ _ _ _ _ us hl => match us, hl with | [_, _], _ => rfl,
    F__law_great := fun_mk (st := s__law_great) hL__law_great hC__law_great hK__law_great,
    g__law_great := PySem.W.mg_of X G hA__law_great,
    b__law_great := (fun_mk (st := s__law_great) hL__law_great hC__law_great hK__law_great).binds (ps := ["hand", "most"]) fun _ _ _ _ _ _ us hl => match us, hl with | [_, _], _ => rfl,
    F__law_deep := fun_mk (st := s__law_deep) hL__law_deep hC__law_deep hK__law_deep,
    g__law_deep := PySem.W.mg_of X G hA__law_deep,
    b__law_deep := (fun_mk (st := s__law_deep) hL__law_deep hC__law_deep hK__law_deep).binds (ps := ["kind"]) fun _ _ _ _ _ _ us hl => match us, hl with | [_], _ => rfl,
    F__law_part := fun_mk (st := s__law_part) hL__law_part hC__law_part hK__law_part,
    g__law_part := PySem.W.mg_of X G hA__law_part,
    b__law_part := (fun_mk (st := s__law_part) hL__law_part hC__law_part hK__law_part).binds (ps := ["hand", "most", "house"]) fun _ _ _ _ _ _ us hl => match us, hl with | [_, _, _], _ => rfl,
    F__law_is_int := fun_mk (st := s__law_is_int) hL__law_is_int hC__law_is_int hK__law_is_int,
    g__law_is_int := PySem.W.mg_of X G hA__law_is_int,
    b__law_is_int := (fun_mk (st := s__law_is_int) hL__law_is_int hC__law_is_int hK__law_is_int).binds (ps := ["thing", "least", "most"]) fun _ _ _ _ _ _ us hl => match us, hl with | [_, _, _], _ => rfl,
    F_law := fun_mk (st := s_law) hL_law hC_law hK_law,
    g_law := PySem.W.mg_of X G hA_law,
    b_law := (fun_mk (st := s_law) hL_law hC_law hK_law).binds (ps := ["script"]) fun _ _ _ _ _ _ us hl => match us, hl with | [_], _ => rfl,
    mk_House := ⟨k9_House, hA_House___init__, hI_House___init__, k0_House⟩,
    eq_House := hA_House___eq__,
    ne_House := ne_House,
    ob_House := k6_House,
    na_House_floors := na_House_floors,
    na_House_room := na_House_room,
    kits := ⟨fun _ => ⟨⟨k1_House, k2_House, k3_House, k4_House⟩, k5_House, kk1, kk2, k6_House, k7_House, k8_House, ktint_House, ktbool_House, ktstr_House, ktlist_House, kttuple_House, ktdict_House⟩, fun _ _ => by
      show PySem.W.mroIn K c_House (.ref c_House) = some (decide (c_House = c_House))
      rw [decide_eq_true rfl]
      exact kd_House_House⟩,
    oe_BadHouse := ⟨⟨_, _, _, _, _, _, _, _, _, _, _, _, _, _, _, x0_BadHouse, rfl⟩, x1_BadHouse, x2_BadHouse, x3_BadHouse, x4_BadHouse⟩,
    i_BadHouse := hA_BadHouse___init__,
    t_BadHouse := x5_BadHouse,
    xf_BadHouse := ⟨x6_BadHouse, x7_BadHouse, x2_BadHouse, x8_BadHouse⟩,
    no_BadHouse := no_BadHouse,
    em_BadHouse_BadHouse := PySem.W.exm_ref y2_BadHouse y8_BadHouse y3_BadHouse y_BadHouse_BadHouse,
    c_MOST_FLOORS := ⟨_, PySem.W.mg_of X G hv_MOST_FLOORS⟩,
    c_MOST_ROOM := hl_MOST_ROOM,
    n_abs := PySem.W.mg_none_of X G hz_abs,
    n_bool := PySem.W.mg_none_of X G hz_bool,
    n_int := PySem.W.mg_none_of X G hz_int,
    n_isinstance := PySem.W.mg_none_of X G hz_isinstance,
    n_len := PySem.W.mg_none_of X G hz_len,
    n_range := PySem.W.mg_none_of X G hz_range }
  exact ⟨_, fun s v => .of_eq rfl, fun base _ _ => G_law T⟩
end Zo
open PySem PySem.W PyProof.Rows in
set_option maxRecDepth 100000 in
set_option maxHeartbeats 0 in
theorem PySem.Challenge.cw_willinglift_k01_houses_judged_holds : PySem.Challenge.rw_willinglift_k01_houses_judged.Holds := by
  w_on; o_law; k_head; (case hw => w_witness2)
  k_fill
  refine Zo.walk_ofX (l := PySem.Challenge.rw_willinglift_k01_houses_judged) (n := 63) (k := 6) (x := "script") (CX := fun _ => L2.CX0) (sp := Zo.spLaw) rfl (by decide) rfl ⟨rfl, by decide, by decide⟩ (fun w h Y => PySem.W.kIn_of Y) ?F (fun K H a ns hl hO hS => ⟨a, ns, rfl, hS, hl, fun _ => rfl⟩) (fun _ _ _ _ _ z => z)
  case F =>
    intro w mg fa h XP KX G hmg
    have hl_MOST_ROOM := Zo.loose_int (x := "MOST_ROOM") (i := 1000000000000) XP (by simp)
    refine' Zo.all_mk KX G hmg hl_MOST_ROOM ?gC_LiftError ?gC_BadHouse ?gC_House ?hA__law_hand ?hL__law_hand ?hC__law_hand ?hK__law_hand ?hA_is_integer ?hL_is_integer ?hC_is_integer ?hK_is_integer ?hA_is_between ?hL_is_between ?hC_is_between ?hK_is_between ?hA_BadHouse___init__ ?hL_BadHouse___init__ ?hC_BadHouse___init__ ?hK_BadHouse___init__ ?hA_House___init__ ?hL_House___init__ ?hC_House___init__ ?hK_House___init__ ?hI_House___init__ ?hA__law_told ?hL__law_told ?hC__law_told ?hK__law_told ?hA_House___eq__ ?hL_House___eq__ ?hC_House___eq__ ?hK_House___eq__ ?hI_House___eq__ ?hA__law_draw ?hL__law_draw ?hC__law_draw ?hK__law_draw ?hA__law_some ?hL__law_some ?hC__law_some ?hK__law_some ?hA__law_great ?hL__law_great ?hC__law_great ?hK__law_great ?hA__law_deep ?hL__law_deep ?hC__law_deep ?hK__law_deep ?hA__law_part ?hL__law_part ?hC__law_part ?hK__law_part ?hA__law_is_int ?hL__law_is_int ?hC__law_is_int ?hK__law_is_int ?hA_law ?hL_law ?hC_law ?hK_law ?k1_House ?k2_House ?k3_House ?k4_House ?k5_House ?k6_House ?k7_House ?k8_House ?ktint_House ?ktbool_House ?ktstr_House ?ktlist_House ?kttuple_House ?ktdict_House ?k9_House ?k0_House ?ne_House ?na_House_floors ?na_House_room ?kk1 ?kk2 ?kd_House_House ?x0_BadHouse ?x1_BadHouse ?x2_BadHouse ?x3_BadHouse ?x4_BadHouse ?x5_BadHouse ?x6_BadHouse ?x7_BadHouse ?x8_BadHouse ?no_BadHouse ?y2_BadHouse ?y3_BadHouse ?y8_BadHouse ?y_BadHouse_BadHouse ?hv_MOST_FLOORS ?hz_abs ?hz_bool ?hz_int ?hz_isinstance ?hz_len ?hz_range
    (case gC_LiftError => k_is)
    (case gC_BadHouse => k_is)
    (case gC_House => k_is)
    (case hA__law_hand => k_is)
    (case hL__law_hand => k_is)
    (case hC__law_hand => k_is)
    (case hK__law_hand => k_is)
    (case hA_is_integer => k_is)
    (case hL_is_integer => k_is)
    (case hC_is_integer => k_is)
    (case hK_is_integer => k_is)
    (case hA_is_between => k_is)
    (case hL_is_between => k_is)
    (case hC_is_between => k_is)
    (case hK_is_between => k_is)
    (case hA_BadHouse___init__ => k_is)
    (case hL_BadHouse___init__ => k_is)
    (case hC_BadHouse___init__ => k_is)
    (case hK_BadHouse___init__ => k_is)
    (case hA_House___init__ => k_is)
    (case hL_House___init__ => k_is)
    (case hC_House___init__ => k_is)
    (case hK_House___init__ => k_is)
    (case hI_House___init__ => k_is)
    (case hA__law_told => k_is)
    (case hL__law_told => k_is)
    (case hC__law_told => k_is)
    (case hK__law_told => k_is)
    (case hA_House___eq__ => k_is)
    (case hL_House___eq__ => k_is)
    (case hC_House___eq__ => k_is)
    (case hK_House___eq__ => k_is)
    (case hI_House___eq__ => k_is)
    (case hA__law_draw => k_is)
    (case hL__law_draw => k_is)
    (case hC__law_draw => k_is)
    (case hK__law_draw => k_is)
    (case hA__law_some => k_is)
    (case hL__law_some => k_is)
    (case hC__law_some => k_is)
    (case hK__law_some => k_is)
    (case hA__law_great => k_is)
    (case hL__law_great => k_is)
    (case hC__law_great => k_is)
    (case hK__law_great => k_is)
    (case hA__law_deep => k_is)
    (case hL__law_deep => k_is)
    (case hC__law_deep => k_is)
    (case hK__law_deep => k_is)
    (case hA__law_part => k_is)
    (case hL__law_part => k_is)
    (case hC__law_part => k_is)
    (case hK__law_part => k_is)
    (case hA__law_is_int => k_is)
    (case hL__law_is_int => k_is)
    (case hC__law_is_int => k_is)
    (case hK__law_is_int => k_is)
    (case hA_law => k_is)
    (case hL_law => k_is)
    (case hC_law => k_is)
    (case hK_law => k_is)
    (case k1_House => k_is)
    (case k2_House => k_is)
    (case k3_House => k_is)
    (case k4_House => k_is)
    (case k5_House => k_is)
    (case k6_House => k_is)
    (case k7_House => k_is)
    (case k8_House => k_is)
    (case ktint_House => k_is)
    (case ktbool_House => k_is)
    (case ktstr_House => k_is)
    (case ktlist_House => k_is)
    (case kttuple_House => k_is)
    (case ktdict_House => k_is)
    (case k9_House => k_is)
    (case k0_House => k_is)
    (case ne_House => k_is)
    (case na_House_floors => k_is)
    (case na_House_room => k_is)
    (case kk1 => k_is)
    (case kk2 => k_is)
    (case kd_House_House => k_is)
    (case x0_BadHouse => k_is)
    (case x1_BadHouse => k_is)
    (case x2_BadHouse => k_is)
    (case x3_BadHouse => k_is)
    (case x4_BadHouse => k_is)
    (case x5_BadHouse => k_is)
    (case x6_BadHouse => k_is)
    (case x7_BadHouse => k_is)
    (case x8_BadHouse => k_is)
    (case no_BadHouse => k_is)
    (case y2_BadHouse => k_is)
    (case y3_BadHouse => k_is)
    (case y8_BadHouse => k_is)
    (case y_BadHouse_BadHouse => k_is)
    (case hv_MOST_FLOORS => k_is)
    (case hz_abs => k_is)
    (case hz_bool => k_is)
    (case hz_int => k_is)
    (case hz_isinstance => k_is)
    (case hz_len => k_is)
    (case hz_range => k_is)
