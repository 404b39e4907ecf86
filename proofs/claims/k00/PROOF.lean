import PyProof.Rows.All
import Wide.All
import OpenK.AllK
import Wide.FinOn
import HandS.ForMost
import HandS.IsInst
import HandS.OwnEq
import HandS.Evl
import HandS.ExcInit
import HandS.ExcOwn
import HandS.ExcField
import HandS.ExcIs
import HandS.TryOnly
import HandS.WordsExc
import KE.KExcIs
import HandS.ExcValue
import HandS.DictComp
import HandS.SetFor
import HandS.TupLe
import PySem.Challenge.RW_willinglift_k00_errors_of_the_package
set_option Elab.async false
set_option linter.all false
set_option maxRecDepth 100000
set_option maxHeartbeats 8000000
namespace Zo
open PySem L2 PySem.Spec PyProof.Rows
/-! ### the end, with what the computed names of the top hold -/
theorem walk_ofX {l : PySem.W.OpenLaw} {n k : Nat} {q : Program} {loose : List Str} {XP : (Str → Option Value) → Heap → Prop} {YP : World → Heap → Prop} {d : DefRec} {K : Params → PySem.W.Frag} {CX : World → CXT} {sp : PySem.W.Frag → Sp} {x : Str}
    (hn : l.most = some n) (hn2 : n ≤ sizeLine) (hdf : d.params.defaults = []) (hr : Room k callerA)
    (hY : ∀ (w : World) (h : Heap), YP w h → (K w.params).In h)
    (F : ∀ (w : World) (mg : Str → Option Value) (fa : Addr) (h : Heap), XP mg h → (K w.params).In h → h.Ns mainGlobals mg → mg d.name = some (.ref fa) →
      ∃ fd : FuncData, (∀ (s : Shared) (u : Value), BindsTo s fd ⟨[u], []⟩ [(x, u)]) ∧
        ∀ base : Heap, (K w.params).In base → base.Ns mainGlobals mg → FnOk l.prog w (K w.params) mg base (CX w) k fa fd [x] (sp (K w.params)))
    (hsp : ∀ (K : PySem.W.Frag) (H : Hp) (a : Addr) (ns : List Int), ns.length ≤ n → Only H → SqL K H a (ns.map V.int) → sp K [.ref a] H (fun v _ => v = .bl true) fun _ _ _ => False)
    (hCX : ∀ (w : World) (H : Hp) (s : Shared) (e : Value) (s' : Shared), CX w [] H s (fun _ _ _ => False) e s' → False) :
    PySem.W.WalkO q loose XP YP l.row.toRowW d [] (fun f vs => PySem.call f vs) := by
  refine Att.attach_call hn hdf fun w s₀ s₁ mg mb fa o pm cd doc a vs ns G Y ho hd hcd hmg hobj hints hlen hg => ?_
  have KX := hY w _ Y
  obtain ⟨fd, hb, hF⟩ := F w mg fa _ G.X KX G.T.g hmg
  exact law_call KX G.T.g G.T.b G.T.builtins G.T.nolimit hg hobj hints (Nat.le_trans hlen hn2) hr hF hb (fun H hO hS => hsp (K w.params) H a ns hlen hO hS) fun H e s' => hCX w H s₁ e s'
/-- a computed int of the top -/
theorem loose_int {p : Program} {lv : List (Str × PySem.W.WData)} {mg : Str → Option Value} {h : Heap} {x : Str} {i : Int} (X : PySem.W.XL p lv mg h) (hm : (x, PySem.W.WData.int i) ∈ lv) : ∃ t, mg x = some (.int i t) := by
  obtain ⟨v, e, r⟩ := X.2.val _ hm
  cases r with
  | int t => exact ⟨_, e⟩

/-! ### data -/
inductive Dt where
  | non
  | bl (b : Bool)
  | int (i : Int)
  | str (x : Str)
  | tup (l : List Dt)
  | lst (l : List Dt)
  | dct (ks : List Key) (l : List Dt)
  | ins (c : Nat) (ns : List Str) (l : List Dt)
/-! v stands for d; h: the one list that calls change (the hand of the draws) -/
mutual
inductive R (cl : Nat → Addr) (h : Addr) (H : Hp) : V → Dt → Prop
  | non : R cl h H .non .non
  | bl (b : Bool) : R cl h H (.bl b) (.bl b)
  | int (i : Int) : R cl h H (.int i) (.int i)
  | str (x : Str) : R cl h H (.str x) (.str x)
  | tup {a : Addr} {vs : List V} {ds : List Dt} : a ≠ h → H a = some (.tup vs) → Rs cl h H vs ds → R cl h H (.ref a) (.tup ds)
  | lst {a : Addr} {vs : List V} {ds : List Dt} : a ≠ h → H a = some (.lst vs) → Rs cl h H vs ds → R cl h H (.ref a) (.lst ds)
  | dct {a : Addr} {ks : List Key} {vs : List V} {ds : List Dt} : a ≠ h → H a = some (.dK (ks.zip vs)) → ks.length = vs.length → Rs cl h H vs ds → R cl h H (.ref a) (.dct ks ds)
  | ins {a dx : Addr} {c : Nat} {ns : List Str} {vs : List V} {ds : List Dt} : a ≠ h → H a = some (.ins (cl c) dx (ns.zip vs)) → ns.length = vs.length → Rs cl h H vs ds → R cl h H (.ref a) (.ins c ns ds)
inductive Rs (cl : Nat → Addr) (h : Addr) (H : Hp) : List V → List Dt → Prop
  | nil : Rs cl h H [] []
  | cons {v : V} {vs : List V} {d : Dt} {ds : List Dt} : R cl h H v d → Rs cl h H vs ds → Rs cl h H (v :: vs) (d :: ds)
end
/-- all that is tracked stays, but for what stands at h -/
def Kp (h : Addr) (H H' : Hp) : Prop := ∀ a o, a ≠ h → H a = some o → H' a = some o
theorem Kp.refl {h : Addr} (H : Hp) : Kp h H H := fun _ _ _ e => e
theorem Kp.trans {h : Addr} {H H1 H2 : Hp} (a : Kp h H H1) (b : Kp h H1 H2) : Kp h H H2 := fun x o n e => b x o n (a x o n e)
mutual
theorem R.kp {cl : Nat → Addr} {h : Addr} {H H' : Hp} (k : Kp h H H') : ∀ {v : V} {d : Dt}, R cl h H v d → R cl h H' v d
  | _, _, .non => .non
  | _, _, .bl b => .bl b
  | _, _, .int i => .int i
  | _, _, .str x => .str x
  | _, _, .tup n e r => .tup n (k _ _ n e) (Rs.kp k r)
  | _, _, .lst n e r => .lst n (k _ _ n e) (Rs.kp k r)
  | _, _, .dct n e l r => .dct n (k _ _ n e) l (Rs.kp k r)
  | _, _, .ins n e l r => .ins n (k _ _ n e) l (Rs.kp k r)
theorem Rs.kp {cl : Nat → Addr} {h : Addr} {H H' : Hp} (k : Kp h H H') : ∀ {vs : List V} {ds : List Dt}, Rs cl h H vs ds → Rs cl h H' vs ds
  | _, _, .nil => .nil
  | _, _, .cons r t => .cons (R.kp k r) (Rs.kp k t)
end
theorem Rs.len {cl : Nat → Addr} {h : Addr} {H : Hp} : ∀ {vs : List V} {ds : List Dt}, Rs cl h H vs ds → vs.length = ds.length
  | _, _, .nil => rfl
  | _, _, .cons _ t => by rw [List.length_cons, List.length_cons, Rs.len t]
theorem Rs.at {cl : Nat → Addr} {h : Addr} {H : Hp} : ∀ {vs : List V} {ds : List Dt} {i : Nat} {d : Dt}, Rs cl h H vs ds → ds[i]? = some d → ∃ v, vs[i]? = some v ∧ R cl h H v d
  | _, _, _, _, .nil, e => by simp at e
  | _, _, 0, _, .cons r _, e => by simp at e; subst e; exact ⟨_, rfl, r⟩
  | _, _, i + 1, d, .cons _ t, e => by
    obtain ⟨v, h1, h2⟩ := Rs.at (i := i) (d := d) t (by simpa using e)
    exact ⟨v, by simpa using h1, h2⟩
theorem Rs.atV {cl : Nat → Addr} {h : Addr} {H : Hp} : ∀ {vs : List V} {ds : List Dt} {i : Nat} {v : V}, Rs cl h H vs ds → vs[i]? = some v → ∃ d, ds[i]? = some d ∧ R cl h H v d
  | _, _, _, _, .nil, e => by simp at e
  | _, _, 0, _, .cons r _, e => by simp at e; subst e; exact ⟨_, rfl, r⟩
  | _, _, i + 1, d, .cons _ t, e => by
    obtain ⟨v, h1, h2⟩ := Rs.atV (i := i) (v := d) t (by simpa using e)
    exact ⟨v, by simpa using h1, h2⟩
theorem Rs.app {cl : Nat → Addr} {h : Addr} {H : Hp} : ∀ {vs ws : List V} {ds es : List Dt}, Rs cl h H vs ds → Rs cl h H ws es → Rs cl h H (vs ++ ws) (ds ++ es)
  | _, _, _, _, .nil, s => s
  | _, _, _, _, .cons r t, s => .cons r (Rs.app t s)
theorem Rs.ints {cl : Nat → Addr} {h : Addr} {H : Hp} : ∀ (l : List Int), Rs cl h H (l.map V.int) (l.map Dt.int)
  | [] => .nil
  | _ :: l => .cons (.int _) (Rs.ints l)

/-! ### the hand of the draws -/
/-- at h the hand: the list of the script's numbers at c, four numbers, none below 0 -/
def Hd (h c : Addr) (H : Hp) : Prop := c ≠ h ∧ ∃ (ns : List Int) (i : Nat) (z g t : Int), H h = some (.lst [.ref c, .int (i : Int), .int z, .int g, .int t]) ∧ H c = some (.lst (ns.map V.int)) ∧ ns.length ≤ 63 ∧ (∀ n ∈ ns, 0 ≤ n) ∧ 0 ≤ z ∧ 0 ≤ g ∧ g < 2147483648 ∧ 0 ≤ t
/-- what calls may do to the heap -/
def Go (h c : Addr) (H H' : Hp) : Prop := Kp h H H' ∧ (Hd h c H → Hd h c H')
theorem Go.refl {h c : Addr} (H : Hp) : Go h c H H := ⟨Kp.refl H, id⟩
theorem Go.trans {h c : Addr} {H H1 H2 : Hp} (a : Go h c H H1) (b : Go h c H1 H2) : Go h c H H2 := ⟨a.1.trans b.1, fun x => b.2 (a.2 x)⟩
theorem Go.kp {h c a : Addr} {H H' : Hp} {o : HO} (g : Go h c H H') (n : a ≠ h) (e : H a = some o) : H' a = some o := g.1 a o n e
theorem Go.r {cl : Nat → Addr} {h c : Addr} {H H' : Hp} {v : V} {d : Dt} (g : Go h c H H') (r : R cl h H v d) : R cl h H' v d := R.kp g.1 r
theorem Go.rs {cl : Nat → Addr} {h c : Addr} {H H' : Hp} {v : List V} {d : List Dt} (g : Go h c H H') (r : Rs cl h H v d) : Rs cl h H' v d := Rs.kp g.1 r
theorem Hd.some {h c : Addr} {H : Hp} (x : Hd h c H) : ∃ o, H h = some o := by
  obtain ⟨_, _, _, _, _, _, q, _⟩ := x
  exact ⟨_, q⟩
theorem Hd.ne {h c p : Addr} {H : Hp} (x : Hd h c H) (n : H p = none) : p ≠ h := fun e => by
  obtain ⟨o, q⟩ := x.some
  rw [e, q] at n
  cases n
theorem Hd.nec {h c p : Addr} {H : Hp} (x : Hd h c H) (n : H p = none) : p ≠ c := fun e => by
  obtain ⟨_, _, _, _, _, _, _, q, _⟩ := x
  rw [e, q] at n
  cases n
theorem Hd.put {h c p : Addr} {H : Hp} {o : HO} (x : Hd h c H) (n1 : p ≠ h) (n2 : p ≠ c) : Hd h c (upd H p o) := by
  obtain ⟨nc, ns, i, z, g, t, q, r, b⟩ := x
  exact ⟨nc, ns, i, z, g, t, by rw [upd_ne n1.symm]; exact q, by rw [upd_ne n2.symm]; exact r, b⟩
theorem Kp.new {h p : Addr} {H : Hp} {o : HO} (n : H p = none) : Kp h H (upd H p o) := fun a u _ e => by
  rw [upd_ne (ne_of_none e n)]
  exact e
/-- what is new stays unknown to the older heap -/
theorem Go.back {h c p : Addr} {H H' : Hp} (g : Go h c H H') (x : Hd h c H) (n : H' p = none) : H p = none := by
  cases e : H p with
  | none => rfl
  | some o =>
    by_cases q : p = h
    · have y := g.2 x
      rw [q] at n
      obtain ⟨o', z⟩ := y.some
      rw [z] at n
      cases n
    · rw [g.1 p o q e] at n
      cases n
/-- an object that H does not know is made, or changed -/
theorem Go.mut {h c p : Addr} {H H' : Hp} {o : HO} (g : Go h c H H') (x : Hd h c H) (n : H p = none) : Go h c H (upd H' p o) := by
  refine ⟨fun a u na ha => ?_, fun _ => (g.2 x).put (x.ne n) (x.nec n)⟩
  rw [upd_ne (ne_of_none ha n)]
  exact g.1 a u na ha
theorem Go.new {h c p : Addr} {H : Hp} {o : HO} (x : Hd h c H) (n : H p = none) : Go h c H (upd H p o) := (Go.refl H).mut x n
/-- what keeps all -/
theorem Go.same {h c : Addr} {H H' : Hp} (e : Same H H') : Go h c H H' := by
  refine ⟨fun a o _ q => e a o q, fun x => ?_⟩
  obtain ⟨nc, ns, i, z, g, t, q, r, b⟩ := x
  exact ⟨nc, ns, i, z, g, t, e _ _ q, e _ _ r, b⟩

/-! ### one step of a reading -/
section
variable {K : PySem.W.Frag} {σ : L2.St} {H : Hp} {Q : VK} {D : Ends} {t u : TS} {te ta tb tc : TE} {tt tv : TT} {g : TG} {ts tr : TA} {r : R2} {E : XK} {sp : Sp}
theorem z_seq (h : t { D with nx := u D } σ H) : tSeq t u D σ H := h
theorem z_cut (M : L2.St → Hp → Prop) (h : t { D with nx := M } σ H) (k : ∀ σ' H', M σ' H' → u D σ' H') : Evl.tCut t u D σ H := ⟨M, h, k⟩
theorem z_next (h : D.nx σ H) : tNext D σ H := h
theorem z_asgN {i : Nat} (h : te σ H fun x H1 => D.nx (σ.set i (some x)) H1) : tAsg te (gName i) D σ H := h
theorem z_asg (h : te σ H fun x H1 => g x σ H1 D.nx) : tAsg te g D σ H := h
theorem z_gname {i : Nat} {v : V} {q : L2.St → Hp → Prop} (h : q (σ.set i (some v)) H) : gName i v σ H q := h
theorem z_drop (h : te σ H fun _ H1 => D.nx σ H1) : tDrop te D σ H := h
theorem z_ret (h : te σ H D.rt) : tRet te D σ H := h
theorem z_retN (h : D.rt .non H) : tRetN D σ H := h
theorem z_brk (h : D.bk σ H) : tBreak D σ H := h
theorem z_cont (h : D.ct σ H) : tCont D σ H := h
theorem z_if {c : TT} (h : c σ H fun b H1 => if b = true then t D σ H1 else u D σ H1) : tIfS c t u D σ H := h
theorem z_var {i : Nat} {v : V} (e : σ[i]? = some (some v)) (h : Q v H) : tVar i σ H Q := ⟨v, e, h⟩
theorem z_var0 {i : Nat} (h : ∃ v, σ[i]? = some (some v) ∧ Q v H) : tVar i σ H Q := h
theorem z_c {v : V} (h : Q v H) : tC v σ H Q := h
theorem z_op (h : ta σ H fun x H1 => tb σ H1 fun y H2 => r x y H2 Q) : tOp r ta tb σ H Q := h
theorem z_un {r : V → Hp → VK → Prop} (h : ta σ H fun x H1 => r x H1 Q) : tUn r ta σ H Q := h
theorem z_I0 {f : Int → Int → V} {i j : Int} (h : Q (f i j) H) : rI0 f (.int i) (.int j) H Q := ⟨i, j, rfl, rfl, h⟩
theorem z_I {C : Int → Int → Prop} {f : Int → Int → V} {i j : Int} (c : C i j) (h : Q (f i j) H) : rI C f (.int i) (.int j) H Q := ⟨i, j, rfl, rfl, c, h⟩
theorem z_U {f : Int → V} {i : Int} (h : Q (f i) H) : rU f (.int i) H Q := ⟨i, rfl, h⟩
theorem z_eq {x y : V} (s : scal x y = true) (h : Q (.bl (decide (x = y))) H) : rEq x y H Q := ⟨s, h⟩
theorem z_eqI {i j : Int} (h : Q (.bl (decide (i = j))) H) : rEq (.int i) (.int j) H Q := ⟨rfl, by
  have e : decide (V.int i = V.int j) = decide (i = j) := by
    by_cases q : i = j
    · rw [q]; simp
    · rw [decide_eq_false q, decide_eq_false (fun z => q (V.int.inj z))]
  rw [e]
  exact h⟩
theorem z_neI {i j : Int} (h : Q (.bl (!decide (i = j))) H) : rNe (.int i) (.int j) H Q := ⟨rfl, by
  have e : decide (V.int i = V.int j) = decide (i = j) := by
    by_cases q : i = j
    · rw [q]; simp
    · rw [decide_eq_false q, decide_eq_false (fun z => q (V.int.inj z))]
  rw [e]
  exact h⟩
theorem z_ne {x y : V} (s : scal x y = true) (h : Q (.bl (!decide (x = y))) H) : rNe x y H Q := ⟨s, h⟩
theorem z_test {q : Bool → Hp → Prop} (h : te σ H fun x H' => ∃ k, x = .bl k ∧ q k H') : tTest te σ H q := h
theorem z_B {q : Bool → Hp → Prop} (h : te σ H fun x H' => ∃ k, x = .bl k ∧ q k H') : tB te σ H q := h
theorem z_not {q : Bool → Hp → Prop} (h : tt σ H fun c H1 => q (!c) H1) : tNot tt σ H q := h
theorem z_and {q : Bool → Hp → Prop} (h : tt σ H fun c H1 => if c = true then tv σ H1 q else q false H1) : tAnd tt tv σ H q := h
theorem z_or {q : Bool → Hp → Prop} (h : tt σ H fun c H1 => if c = true then q true H1 else tv σ H1 q) : tOr tt tv σ H q := h
theorem z_andV (h : ta σ H fun x H1 => ∃ c, x = .bl c ∧ if c = true then tb σ H1 Q else Q (.bl false) H1) : tAndV ta tb σ H Q := h
theorem z_orV (h : ta σ H fun x H1 => ∃ c, x = .bl c ∧ if c = true then Q (.bl true) H1 else tb σ H1 Q) : tOrV ta tb σ H Q := h
theorem z_notV (h : ta σ H fun x H1 => ∃ c, x = .bl c ∧ Q (.bl (!c)) H1) : tNotV ta σ H Q := h
theorem z_ifE {c : TT} (h : c σ H fun b H1 => if b = true then ta σ H1 Q else tb σ H1 Q) : tIf c ta tb σ H Q := h
theorem z_chain {r r' : R2} (h : ta σ H fun x H1 => tb σ H1 fun y H2 => r x y H2 fun z H3 => ∃ k, z = .bl k ∧ (if k = true then tc σ H3 fun w' H4 => r' y w' H4 Q else Q (.bl false) H3)) : tChain r r' ta tb tc σ H Q := h
theorem z_bl {b : Bool} {q : Bool → Prop} (h : q b) : ∃ k, V.bl b = .bl k ∧ q k := ⟨b, rfl, h⟩
theorem z_nil {q : List V → Hp → Prop} (h : q [] H) : tNil σ H q := h
theorem z_cons {q : List V → Hp → Prop} (h : te σ H fun x H1 => tr σ H1 fun xs H2 => q (x :: xs) H2) : tCons te tr σ H q := h
theorem z_call {dvs : List V} (h : tr σ H fun vs H1 => sp (vs ++ dvs) H1 Q E) : tCall sp dvs E tr σ H Q := h
theorem z_CB {r : List V → Hp → VK → Prop} (h : tr σ H fun vs H1 => r vs H1 Q) : tCB r tr σ H Q := h
theorem z_fld {f : Str} (h : ta σ H fun x H1 => ∃ a C dx fs v, x = .ref a ∧ H1 a = some (.ins C dx fs) ∧ Cls K C ∧ NoAttr K C f ∧ fs.lookup f = some v ∧ Q v H1) : tFld K ta f σ H Q := h
/-- a new tuple, a new list: which heap stands then is forgotten but for what it holds -/
theorem z_tup {h c : Addr} (x : tr σ H fun xs H1 => xs.length ≤ sizeLine ∧ ∀ p, H1 p = none → Q (.ref p) (upd H1 p (.tup xs))) : tTup tr σ H Q := x
theorem z_lst (x : tr σ H fun xs H1 => xs.length ≤ sizeLine ∧ ∀ p, H1 p = none → Q (.ref p) (upd H1 p (.lst xs))) : tLst tr σ H Q := x
theorem z_sl {r : V → Option Int → Option Int → Hp → VK → Prop} {tl th : TO} (x : te σ H fun x H1 => tl σ H1 fun l H2 => th σ H2 fun u H3 => r x l u H3 Q) : tSl r te tl th σ H Q := x
theorem z_noPart {q : Option Int → Hp → Prop} (x : q none H) : tNoPart σ H q := x
theorem z_part {q : Option Int → Hp → Prop} (x : te σ H fun x H1 => ∃ i, x = .int i ∧ q (some i) H1) : tPart te σ H q := x
theorem z_int {i : Int} {q : Int → Prop} (h : q i) : ∃ k, V.int i = .int k ∧ q k := ⟨i, rfl, h⟩
theorem z_ixL {p : Addr} {xs : List V} {i : Int} {v : V} (e : SqL K H p xs) (a : atI xs i = some v) (h : Q v H) : rIxL K (.ref p) (.int i) H Q := ⟨p, xs, i, v, rfl, rfl, e, a, h⟩
theorem z_ixT {p : Addr} {xs : List V} {i : Int} {v : V} (e : SqT K H p xs) (a : atI xs i = some v) (h : Q v H) : rIxT K (.ref p) (.int i) H Q := ⟨p, xs, i, v, rfl, rfl, e, a, h⟩
theorem z_gsub {to ti : TE} {ts : TSet} {v : V} {q : L2.St → Hp → Prop} (h : to σ H fun o H1 => ti σ H1 fun i H2 => ts o i v H2 fun H3 => q σ H3) : gSub to ti ts v σ H q := h
theorem z_setL {p : Addr} {xs : List V} {i : Int} {j : Nat} {v : V} {q : Hp → Prop} (e : H p = some (.lst xs)) (a : ixN xs.length i = some j) (h : q (upd H p (.lst (xs.set j v)))) : rSetL (.ref p) (.int i) v H q := ⟨p, xs, i, j, rfl, rfl, e, a, h⟩
theorem z_lenL {p : Addr} {xs : List V} {r : List V → Hp → VK → Prop} (e : SqL K H p xs) (h : Q (.int xs.length) H) : (∃ p' ys, [V.ref p] = [.ref p'] ∧ (SqL K H p' ys ∨ SqT K H p' ys) ∧ Q (.int ys.length) H) := ⟨p, xs, rfl, .inl e, h⟩
theorem z_lenT {p : Addr} {xs : List V} {r : List V → Hp → VK → Prop} (e : SqT K H p xs) (h : Q (.int xs.length) H) : (∃ p' ys, [V.ref p] = [.ref p'] ∧ (SqL K H p' ys ∨ SqT K H p' ys) ∧ Q (.int ys.length) H) := ⟨p, xs, rfl, .inr e, h⟩
theorem z_intI {i : Int} (h : Q (.int i) H) : (∃ j, [V.int i] = [.int j] ∧ Q (.int j) H) ∨ ∃ k, [V.int i] = [.bl k] ∧ Q (.int (if k then 1 else 0)) H := .inl ⟨i, rfl, h⟩
theorem z_absI {i : Int} (n : 0 ≤ (if i < 0 then -i else i) → Q (.int (if i < 0 then -i else i)) H) : ∃ j, [V.int i] = [.int j] ∧ Q (.int (if j < 0 then -j else j)) H := ⟨i, rfl, n (by split <;> omega)⟩
/-- the two ways of a test -/
theorem z_ite {p A B : Prop} [Decidable p] (h1 : p → A) (h2 : ¬ p → B) : if decide p = true then A else B := by
  by_cases q : p
  · rw [if_pos (decide_eq_true q)]
    exact h1 q
  · rw [if_neg (by simpa using q)]
    exact h2 q
theorem z_iteD {p A B : Prop} [Decidable p] (h1 : ¬ p → A) (h2 : p → B) : if (!decide p) = true then A else B := by
  by_cases q : p
  · rw [decide_eq_true q]
    exact iteF (h2 q)
  · rw [decide_eq_false q]
    exact iteT (h1 q)
theorem z_iteB {b : Bool} {A B : Prop} (h1 : b = true → A) (h2 : b = false → B) : if b = true then A else B := by
  cases b with
  | true => exact h1 rfl
  | false => exact h2 rfl
theorem z_iteN {b : Bool} {A B : Prop} (h1 : b = false → A) (h2 : b = true → B) : if (!b) = true then A else B := by
  cases b with
  | true => exact h2 rfl
  | false => exact h1 rfl
end
theorem z_sf {K : PySem.W.Frag} {ta tv : TE} {f : Str} {D : Ends} {σ : L2.St} {H : Hp} (h : tv σ H fun y H1 => ta σ H1 fun x H2 => ∃ a C dx fs, x = .ref a ∧ H2 a = some (.ins C dx fs) ∧ Cls K C ∧ NoAttr K C f ∧ fs.length < 1000 ∧
    D.nx σ (upd H2 a (.ins C dx (putF f y fs)))) : sFld K ta tv f D σ H := h
theorem R.int_inv {cl : Nat → Addr} {h : Addr} {H : Hp} {v : V} {i : Int} (r : R cl h H v (.int i)) : v = .int i := by cases r; rfl
theorem R.str_inv {cl : Nat → Addr} {h : Addr} {H : Hp} {v : V} {i : Str} (r : R cl h H v (.str i)) : v = .str i := by cases r; rfl
theorem R.tup_inv {cl : Nat → Addr} {h : Addr} {H : Hp} {v : V} {ds : List Dt} (r : R cl h H v (.tup ds)) : ∃ a vs, v = .ref a ∧ a ≠ h ∧ H a = some (.tup vs) ∧ Rs cl h H vs ds := by
  cases r with
  | tup n e s => exact ⟨_, _, rfl, n, e, s⟩
theorem R.lst_inv {cl : Nat → Addr} {h : Addr} {H : Hp} {v : V} {ds : List Dt} (r : R cl h H v (.lst ds)) : ∃ a vs, v = .ref a ∧ a ≠ h ∧ H a = some (.lst vs) ∧ Rs cl h H vs ds := by
  cases r with
  | lst n e s => exact ⟨_, _, rfl, n, e, s⟩
theorem R.ins_inv {cl : Nat → Addr} {h : Addr} {H : Hp} {v : V} {c : Nat} {ns : List Str} {ds : List Dt} (r : R cl h H v (.ins c ns ds)) : ∃ a dx vs, v = .ref a ∧ a ≠ h ∧ H a = some (.ins (cl c) dx (ns.zip vs)) ∧ Rs cl h H vs ds ∧ ns.length = vs.length := by
  cases r with
  | ins n e l s => exact ⟨_, _, _, rfl, n, e, s, l⟩
theorem Rs.one {cl : Nat → Addr} {h : Addr} {H : Hp} {vs : List V} {d : Dt} (r : Rs cl h H vs [d]) : ∃ v, vs = [v] ∧ R cl h H v d := by
  cases r with
  | cons r1 t => cases t; exact ⟨_, rfl, r1⟩
theorem Rs.two {cl : Nat → Addr} {h : Addr} {H : Hp} {vs : List V} {d e : Dt} (r : Rs cl h H vs [d, e]) : ∃ v w, vs = [v, w] ∧ R cl h H v d ∧ R cl h H w e := by
  cases r with
  | cons r1 t =>
    obtain ⟨w, rfl, r2⟩ := t.one
    exact ⟨_, _, rfl, r1, r2⟩
theorem Rs.three {cl : Nat → Addr} {h : Addr} {H : Hp} {vs : List V} {d e f : Dt} (r : Rs cl h H vs [d, e, f]) : ∃ v w u, vs = [v, w, u] ∧ R cl h H v d ∧ R cl h H w e ∧ R cl h H u f := by
  cases r with
  | cons r1 t =>
    obtain ⟨w, u, rfl, r2, r3⟩ := t.two
    exact ⟨_, _, _, rfl, r1, r2, r3⟩
theorem Rs.four {cl : Nat → Addr} {h : Addr} {H : Hp} {vs : List V} {d e f g : Dt} (r : Rs cl h H vs [d, e, f, g]) : ∃ v w u z, vs = [v, w, u, z] ∧ R cl h H v d ∧ R cl h H w e ∧ R cl h H u f ∧ R cl h H z g := by
  cases r with
  | cons r1 t =>
    obtain ⟨w, u, z, rfl, r2, r3, r4⟩ := t.three
    exact ⟨_, _, _, _, rfl, r1, r2, r3, r4⟩
theorem lk_fst {f : Str} {v : V} {l : List (Str × V)} : List.lookup f ((f, v) :: l) = some v := by simp [List.lookup]
theorem lk_nxt {f g : Str} {v : V} {l : List (Str × V)} (n : ¬ g = f) : List.lookup g ((f, v) :: l) = List.lookup g l := by
  have e : (g == f) = false := by simpa using n
  simp [List.lookup, e]
/-- a new tuple, a new list of data -/
theorem R.newT {cl : Nat → Addr} {h c p : Addr} {H : Hp} {vs : List V} {ds : List Dt} (hd : Hd h c H) (n : H p = none) (r : Rs cl h H vs ds) : R cl h (upd H p (.tup vs)) (.ref p) (.tup ds) :=
  .tup (hd.ne n) upd_same (Rs.kp (Kp.new n) r)
theorem R.newL {cl : Nat → Addr} {h c p : Addr} {H : Hp} {vs : List V} {ds : List Dt} (hd : Hd h c H) (n : H p = none) (r : Rs cl h H vs ds) : R cl h (upd H p (.lst vs)) (.ref p) (.lst ds) :=
  .lst (hd.ne n) upd_same (Rs.kp (Kp.new n) r)
def newT (Q : VK) (xs : List V) (H : Hp) : Prop := xs.length ≤ sizeLine ∧ ∀ p, H p = none → Q (.ref p) (upd H p (.tup xs))
def newL (Q : VK) (xs : List V) (H : Hp) : Prop := xs.length ≤ sizeLine ∧ ∀ p, H p = none → Q (.ref p) (upd H p (.lst xs))
theorem z_tupI {tr : TA} {σ : L2.St} {H : Hp} {Q : VK} (x : tr σ H fun xs H1 => newT Q xs H1) : tTup tr σ H Q := x
theorem z_lstI {tr : TA} {σ : L2.St} {H : Hp} {Q : VK} (x : tr σ H fun xs H1 => newL Q xs H1) : tLst tr σ H Q := x
theorem sz1000 {n : Nat} (h : n ≤ 1000000) : n ≤ sizeLine := Nat.le_trans h (by decide)
theorem z_newT {cl : Nat → Addr} {h c : Addr} {H : Hp} {vs : List V} {ds : List Dt} {Q : VK} (hd : Hd h c H) (rs : Rs cl h H vs ds) (k : ∀ p H', Go h c H H' → H p = none → R cl h H' (.ref p) (.tup ds) → Q (.ref p) H') (l : vs.length ≤ 1000000 := by exact Nat.le_of_ble_eq_true rfl) :
    newT Q vs H := ⟨sz1000 l, fun p n => k p _ (Go.new hd n) n (R.newT hd n rs)⟩
theorem z_newL {cl : Nat → Addr} {h c : Addr} {H : Hp} {vs : List V} {ds : List Dt} {Q : VK} (hd : Hd h c H) (rs : Rs cl h H vs ds) (k : ∀ p H', Go h c H H' → H p = none → R cl h H' (.ref p) (.lst ds) → Q (.ref p) H') (l : vs.length ≤ 1000000 := by exact Nat.le_of_ble_eq_true rfl) :
    newL Q vs H := ⟨sz1000 l, fun p n => k p _ (Go.new hd n) n (R.newL hd n rs)⟩
theorem z_newD {cl : Nat → Addr} {h c : Addr} {σ : L2.St} {H : Hp} {Q : VK} (hd : Hd h c H) (k : ∀ p H', Go h c H H' → H p = none → R cl h H' (.ref p) (.dct [] []) → Q (.ref p) H') : tDNewK σ H Q := fun p n =>
  k p _ (Go.new hd n) n (.dct (vs := []) (hd.ne n) upd_same rfl .nil)
theorem z_cat {cl : Nat → Addr} {h c a b : Addr} {H : Hp} {ds es : List Dt} {Q : VK} (hd : Hd h c H) (r1 : R cl h H (.ref a) (.lst ds)) (r2 : R cl h H (.ref b) (.lst es)) (l : ds.length + es.length ≤ 1000000)
    (k : ∀ p H', Go h c H H' → H p = none → R cl h H' (.ref p) (.lst (ds ++ es)) → Q (.ref p) H') : rCat (.ref a) (.ref b) H Q := by
  obtain ⟨_, xs, e, _, ha, s1⟩ := r1.lst_inv
  cases e
  obtain ⟨_, ys, e, _, hb, s2⟩ := r2.lst_inv
  cases e
  refine ⟨a, b, xs, ys, rfl, rfl, ha, hb, sz1000 (by rw [s1.len, s2.len]; exact l), fun p n => k p _ (Go.new hd n) n (R.newL hd n (s1.app s2))⟩
def newO (C : Addr) (sp : Sp) (E : XK) (Q : VK) (vs : List V) (H : Hp) : Prop := ∀ x dx, H x = none → H dx = none → dx ≠ x → sp (.ref x :: vs) (upd (upd H dx (.own x)) x (.ins C dx [])) (fun v H2 => v = .non ∧ Q (.ref x) H2) E
theorem z_make {C : Addr} {sp : Sp} {E : XK} {tr : TA} {σ : L2.St} {H : Hp} {Q : VK} (h : tr σ H fun vs H1 => newO C sp E Q vs H1) : tMake C sp [] E tr σ H Q := by
  have e : tMake C sp [] E tr σ H Q = (tr σ H fun vs H1 => newO C sp E Q vs H1) := by
    unfold tMake newO
    simp only [List.append_nil]
  rw [e]
  exact h
theorem Go.ins0 {h c x dx : Addr} {H : Hp} {o : HO} (hd : Hd h c H) (nx : H x = none) (nd : H dx = none) : Go h c H (upd (upd H dx (.own x)) x o) := ((Go.refl H).mut hd nd).mut hd nx
theorem Go.ins {h c x dx : Addr} {H : Hp} {o o' : HO} (hd : Hd h c H) (nx : H x = none) (nd : H dx = none) : Go h c H (upd (upd (upd H dx (.own x)) x o) x o') := (Go.ins0 hd nx nd).mut hd nx
theorem R.newI {cl : Nat → Addr} {h c x dx : Addr} {k : Nat} {ns : List Str} {H : Hp} {o : HO} {vs : List V} {ds : List Dt} (hd : Hd h c H) (nx : H x = none) (nd : H dx = none) (rs : Rs cl h H vs ds) (l : ns.length = vs.length) :
    R cl h (upd (upd (upd H dx (.own x)) x o) x (.ins (cl k) dx (ns.zip vs))) (.ref x) (.ins k ns ds) :=
  .ins (hd.ne nx) upd_same l (Rs.kp (Go.ins (o := o) hd nx nd).1 rs)
theorem z_par {i j : Nat} {ta : TA} {D : Ends} {σ : L2.St} {H : Hp} (h : ta σ H fun vs H1 => ∃ v w, vs = [v, w] ∧ D.nx ((σ.set i (some v)).set j (some w)) H1) : tPar i j ta D σ H := h
theorem z_two {v w : V} {q : V → V → Prop} (h : q v w) : ∃ v' w', [v, w] = [v', w'] ∧ q v' w' := ⟨v, w, rfl, h⟩
theorem z_gcons {t : TG} {u : TGs} {v : V} {r : List V} {σ : L2.St} {H : Hp} {q : L2.St → Hp → Prop} (h : t v σ H fun σ' H' => u r σ' H' q) : gCons t u (v :: r) σ H q := ⟨v, r, rfl, h⟩
theorem z_gnil {σ : L2.St} {H : Hp} {q : L2.St → Hp → Prop} (h : q σ H) : gNil [] σ H q := ⟨rfl, h⟩
theorem z_gtup {K : PySem.W.Frag} {n : Nat} {t : TGs} {a : Addr} {xs : List V} {σ : L2.St} {H : Hp} {q : L2.St → Hp → Prop} (e : H a = some (.tup xs)) (l : xs.length = n) (h : t xs σ H q) : gTup K n t (.ref a) σ H q := ⟨a, xs, rfl, .inl (.inl e), l, h⟩
theorem z_eqS {x y : Str} {H : Hp} {Q : VK} (b : Bool) (e : decide (x = y) = b) (h : Q (.bl b) H) : rEq (.str x) (.str y) H Q := ⟨rfl, by
  have e1 : decide (V.str x = V.str y) = b := by
    rw [← e]
    by_cases q : x = y
    · rw [q]; simp
    · rw [decide_eq_false q, decide_eq_false (fun z => q (V.str.inj z))]
  rw [e1]
  exact h⟩
theorem z_neS {x y : Str} {H : Hp} {Q : VK} (b : Bool) (e : decide (x = y) = !b) (h : Q (.bl b) H) : rNe (.str x) (.str y) H Q := ⟨rfl, by
  have e1 : decide (V.str x = V.str y) = !b := by
    rw [← e]
    by_cases q : x = y
    · rw [q]; simp
    · rw [decide_eq_false q, decide_eq_false (fun z => q (V.str.inj z))]
  rw [e1, Bool.not_not]
  exact h⟩
theorem iteNF {A B : Prop} (h : A) : if (!false) = true then A else B := by
  show if true = true then A else B
  exact iteT h
theorem iteNT {A B : Prop} (h : B) : if (!true) = true then A else B := by
  show if false = true then A else B
  exact iteF h
theorem z_neBs {a b : Bool} {H : Hp} {Q : VK} (e : a = b) (h : Q (.bl false) H) : rNe (.bl a) (.bl b) H Q := ⟨rfl, by
  rw [decide_eq_true (by rw [e])]
  exact h⟩
theorem z_eqBn {a b : Bool} {H : Hp} {Q : VK} (e : a ≠ b) (h : Q (.bl false) H) : rEq (.bl a) (.bl b) H Q := ⟨rfl, by
  rw [decide_eq_false (fun z => e (V.bl.inj z))]
  exact h⟩
/-! ### comprehensions -/
section
variable {K : PySem.W.Frag} {σ : L2.St} {H : Hp} {Q : VK}
theorem z_lc {wi : TI} {g : TG} {tt : TT} {te : TE} {vs : List Nat} (h : wi σ H fun J H1 => ∀ D, H1 D = none → ∃ W : Nat → Nat → Hp → Prop, (∃ m, W 0 m (upd H1 D (.lst []))) ∧ ∀ i m H, W i m H →
    (J.stop i H ∧ Q (.ref D) H) ∨ (J.go i H ∧ ∃ Nx : Hp → Prop, (∀ H', Nx H' → ∃ m', m' < m ∧ W (i + 1) m' H') ∧ ∀ x H', J.yld i H x H' → g x (wipe σ vs) H' fun σ2 H2 => wipe σ2 vs = wipe σ vs ∧ tt σ2 H2 fun b H3 =>
      if b = true then te σ2 H3 fun y H4 => ∃ acc, H4 D = some (.lst acc) ∧ acc.length < sizeLine ∧ Nx (upd H4 D (.lst (acc ++ [y]))) else Nx H3)) : tLc wi g tt te vs σ H Q := h
theorem z_pow {a b n : Int} (c : CPow a b) (e : a ^ b.toNat = n) (h : Q (.int n) H) : rI CPow (fun i j => .int (i ^ j.toNat)) (.int a) (.int b) H Q := ⟨a, b, rfl, rfl, c, by show Q (.int (a ^ b.toNat)) H; rw [e]; exact h⟩
theorem z_for {wi : TI} {g : TG} {tb : TS} {D : Ends} (h : wi σ H fun J H1 => ∃ W : Nat → Nat → L2.St → Hp → Prop, (∃ m, W 0 m σ H1) ∧ ∀ i m σ H, W i m σ H →
    (J.stop i H ∧ D.nx σ H) ∨ (J.go i H ∧ ∃ Nx : L2.St → Hp → Prop, (∀ σ' H', Nx σ' H' → ∃ m', m' < m ∧ W (i + 1) m' σ' H') ∧ ∀ x H', J.yld i H x H' → g x σ H' fun σ2 H2 => tb { D with nx := Nx, ct := Nx, bk := D.nx } σ2 H2)) : tFor wi g tb D σ H := h
theorem z_r1 {ta : TA} {q : It → Hp → Prop} (h : ta σ H fun vs H1 => ∃ j : Int, vs = [.int j] ∧ -(2 ^ 62) ≤ j ∧ j < 2 ^ 62 ∧ q (Itr 0 j.toNat) H1) : iRng1 ta σ H q := h
theorem z_r2 {ta : TA} {q : It → Hp → Prop} (h : ta σ H fun vs H1 => ∃ i j : Int, vs = [.int i, .int j] ∧ (-(2 ^ 62) ≤ i ∧ i < 2 ^ 62 ∧ -(2 ^ 62) ≤ j ∧ j < 2 ^ 62) ∧ q (Itr i (j - i).toNat) H1) : iRng2 ta σ H q := h
theorem z_iL {tl : TE} {q : It → Hp → Prop} (h : tl σ H fun x H1 => ∃ a, x = .ref a ∧ (∃ xs, SqL K H1 a xs) ∧ q (Itl K a) H1) : iList K tl σ H q := h
theorem z_iT {tl : TE} {q : It → Hp → Prop} (h : tl σ H fun x H1 => ∃ a, x = .ref a ∧ (∃ xs, SqT K H1 a xs) ∧ q (Itt K a) H1) : iTup K tl σ H q := h
theorem z_yes {q : Bool → Hp → Prop} (h : q true H) : tYes σ H q := h
theorem z_slL {p : Addr} {xs : List V} {lo hi : Option Int} (e : SqL K H p xs) (h : ∀ p', H p' = none → Q (.ref p') (upd H p' (.lst (cutV xs lo hi)))) : rSlL K (.ref p) lo hi H Q := ⟨p, xs, rfl, e, h⟩
end
theorem SqL.new {K : PySem.W.Frag} {H : Hp} {a p : Addr} {xs : List V} {o : HO} (e : SqL K H a xs) (n : H p = none) : SqL K (upd H p o) a xs := Same.seq (fun b u q => by rw [upd_ne (ne_of_none q n)]; exact q) e
theorem cutV_all {xs : List V} {n : Int} (h : (xs.length : Int) ≤ n) : cutV xs none (some n) = xs := by
  unfold cutV
  have e1 : HT.sIx xs.length 0 none = 0 := rfl
  have e2 : HT.sIx xs.length xs.length (some n) = xs.length := by
    show (if n < 0 then (n + (xs.length : Int)).toNat else min n.toNat xs.length) = xs.length
    rw [if_neg (by omega)]
    omega
  rw [e1, e2]
  simp
theorem take_one {α : Type} {l : List α} {i : Nat} {x : α} (h : l[i]? = some x) : l.take (i + 1) = l.take i ++ [x] := by
  obtain ⟨hi, e⟩ := List.getElem?_eq_some_iff.mp h
  rw [List.take_succ_eq_append_getElem hi, e]
/-- the law's promise -/
def spLaw (K : PySem.W.Frag) : Sp := fun vs H Q _ => ∃ (a : Addr) (ns : List Int), vs = [.ref a] ∧ SqL K H a (ns.map V.int) ∧ ns.length ≤ 63 ∧ ∀ H', Q (.bl true) H'
theorem kd_same {K : PySem.W.Frag} {C : Addr} (h : PySem.W.mroIn K C (.ref C) = some true) : PySem.W.mroIn K C (.ref C) = some (decide (C = C)) := by
  rw [decide_eq_true rfl]
  exact h
theorem kd_other {K : PySem.W.Frag} {C D : Addr} (h : PySem.W.mroIn K C (.ref D) = some false) (s : PySem.W.mroIn K C (.ref C) = some true) : PySem.W.mroIn K C (.ref D) = some (decide (C = D)) := by
  by_cases e : C = D
  · rw [← e, s] at h
    cases h
  · rw [decide_eq_false e]
    exact h
theorem putF_one (f : Str) (v : V) : putF f v [] = [(f, v)] := rfl
theorem putF_more {f g : Str} (v w : V) (l : List (Str × V)) (n : ¬ g = f) : putF f v ((g, w) :: l) = (g, w) :: putF f v l := by
  show (if g = f then _ else _) = _
  rw [if_neg n]
end Zo

namespace Zo
open PySem L2 PySem.Spec PyProof.Rows
section
variable {prog : Program} {w : World} {A : Around} {E : Value → Shared → Prop} {s : Shared} {K : PySem.W.Frag} {x C L f : Addr} {h₀ : Heap} {m : Str → Option Value} {ox : Obj} {od : Option Obj} {b tb : Value}
theorem neEntry {Q : Fin → Shared → Prop} (hu : A.units < cLine) (X : K.In s.heap) (I : PySem.W.InstAt s.heap x ox C od) (hs : PySem.W.findIn K (.ref C) "__eq__" = some (some (.ref f))) (hf : PySem.W.isFn K (.ref f) = true)
    (h : wpAny (model prog w) A (call (.ref f) [.ref x, b]) (fun v s' => ∃ t, v = .bool t ∧ Q (.done (.ret (.bool (!t)))) s') E s) :
    wpAny (model prog w) A (Builtin.«object.__ne__» ⟨[.ref x, b], []⟩) Q E s := by
  unfold Builtin.«object.__ne__»
  repeat (first
    | with_reducible refine wpAny_cRoomFor hu ?_
    | (refine wpAny_bind (m := callSpecialIfBound? (.ref x) (Str.ofString "__eq__") [b])
        (PySem.W.ifBound_K X I hs hf (wpAny_mono h (fun r s' hr => by
          obtain ⟨t, rfl, hq⟩ := hr
          repeat (first | exact hq | exact wpAny_pure hq | exact wpAny_truthy_bool hq | (refine wpAny_bind (m := truthy (.bool _)) (wpAny_truthy_bool ?_)) | wp_step)) fun _ _ e => e)))
    | wp_step)
theorem ifBound_ne {M : Model} {args : List Value} {Q : Option Value → Shared → Prop} (X : K.In s.heap) (I : PySem.W.InstAt s.heap x ox C od) (hs : PySem.W.findIn K (.ref C) "__ne__" = some (some (.builtin "object.__ne__")))
    (h : wpAny M A (call (.builtin "object.__ne__") (.ref x :: args)) (fun v => Q (some v)) E s) : wpAny M A (callSpecialIfBound? (.ref x) "__ne__" args) Q E s := by
  simp only [callSpecialIfBound?, bindSpecialIfBound?]
  refine wpAny_holding (wpAny_bind (wpAny_bind (wpAny_bind (I.type.here ((PySem.W.looks_findIn X hs).here ?_)))))
  refine wpAny_bind (wpAny_askSetting (wpAny_ite ?_))
  have fin : wpAny M A (call (.builtin "object.__ne__") ([.ref x] ++ args) >>= fun v => pure (some v)) Q E s := wpAny_bind (wpAny_mono h (fun v s' h' => wpAny_pure h') fun _ _ h' => h')
  split
  · exact wpAny_bind (wpAny_of_eq (F.cmp_object.ne.bind _) (wpAny_pure (by exact fin)))
  · exact wpAny_tryCatch (wpAny_bind (wpAny_of_eq (F.cmp_object.ne.bind _) (wpAny_pure (by exact fin))))
theorem ne_K {Q : Value → Shared → Prop} (hu : A.units + 1 < cLine) (FR : Fr h₀ L s.heap m) (X₀ : K.In h₀) (I : PySem.W.InstAt s.heap x ox C od) (hb : PySem.W.Looks (model prog w) s.heap (typeOf b) tb) (hn : PySem.W.notFirst K C tb = true)
    (hne : PySem.W.findIn K (.ref C) "__ne__" = some (some (.builtin "object.__ne__"))) (hs : PySem.W.findIn K (.ref C) "__eq__" = some (some (.ref f))) (hf : PySem.W.isFn K (.ref f) = true) (hm : PySem.W.mroIn K C (.type "object") = some true)
    (h : wpAny (model prog w) A.in1 (call (.ref f) [.ref x, b]) (fun v s' => ∃ t, v = .bool t ∧ Q (.bool (!t)) s') E s) : wpAny (model prog w) A (richCompare .NotEq (.ref x) b) Q E s := by
  have X := X₀.keeps FR.keep
  have one : wpAny (model prog w) A (tryCompare (.ref x) "__ne__" b) (fun r s' => ∃ v, r = some v ∧ Q v s') E s := by
    unfold tryCompare
    refine wpAny_bind (ifBound_ne X I hne (wpAny_call (codeAny_call_builtin F.cmp_object.ne.plain F.cmpEntry_ne (PySem.W.check_slot F.cmpKind_ne F.cmpSplit_ne (I.type.andThen (PySem.W.looks_mroIn X hm)) (F.cmpArgs_ne _ _)
      (neEntry (A := A.in1) hu X I hs hf (wpAny_mono h (fun v s' hv => ?_) fun _ _ e => e))))))
    obtain ⟨t, rfl, hq⟩ := hv
    exact ⟨t, rfl, wpAny_pure ⟨_, rfl, hq⟩⟩
  unfold richCompare
  simp only [oneThing_ref]
  refine wpAny_holding (wpAny_bind (wpAny_cRoomFor (Nat.lt_of_succ_lt hu) ?_))
  rw [cmpInfo_NotEq]
  dsimp only
  refine wpAny_bind (I.type.here (wpAny_bind (hb.here ?_)))
  split
  · rename_i q
    have e : PySem.W.subIn K tb (.ref C) = some false := by
      rcases Bool.or_eq_true_iff.mp hn with e | e
      · rw [beq_iff_eq.mp e] at q; simp at q
      · exact beq_iff_eq.mp e
    refine wpAny_bind ((PySem.W.looks_subIn X e).here ?_)
    simp only [Bool.false_eq_true, if_false]
    refine wpAny_bind (wpAny_mono one (fun r s' z => ?_) fun _ _ e => e)
    obtain ⟨v, rfl, hq⟩ := z
    exact wpAny_pure hq
  · refine wpAny_bind (wpAny_pure ?_)
    simp only [Bool.false_eq_true, if_false]
    refine wpAny_bind (wpAny_mono one (fun r s' z => ?_) fun _ _ e => e)
    obtain ⟨v, rfl, hq⟩ := z
    exact wpAny_pure hq
end
/-- x == y, x != y: x an instance of the class at C whose own == keeps sp -/
def rEqO (K : PySem.W.Frag) (C : Addr) (sp : Sp) (E : XK) : R2 := fun x y H Q => ∃ a dx fs t, x = .ref a ∧ H a = some (.ins C dx fs) ∧ TyX K H y t ∧ PySem.W.notFirst K C t = true ∧ sp [x, y] H Q E
def rNeO (K : PySem.W.Frag) (C : Addr) (sp : Sp) (E : XK) : R2 := fun x y H Q => ∃ a dx fs t, x = .ref a ∧ H a = some (.ins C dx fs) ∧ TyX K H y t ∧ PySem.W.notFirst K C t = true ∧ sp [x, y] H (fun z H' => ∃ c, z = .bl c ∧ Q (.bl (!c)) H') E
section
variable {X : Cx} {CX : CXT} {k : Nat} {C f : Addr} {fd : FuncData} {ps : List Str} {sp : Sp} {E : XK}
theorem op_eqO (F1 : FnOk X.prog X.w X.K X.mg X.base CX k f fd ps sp) (hr : Room k X.A) (hs : PySem.W.findIn X.K (.ref C) "__eq__" = some (some (.ref f))) (hf : PySem.W.isFn X.K (.ref f) = true) (hb : Binds X.K fd ps []) (hx : Passes CX X E) :
    OpR X (compareOp .Eq) (rEqO X.K C sp E) := by
  intro pins s σ H x y v u Q I rx ry h
  obtain ⟨a, dx, fs, t, rfl, ha, ty, hn, h⟩ := h
  cases rx
  obtain ⟨P, kx, p, _⟩ := kit_of I ry ty
  obtain ⟨mA, J, _⟩ := ins_get I.hok ha
  obtain ⟨od, J, _⟩ := J.look
  obtain ⟨m, hF⟩ := I.fr
  show wpAny _ _ (richCompare .Eq _ _) _ _ _
  refine PySem.W.cmp_K (op := .Eq) (tb := t) hr.units0 hF I.ok.mod.kin J (kx.ty _ _ I.kIn p) hn hs hf ?_
  have hl := F1.len _ _ _ _ h
  refine wpAny_call (codeAny_mono (F1.run X.A X.stack s H ⟨[.ref a, u], []⟩ [.ref a, u] [.ref a, y] Q E hr I.env0 (by
    have := hb s [.ref a, u] I.kIn (by simpa using hl)
    simpa using this) (.cons rfl (.cons ry .nil)) h) fun r s' hq => ?_)
  cases r with
  | error e => exact hx pins σ H s e s' I hq
  | ok fl =>
    cases fl with
    | ret w =>
      obtain ⟨z, H', I', rz, q⟩ := I.after hq
      cases z with
      | non => cases (show w = Value.none from rz); exact ⟨.non, H', I', rfl, q⟩
      | bl c => cases (show w = Value.bool c from rz); exact ⟨.bl c, H', I', rfl, q⟩
      | int i => obtain ⟨t, e⟩ := (show ∃ t, w = Value.int i t from rz); cases e; exact ⟨.int i, H', I', ⟨_, rfl⟩, q⟩
      | str x => obtain ⟨t, e⟩ := (show ∃ t, w = Value.str x t from rz); cases e; exact ⟨.str x, H', I', ⟨_, rfl⟩, q⟩
      | byt x => obtain ⟨t, e⟩ := (show ∃ t, w = Value.bytes x t from rz); cases e; exact ⟨.byt x, H', I', ⟨_, rfl⟩, q⟩
      | flt x => obtain ⟨t, e⟩ := (show ∃ t, w = Value.float x t from rz); cases e; exact ⟨.flt x, H', I', ⟨_, rfl⟩, q⟩
      | ref a => cases (show w = Value.ref a from rz); exact ⟨.ref a, H', I', rfl, q⟩
      | ty n => cases (show w = Value.type n from rz); exact ⟨.ty n, H', I', rfl, q⟩
    | next => exact False.elim hq
    | brk => exact False.elim hq
    | cont => exact False.elim hq
theorem op_neO (F1 : FnOk X.prog X.w X.K X.mg X.base CX k f fd ps sp) (hr : Room (k + 1) X.A) (hne : PySem.W.findIn X.K (.ref C) "__ne__" = some (some (.builtin "object.__ne__"))) (hs : PySem.W.findIn X.K (.ref C) "__eq__" = some (some (.ref f))) (hf : PySem.W.isFn X.K (.ref f) = true)
    (hm : PySem.W.mroIn X.K C (.type "object") = some true) (hb : Binds X.K fd ps []) (hx : Passes CX X E) :
    OpR X (compareOp .NotEq) (rNeO X.K C sp E) := by
  intro pins s σ H x y v u Q I rx ry h
  obtain ⟨a, dx, fs, t, rfl, ha, ty, hn, h⟩ := h
  cases rx
  obtain ⟨P, kx, p, _⟩ := kit_of I ry ty
  obtain ⟨mA, J, _⟩ := ins_get I.hok ha
  obtain ⟨od, J, _⟩ := J.look
  obtain ⟨m, hF⟩ := I.fr
  show wpAny _ _ (richCompare .NotEq _ _) _ _ _
  refine ne_K (tb := t) (by have := hr.un; omega) hF I.ok.mod.kin J (kx.ty _ _ I.kIn p) hn hne hs hf hm ?_
  have hl := F1.len _ _ _ _ h
  refine wpAny_call (codeAny_mono (F1.run X.A.in1 X.stack s H ⟨[.ref a, u], []⟩ [.ref a, u] [.ref a, y] _ E hr.in1 I.env0.in1 (by
    have := hb s [.ref a, u] I.kIn (by simpa using hl)
    simpa using this) (.cons rfl (.cons ry .nil)) h) fun r s' hq => ?_)
  cases r with
  | error e => exact hx pins σ H s e s' I hq
  | ok fl =>
    cases fl with
    | ret w =>
      obtain ⟨z, H', I', rz, c, rfl, q⟩ := I.after hq
      cases (show w = Value.bool c from rz)
      exact ⟨c, rfl, .bl (!c), H', I', rfl, q⟩
    | next => exact False.elim hq
    | brk => exact False.elim hq
    | cont => exact False.elim hq
end
end Zo

namespace Zo
open PySem L2 PySem.Spec PyProof.Rows
/-! ### what the top says of a class of one's own -/
structure Kit (K : PySem.W.Frag) (C : Addr) : Prop where
  cl : Cls K C
  ha : PySem.W.findIn K (.ref C) "__class__" = some (some (.builtin "object.__class__"))
  hn : PySem.W.specialIn K (.builtin "object.__class__") "__get__" = some (some (.builtin "getset_descriptor.__get__"))
  ht : PySem.W.takesIn K (.builtin "object.__class__") = some true
  hm : PySem.W.mroIn K C (.type "object") = some true
  ic : PySem.W.isClsIn K C = true
  ty : PySem.W.typeIn K (.ref C) = some (.type "type")
  mi : PySem.W.mroIn K C (.type "int") = some false
  mb : PySem.W.mroIn K C (.type "bool") = some false
  ms : PySem.W.mroIn K C (.type "str") = some false
  ml : PySem.W.mroIn K C (.type "list") = some false
  mt : PySem.W.mroIn K C (.type "tuple") = some false
  md : PySem.W.mroIn K C (.type "dict") = some false
theorem Kit.some {K : PySem.W.Frag} {C : Addr} (k : Kit K C) : (PySem.W.clsIn K C).isSome = true := k.ic
theorem kit_ot {K : PySem.W.Frag} {C : Addr} {b : String} (hb : PySem.W.kitMeta b = true) {r : Bool} (h : PySem.W.mroIn K C (.type b) = some r) : PySem.W.kitOne K (.ref C) (.type b) = some r := by
  show (if ((Value.ref C == Value.type b) = true) then some true else (if PySem.W.kitMeta b = true then PySem.W.subIn K (.ref C) (.type b) else none)) = some r
  rw [if_neg (by simp), if_pos hb]
  exact h
theorem kit_to {K : PySem.W.Frag} {C : Addr} {a : String} {l : List Value} (k : Kit K C) (e : fastBuiltinMro a = some l) (hl : l.contains (.ref C) = false) : PySem.W.kitOne K (.type a) (.ref C) = some false := by
  show (if ((Value.type a == Value.ref C) = true) then some true else (if ((PySem.W.clsIn K C).isSome && PySem.W.typeIn K (.ref C) == some (.type "type")) = true then (fastBuiltinMro a).map (·.contains (.ref C)) else none)) = some false
  rw [if_neg (by simp), if_pos (by rw [k.some, k.ty]; rfl), e]
  exact congrArg some hl
theorem nf_to {K : PySem.W.Frag} {C : Addr} {a : String} {l : List Value} (e : fastBuiltinMro a = some l) (hl : l.contains (.ref C) = false) : PySem.W.notFirst K C (.type a) = true := by
  have h : PySem.W.subIn K (.type a) (.ref C) = some false := by
    show (fastBuiltinMro a).map (·.contains (.ref C)) = some false
    rw [e]
    exact congrArg some hl
  unfold PySem.W.notFirst
  rw [h]
  simp
theorem nf_self {K : PySem.W.Frag} {C : Addr} : PySem.W.notFirst K C (.ref C) = true := by
  unfold PySem.W.notFirst
  simp
/-- the name of a datum's type, where it is a built-in one -/
def Dt.ty : Dt → Option String
  | .non => some "NoneType"
  | .bl _ => some "bool"
  | .int _ => some "int"
  | .str _ => some "str"
  | .tup _ => some "tuple"
  | .lst _ => some "list"
  | .dct _ _ => some "dict"
  | .ins _ _ _ => none
/-- the type as a value -/
def Dt.tyV (cl : Nat → Addr) : Dt → Value
  | .non => .type "NoneType"
  | .bl _ => .type "bool"
  | .int _ => .type "int"
  | .str _ => .type "str"
  | .tup _ => .type "tuple"
  | .lst _ => .type "list"
  | .dct _ _ => .type "dict"
  | .ins c _ _ => .ref (cl c)
def Dt.isI : Dt → Bool | .int _ => true | .bl _ => true | _ => false
def Dt.isB : Dt → Bool | .bl _ => true | _ => false
def Dt.isS : Dt → Bool | .str _ => true | _ => false
def Dt.isT : Dt → Bool | .tup _ => true | _ => false
def Dt.isL : Dt → Bool | .lst _ => true | _ => false
def Dt.isD : Dt → Bool | .dct _ _ => true | _ => false
def Dt.isO (cl : Nat → Addr) (C : Addr) : Dt → Bool | .ins c _ _ => decide (cl c = C) | _ => false
/-- an int that is no flag -/
def Dt.isN : Dt → Bool | .int _ => true | _ => false
theorem Dt.isN_eq (d : Dt) : d.isN = (d.isI && !d.isB) := by cases d <;> rfl
/-- an int from a to b -/
def Dt.bet (a b : Int) : Dt → Bool | .int i => decide (a ≤ i) && decide (i ≤ b) | _ => false
/-- an int from a on -/
def Dt.frm (a : Int) : Dt → Bool | .int i => decide (a ≤ i) | _ => false
theorem Dt.of_isN {d : Dt} (h : d.isN = true) : ∃ i, d = .int i := by
  cases d with
  | int i => exact ⟨i, rfl⟩
  | _ => exact Bool.noConfusion h
abbrev Dt.hou (f r : Int) : Dt := .ins 0 ["floors", "room"] [.int f, .int r]
structure Kits (K : PySem.W.Frag) (cl : Nat → Addr) : Prop where
  kit : ∀ c, Kit K (cl c)
  two : ∀ c d, PySem.W.mroIn K (cl c) (.ref (cl d)) = some (decide (cl c = cl d))
theorem R.ty {K : PySem.W.Frag} {cl : Nat → Addr} {h : Addr} {H : Hp} {v : V} {d : Dt} (k : Kits K cl) (r : R cl h H v d) : TyX K H v (d.tyV cl) := by
  cases r with
  | non => exact .base .non
  | bl b => exact .base (.bl b)
  | int i => exact .base (.int i)
  | str x => exact .base (.str x)
  | tup n e r => exact .base (.tup e)
  | lst n e r => exact .base (.lst e)
  | dct n e l r => exact .base (.dK e)
  | @ins a dx c ns vs ds n e l r => exact .base (.ins e (k.kit c).cl (k.kit c).ha (k.kit c).hn (k.kit c).ht (k.kit c).hm)
theorem bm_non : fastBuiltinMro "NoneType" = some [.type "NoneType", .type "object"] := by decide +kernel
theorem bm_int : fastBuiltinMro "int" = some [.type "int", .type "object"] := by decide +kernel
theorem bm_bool : fastBuiltinMro "bool" = some [.type "bool", .type "int", .type "object"] := by decide +kernel
theorem bm_str : fastBuiltinMro "str" = some [.type "str", .type "object"] := by decide +kernel
theorem bm_list : fastBuiltinMro "list" = some [.type "list", .type "object"] := by decide +kernel
theorem bm_tup : fastBuiltinMro "tuple" = some [.type "tuple", .type "object"] := by decide +kernel
theorem bm_dict : fastBuiltinMro "dict" = some [.type "dict", .type "object"] := by decide +kernel
section
variable {K : PySem.W.Frag} {cl : Nat → Addr} {h : Addr} {H : Hp} {v : V} {d : Dt} {Q : VK}
theorem isi_int (k : Kits K cl) (r : R cl h H v d) (q : Q (.bl d.isI) H) : rIsi K [v, .ty "int"] H Q := by
  refine ⟨v, .ty "int", d.tyV cl, .type "int", d.isI, rfl, .ty _, r.ty k, ?_, q⟩
  cases d <;> first | exact kit_ty (r := true) (by decide +kernel) | exact kit_ty (r := false) (by decide +kernel) | exact kit_ot (by decide +kernel) (k.kit _).mi
theorem isi_bool (k : Kits K cl) (r : R cl h H v d) (q : Q (.bl d.isB) H) : rIsi K [v, .ty "bool"] H Q := by
  refine ⟨v, .ty "bool", d.tyV cl, .type "bool", d.isB, rfl, .ty _, r.ty k, ?_, q⟩
  cases d <;> first | exact kit_ty (r := true) (by decide +kernel) | exact kit_ty (r := false) (by decide +kernel) | exact kit_ot (by decide +kernel) (k.kit _).mb
theorem isi_boolI {i : Int} (q : Q (.bl false) H) : rIsi K [.int i, .ty "bool"] H Q := ⟨.int i, .ty "bool", .type "int", .type "bool", false, rfl, .ty _, .base (.int i), kit_ty (by decide +kernel), q⟩
theorem isi_str (k : Kits K cl) (r : R cl h H v d) (q : Q (.bl d.isS) H) : rIsi K [v, .ty "str"] H Q := by
  refine ⟨v, .ty "str", d.tyV cl, .type "str", d.isS, rfl, .ty _, r.ty k, ?_, q⟩
  cases d <;> first | exact kit_ty (r := true) (by decide +kernel) | exact kit_ty (r := false) (by decide +kernel) | exact kit_ot (by decide +kernel) (k.kit _).ms
theorem isi_tup (k : Kits K cl) (r : R cl h H v d) (q : Q (.bl d.isT) H) : rIsi K [v, .ty "tuple"] H Q := by
  refine ⟨v, .ty "tuple", d.tyV cl, .type "tuple", d.isT, rfl, .ty _, r.ty k, ?_, q⟩
  cases d <;> first | exact kit_ty (r := true) (by decide +kernel) | exact kit_ty (r := false) (by decide +kernel) | exact kit_ot (by decide +kernel) (k.kit _).mt
theorem isi_list (k : Kits K cl) (r : R cl h H v d) (q : Q (.bl d.isL) H) : rIsi K [v, .ty "list"] H Q := by
  refine ⟨v, .ty "list", d.tyV cl, .type "list", d.isL, rfl, .ty _, r.ty k, ?_, q⟩
  cases d <;> first | exact kit_ty (r := true) (by decide +kernel) | exact kit_ty (r := false) (by decide +kernel) | exact kit_ot (by decide +kernel) (k.kit _).ml
theorem isi_dict (k : Kits K cl) (r : R cl h H v d) (q : Q (.bl d.isD) H) : rIsi K [v, .ty "dict"] H Q := by
  refine ⟨v, .ty "dict", d.tyV cl, .type "dict", d.isD, rfl, .ty _, r.ty k, ?_, q⟩
  cases d <;> first | exact kit_ty (r := true) (by decide +kernel) | exact kit_ty (r := false) (by decide +kernel) | exact kit_ot (by decide +kernel) (k.kit _).md
theorem kit_oo {c d : Nat} (k : Kits K cl) : PySem.W.kitOne K (.ref (cl c)) (.ref (cl d)) = some (decide (cl c = cl d)) := by
  by_cases e : cl c = cl d
  · rw [e, decide_eq_true rfl]
    show (if ((Value.ref (cl d) == Value.ref (cl d)) = true) then some true else _) = some true
    rw [if_pos (by simp)]
  · show (if ((Value.ref (cl c) == Value.ref (cl d)) = true) then some true else (if ((PySem.W.clsIn K (cl d)).isSome && PySem.W.typeIn K (.ref (cl d)) == some (.type "type")) = true then PySem.W.mroIn K (cl c) (.ref (cl d)) else none)) = _
    rw [if_neg (by simpa using e), if_pos (by rw [(k.kit d).some, (k.kit d).ty]; rfl)]
    exact k.two c d
theorem isi_own {c : Nat} (k : Kits K cl) (r : R cl h H v d) (q : Q (.bl (d.isO cl (cl c))) H) : rIsi K [v, .ref (cl c)] H Q := by
  refine ⟨v, .ref (cl c), d.tyV cl, .ref (cl c), d.isO cl (cl c), rfl, .own _, r.ty k, ?_, q⟩
  cases d with
  | non => exact kit_to (k.kit c) bm_non rfl
  | bl b => exact kit_to (k.kit c) bm_bool rfl
  | int b => exact kit_to (k.kit c) bm_int rfl
  | str b => exact kit_to (k.kit c) bm_str rfl
  | tup b => exact kit_to (k.kit c) bm_tup rfl
  | lst b => exact kit_to (k.kit c) bm_list rfl
  | dct b l => exact kit_to (k.kit c) bm_dict rfl
  | ins c' ns l => exact kit_oo k
/-- whatever stands on the right of an own == comes behind -/
theorem R.nf {c : Nat} (k : Kits K cl) (r : R cl h H v d) : PySem.W.notFirst K (cl c) (d.tyV cl) = true := by
  cases d with
  | non => exact nf_to bm_non rfl
  | bl b => exact nf_to bm_bool rfl
  | int b => exact nf_to bm_int rfl
  | str b => exact nf_to bm_str rfl
  | tup b => exact nf_to bm_tup rfl
  | lst b => exact nf_to bm_list rfl
  | dct b l => exact nf_to bm_dict rfl
  | ins c' ns l =>
    show PySem.W.notFirst K (cl c) (.ref (cl c')) = true
    unfold PySem.W.notFirst
    by_cases e : cl c' = cl c
    · rw [e]
      simp
    · have h : PySem.W.subIn K (.ref (cl c')) (.ref (cl c)) = some false := by
        show PySem.W.mroIn K (cl c') (.ref (cl c)) = some false
        rw [k.two, decide_eq_false e]
      rw [h]
      simp
end
/-- a computed int of the module by its name -/
theorem pe_gi {X : Cx} {x : Str} {i : Int} {pos : Pos} (hg : Gl X x) (hm : ∃ t, X.mg x = some (.int i t)) (hd : (x == ("__debug__" : Str)) = false := by decide) (hcd : (x == ("__classdict__" : Str)) = false := by decide) : PE X (.Name x pos) (tC (.int i)) := by
  obtain ⟨t, e⟩ := hm
  exact pe_glob hg e ⟨t, rfl⟩ hd
end Zo

namespace Zo
open PySem L2 PySem.Spec PyProof.Rows
/-! ### an object made where what its __init__ raises is wished at the slots -/
def tMakeS (C : Addr) (sp : Sp) (E : L2.St → XK) (t : TA) : TE := fun σ H Q => t σ H fun vs H1 => ∀ x dx, H1 x = none → H1 dx = none → dx ≠ x →
  sp (.ref x :: vs) (upd (upd H1 dx (.own x)) x (.ins C dx [])) (fun v H2 => v = .non ∧ Q (.ref x) H2) (E σ)
section
variable {X : Cx} {CX : CXT} {k : Nat} {f C : Addr} {fd : FuncData} {ps : List Str} {sp : Sp} {E : L2.St → XK} {x : Str} {p pos : Pos} {e : Expr} {es : List Expr} {t : TA}
theorem run_makeS {pins : List (Addr × Obj)} {σ : L2.St} {H : Hp} {s : Shared} {Q : VK} {us : List Value} {vs : List V} (M : Mk X.K C f) (F1 : FnOk X.prog X.w X.K X.mg X.base CX k f fd ps sp) (hr : Room (k + 1) X.A) (hb : Binds X.K fd ps [])
    (hx : ∀ (pins : List (Addr × Obj)) (H : Hp) (s : Shared) (e : Value) (s' : Shared), Inv X pins σ H s → CX X.stack H s (E σ) e s' → X.xe e s') (I : Inv X pins σ H s) (r : Vals vs us)
    (h : ∀ x dx, H x = none → H dx = none → dx ≠ x → sp (.ref x :: vs) (upd (upd H dx (.own x)) x (.ins C dx [])) (fun v H2 => v = .non ∧ Q (.ref x) H2) (E σ)) :
    wpAny (model X.prog X.w) X.A (call (.ref C) us) (EP X pins σ Q) X.xe s := by
  have new := h (s.heap.objs.size + 1) s.heap.objs.size (I.hok.fresh (Nat.le_succ _)) (I.hok.fresh (Nat.le_refl _)) (Nat.ne_of_lt (Nat.lt_succ_self _))
  have J := Inv.made (C := C) I
  have rr : Vals (V.ref (s.heap.objs.size + 1) :: vs) (Value.ref (s.heap.objs.size + 1) :: us) := .cons rfl r
  have hlen : (Value.ref (s.heap.objs.size + 1) :: us).length = ps.length := rr.length.symm.trans (F1.len _ _ _ _ new)
  have bd := hb _ (Value.ref (s.heap.objs.size + 1) :: us) J.kIn (by rw [List.append_nil]; exact hlen)
  rw [List.append_nil] at bd
  refine wpAny_call (make_map (f := f) I.kIn M.makes M.init (beq_iff_eq.mp M.fn) (codeAny_mono (F1.run _ X.stack _ _ ⟨Value.ref (s.heap.objs.size + 1) :: us, []⟩ _ _ _ (E σ) (hr.make C us []) (J.env0.make C us []) bd rr new) fun r s' q => ?_))
  cases r with
  | error e => exact hx pins _ _ e s' J q
  | ok fl =>
    cases fl with
    | ret u =>
      obtain ⟨v, H', I3, rv, ev, q3⟩ := J.after q
      subst ev
      exact ⟨rv, ⟨.ref (s.heap.objs.size + 1), H', I3, rfl, q3⟩⟩
    | next => exact q.elim
    | brk => exact q.elim
    | cont => exact q.elim
theorem pe_makeS (M : Mk X.K C f) (F1 : FnOk X.prog X.w X.K X.mg X.base CX k f fd ps sp) (hr : Room (k + 1) X.A) (hg : Gl X x) (hm : X.mg x = some (.ref C)) (hb : Binds X.K fd ps [])
    (hx : ∀ σ, ∀ (pins : List (Addr × Obj)) (H : Hp) (s : Shared) (e : Value) (s' : Shared), Inv X pins σ H s → CX X.stack H s (E σ) e s' → X.xe e s')
    (ha : PA X (e :: es) t) (hdb : (x == ("__debug__" : Str)) = false := by decide) (he : starEach (e :: es) X.env = (false, eval e X.env) :: starEach es X.env := by rfl) (hpl : (backTo pos (starEach es X.env)).any (·.1) = false := by rfl) :
    PE X (.Call (.Name x p) (e :: es) [] pos) (tMakeS C sp E t) := by
  refine ⟨fun pins s σ H Q I h => ?_⟩
  refine wpAny_Call_Name_kw (ld_glob I hg hm ?_ hdb)
  exact PySem.W.callWith_K (h₀ := X.base) I.ok.mod.kin M.kp (thn (ha.run pos pins s σ H _ I h) fun us s1 ⟨vs, H1, J, r, q⟩ => ⟨J.kIn, run_makeS M F1 hr hb (hx σ) J r q⟩) he hpl
end
theorem z_makeS {C : Addr} {sp : Sp} {E : L2.St → XK} {tr : TA} {σ : L2.St} {H : Hp} {Q : VK} (h : tr σ H fun vs H1 => newO C sp (E σ) Q vs H1) : tMakeS C sp E tr σ H Q := h
theorem z_callS {sp : Sp} {E : L2.St → XK} {tr : TA} {σ : L2.St} {H : Hp} {Q : VK} (h : tr σ H fun vs H1 => sp vs H1 Q (E σ)) : tCallS sp E tr σ H Q := h
theorem z_xf {a : Addr} {cls : Value} {d : Option Addr} {C : Addr} {f : Str} {te : TE} {σ : L2.St} {H : Hp} {Q : VK} (h : te σ H fun x H1 => x = .ref a ∧ cls = .ref C ∧ ∃ (dd : Addr) (fs : List (Str × V)) (v : V), d = some dd ∧ H1 dd = some (.xd fs) ∧ fs.lookup f = some v ∧ Q v H1) : tXf a cls d C f te σ H Q := h
theorem z_eqO {K : PySem.W.Frag} {cl : Nat → Addr} {h : Addr} {H : Hp} {x y : V} {c : Nat} {ns : List Str} {ds : List Dt} {d : Dt} {sp : Sp} {E : XK} {Q : VK} (k : Kits K cl) (rx : R cl h H x (.ins c ns ds)) (ry : R cl h H y d) (q : sp [x, y] H Q E) : rEqO K (cl c) sp E x y H Q := by
  have t := ry.ty k
  have n := R.nf (c := c) k ry
  obtain ⟨a, dx, vs, rfl, _, e, _⟩ := rx.ins_inv
  exact ⟨a, dx, _, _, rfl, e, t, n, q⟩
theorem z_neO {K : PySem.W.Frag} {cl : Nat → Addr} {h : Addr} {H : Hp} {x y : V} {c : Nat} {ns : List Str} {ds : List Dt} {d : Dt} {sp : Sp} {E : XK} {Q : VK} (k : Kits K cl) (rx : R cl h H x (.ins c ns ds)) (ry : R cl h H y d)
    (q : sp [x, y] H (fun z H' => ∃ c, z = .bl c ∧ Q (.bl (!c)) H') E) : rNeO K (cl c) sp E x y H Q := by
  have t := ry.ty k
  have n := R.nf (c := c) k ry
  obtain ⟨a, dx, vs, rfl, _, e, _⟩ := rx.ins_inv
  exact ⟨a, dx, _, _, rfl, e, t, n, q⟩
/-! ### errors with one field -/
def spX1 (K : PySem.W.Frag) (C : Addr) (f : Str) : Sp := fun vs H Q _ => ∃ (a : Addr) (v : V), vs = [.ref a, v] ∧ OexC K C ∧ PySem.W.findIn K (.ref C) f = some none ∧ H a = some (exo a C none) ∧
  ∀ dx, H dx = none → dx ≠ a → Q .non (upd (upd H dx (exd dx [(f, v)])) a (exo a C (some dx)))
theorem z_ost {K : PySem.W.Frag} {C a : Addr} {f : Str} {v : V} {D : Ends} {σ : L2.St} {H : Hp} (e0 : σ[0]? = some (some (.ref a))) (e1 : σ[1]? = some (some v)) (T : OexC K C) (no : PySem.W.findIn K (.ref C) f = some none) (ha : H a = some (exo a C none))
    (k : ∀ dx, H dx = none → dx ≠ a → D.nx σ (upd (upd H dx (exd dx [(f, v)])) a (exo a C (some dx)))) : tOst K f (tVar 0) (tVar 1) D σ H :=
  ⟨v, e1, _, e0, a, C, rfl, T, no, .inl ⟨ha, k⟩⟩
/-- C(v), as it is raised -/
theorem z_raise1 {K : PySem.W.Frag} {C : Addr} {f : Str} {ta : TA} {v : V} {σ : L2.St} {H : Hp} {Q : XK} (T : OexC K C) (no : PySem.W.findIn K (.ref C) f = some none)
    (h : ta σ H fun vs H1 => ∃ v, vs = [v] ∧ ∀ d, H1 d = none → Q (.ref C) (some d) (upd H1 d (.xd [(f, v)]))) (mono : ∀ Q1 Q2 : List V → Hp → Prop, (∀ vs H, Q1 vs H → Q2 vs H) → ta σ H Q1 → ta σ H Q2) : tMkO C (spX1 K C f) [] ta σ H Q := by
  refine mono _ _ (fun vs H1 z => ?_) h
  obtain ⟨v, rfl, k⟩ := z
  refine ⟨Nat.succ_le_succ (Nat.zero_le _), fun a na => ⟨a, v, rfl, T, no, upd_same, fun dx nd ne => ⟨rfl, dx, [(f, v)], upd_same, ?_, ?_, ?_⟩⟩⟩
  · rw [upd_ne ne, upd_same]
  · rw [upd_ne ne] at nd
    exact nd
  · have nd1 : H1 dx = none := by
      rw [upd_ne ne] at nd
      exact nd
    have q := k dx nd1
    have e : upd (del (upd (upd (upd H1 a (exo a C none)) dx (exd dx [(f, v)])) a (exo a C (some dx))) a) dx (.xd [(f, v)]) = upd H1 dx (.xd [(f, v)]) := by
      funext b
      by_cases hb : b = dx
      · rw [hb, upd_same, upd_same]
      · rw [upd_ne hb, upd_ne hb]
        by_cases hc : b = a
        · rw [hc, del_same, na]
        · rw [del_ne hc, upd_ne hc, upd_ne hb, upd_ne hc]
    rw [e]
    exact q
/-- a constant alone -/
theorem z_raiseC {K : PySem.W.Frag} {C : Addr} {f : Str} {v : V} {σ : L2.St} {H : Hp} {Q : XK} (T : OexC K C) (no : PySem.W.findIn K (.ref C) f = some none) (h : ∀ d, H d = none → Q (.ref C) (some d) (upd H d (.xd [(f, v)]))) :
    tMkO C (spX1 K C f) [] (tCons (tC v) tNil) σ H Q := z_raise1 (v := v) T no ⟨v, rfl, h⟩ fun _ _ g q => g _ _ q
/-- a slot alone -/
theorem z_raiseV {K : PySem.W.Frag} {C : Addr} {f : Str} {v : V} {i : Nat} {σ : L2.St} {H : Hp} {Q : XK} (T : OexC K C) (no : PySem.W.findIn K (.ref C) f = some none) (e : σ[i]? = some (some v)) (h : ∀ d, H d = none → Q (.ref C) (some d) (upd H d (.xd [(f, v)]))) :
    tMkO C (spX1 K C f) [] (tCons (tVar i) tNil) σ H Q := z_raise1 (v := v) T no ⟨v, e, v, rfl, h⟩ fun _ _ g ⟨w, e, q⟩ => ⟨w, e, g _ _ q⟩
end Zo

namespace Zo
open PySem L2 PySem.Spec PyProof.Rows
/-! ### errors as values -/
/-- what the top says of an error's class; bm: the classes behind it -/
structure ErrC (K : PySem.W.Frag) (C : Addr) (bm : List Value) : Prop where
  cls : ∃ nm q N bs sn sub ab col dd k0 k1 k2 k3 k5, K.lookup C = some (excClassObj nm q C N bs bm true sn sub ab col dd k0 k1 k2 k3 k5 "ValueError.__new__") ∧ PySem.HandSPX.refsVE bm = true
  exC : PySem.W.subIn K (.ref C) (.type "BaseException") = some true
  tyC : PySem.W.typeIn K (.ref C) = some (.type "type")
  ga : PySem.W.findIn K (.ref C) "__getattribute__" = some (some (.builtin "BaseException.__getattribute__"))
  gg : PySem.W.findIn K (.ref C) "__getattr__" = some none
  hd : PySem.W.hasDictIn K C = true
  ca : PySem.W.findIn K (.ref C) "__class__" = some (some (.builtin "object.__class__"))
  ic : PySem.W.isClsIn K C = true
  ob : PySem.W.mroIn K C (.type "object") = some true
structure ErrK (K : PySem.W.Frag) : Prop where
  hn : PySem.W.specialIn K (.builtin "object.__class__") "__get__" = some (some (.builtin "getset_descriptor.__get__"))
  ht : PySem.W.takesIn K (.builtin "object.__class__") = some true
section
variable {K : PySem.W.Frag} {C D : Addr} {bm : List Value}
theorem ErrC.xf (E : ErrC K C bm) : XfC K C := ⟨E.ga, E.gg, E.exC, E.hd⟩
theorem ErrC.kitx (E : ErrC K C bm) (k : ErrK K) {x : Addr} {ox : Obj} {od : Option Obj} : PySem.W.KitX K (.ref x) (.ref C) (fun h => PySem.W.InstAt h x ox C od) :=
  PySem.W.kitx_exc E.ic E.ga E.gg E.exC E.ca k.hn k.ht E.ob
theorem ErrC.mro (E : ErrC K C bm) (v : Value) (n : ¬ (v == Value.ref C) = true) : PySem.W.subIn K (.ref C) v = some (bm.contains v) := by
  obtain ⟨nm, q, N, bs, sn, sub, ab, col, dd, k0, k1, k2, k3, k5, h, hv⟩ := E.cls
  show PySem.W.mroIn K C v = _
  have hc : PySem.W.clsIn K C = some { name := nm, bases := bs, mro := .ref C :: bm, ns := N, qualname := q, hasDict := true, slotNames := sn, subclasses := sub, abstract := ab, collection := col, hasDel := false } := by unfold PySem.W.clsIn; rw [h] <;> rfl
  have e : ((Value.ref C :: bm).contains v) = bm.contains v := by
    rw [List.contains_cons]
    cases q : (v == Value.ref C) with
    | true => exact absurd q n
    | false => rfl
  have ne := PySem.HandSPX.refsVE_ne (l := .ref C :: bm) (show PySem.HandSPX.refsVE (.ref C :: bm) = true from hv)
  unfold PySem.W.mroIn
  rw [hc, Option.bind_some, if_neg (by rw [ne]; decide)]
  exact congrArg some e
theorem kitE_same : PySem.W.kitOne K (.ref C) (.ref C) = some true := by
  show (if ((Value.ref C == Value.ref C) = true) then some true else _) = some true
  rw [if_pos (by simp)]
theorem kitE (E : ErrC K C bm) (t : PySem.W.isClsIn K D = true) (ty : PySem.W.typeIn K (.ref D) = some (.type "type")) (n : C ≠ D) : PySem.W.kitOne K (.ref C) (.ref D) = some (bm.contains (.ref D)) := by
  have hs : (PySem.W.clsIn K D).isSome = true := t
  show (if ((Value.ref C == Value.ref D) = true) then some true else (if ((PySem.W.clsIn K D).isSome && PySem.W.typeIn K (.ref D) == some (.type "type")) = true then PySem.W.subIn K (.ref C) (.ref D) else none)) = _
  rw [if_neg (by simpa using n), if_pos (by rw [hs, ty]; rfl)]
  exact E.mro _ (by simpa using fun z => n z.symm)
theorem kitE_ty (E : ErrC K C bm) {b : String} (hb : PySem.W.kitMeta b = true) : PySem.W.kitOne K (.ref C) (.type b) = some (bm.contains (.type b)) := by
  show (if ((Value.ref C == Value.type b) = true) then some true else (if PySem.W.kitMeta b = true then PySem.W.subIn K (.ref C) (.type b) else none)) = _
  rw [if_neg (by simp), if_pos hb]
  exact E.mro _ (by simp)
end
/-- at a an error of the class at C -/
def ErA (H : Hp) (a C : Addr) : Prop := H a = some (exo a C none) ∨ ∃ dx fs, H a = some (exo a C (some dx)) ∧ H dx = some (exd dx fs)
theorem ErA.kp {H H' : Hp} {a C : Addr} (k : ∀ a o, H a = some o → H' a = some o) (e : ErA H a C) : ErA H' a C := by
  rcases e with e | ⟨dx, fs, e, f⟩
  · exact .inl (k _ _ e)
  · exact .inr ⟨dx, fs, k _ _ e, k _ _ f⟩
theorem ErA.inst {X : Cx} {pins : List (Addr × Obj)} {σ : L2.St} {H : Hp} {s : Shared} {a C : Addr} (I : Inv X pins σ H s) (e : ErA H a C) : ∃ ox od, PySem.W.InstAt s.heap a ox C od := by
  rcases e with e | ⟨dx, fs, e, f⟩
  · obtain ⟨t1, ho⟩ := exo_at I.hok e
    exact ⟨_, none, ho, rfl, rfl, trivial⟩
  · obtain ⟨t1, ho⟩ := exo_at I.hok e
    obtain ⟨mA, ⟨o, es, ep, hd, _⟩, _⟩ := exd_at I.hok f
    exact ⟨_, some o, ho, rfl, rfl, hd⟩
/-- isinstance(e, c), e an error that is held -/
def rIsX (K : PySem.W.Frag) : List V → Hp → VK → Prop := fun xs H Q => ∃ (a C : Addr) (bm : List Value) (c : V) (u : Value) (b : Bool), xs = [.ref a, c] ∧ ErrC K C bm ∧ ErrK K ∧ ErA H a C ∧ ClsV c u ∧ PySem.W.kitOne K (.ref C) u = some b ∧ Q (.bl b) H
theorem call_isX {X : Cx} : CallR X (.builtin "isinstance") (rIsX X.K) := by
  intro pins s σ H xs us Q I r h
  obtain ⟨a, C, bm, c, u, b, rfl, E, k, ea, cv, e, q⟩ := h
  obtain ⟨u1, u2, rfl, r1, r2⟩ := vals2 r
  have e2 := cv.eq r2
  subst e2
  cases (show u1 = Value.ref a from r1)
  obtain ⟨ox, od, J⟩ := ea.inst I
  exact PySem.W.kia_one (E.kitx k) I.kIn J e (fun z => nomatch z) fun tk => ⟨.bl b, H, I.tok tk, rfl, q⟩
/-- e.f, e an error that is held -/
def tXv (K : PySem.W.Frag) (te : TE) (f : Str) : TE := fun σ H Q => te σ H fun x H1 => ∃ (a C dx : Addr) (bm : List Value) (fs : List (Str × V)) (v : V), x = .ref a ∧ ErrC K C bm ∧ PySem.W.findIn K (.ref C) f = some none ∧
  H1 a = some (exo a C (some dx)) ∧ H1 dx = some (exd dx fs) ∧ fs.lookup f = some v ∧ Q v H1
theorem pe_xv {X : Cx} {e : Expr} {te : TE} {pos : Pos} {n : Str} (he : PE X e te) (hb : attributeBase e n X.env (eval e X.env) = eval e X.env := by rfl) : PE X (.Attribute e n pos) (tXv X.K te n) := by
  refine ⟨fun pins s σ H Q I h => ?_⟩
  refine attr_of hb (thn (he.run pins s σ H _ I h) fun u s1 hh => ?_)
  obtain ⟨x, H1, I1, rx, a, C, dx, bm, fs, v, rfl, T, hno, ea, ed, l, q⟩ := hh
  obtain rfl : u = Value.ref a := rx
  obtain ⟨t1, ho⟩ := exo_at I1.hok ea
  obtain ⟨mA, hns, hr⟩ := exd_at I1.hok ed
  obtain ⟨od, ho2, hl⟩ := lookIn_ns hns
  obtain ⟨u, hu, ru⟩ := RelO.some_of (v := v) (o := mA n) (by rw [← l]; exact hr n)
  have J : PySem.W.InstAt s1.heap a _ C (some od) := ⟨ho, rfl, rfl, ho2⟩
  exact HandSPX.exc_get I1.kIn J T.ga T.gg T.exC (PySem.W.findObj_own T.hd hno rfl (by rw [hl, hu])) (handed_of ru) ⟨v, H1, I1.tok _, ru, q⟩
/-- C(e), as a value -/
def tMkX (C : Addr) (sp : Sp) (ta : TA) : TE := fun σ H Q => ta σ H fun vs H1 => vs.length ≤ 1000 ∧ ∀ a, H1 a = none → sp (.ref a :: vs) (upd H1 a (exo a C none)) (fun v H2 => v = .non ∧ Q (.ref a) H2) (fun _ _ _ => False)
section
variable {X : Cx} {C : Addr} {x : Str} {p pos : Pos}
theorem pe_mkX {CX : CXT} {fI : Addr} {k : Nat} {fd : FuncData} {ps : List Str} {sp : Sp} {e : Expr} {es : List Expr} {ta : TA} (T : OexC X.K C) (iC : PySem.W.findIn X.K (.ref C) "__init__" = some (some (.ref fI))) (tI : PySem.W.typeIn X.K (.ref fI) = some (.type "function"))
    (F1 : FnOk X.prog X.w X.K X.mg X.base CX k fI fd ps sp) (hr : Room (k + 1) X.A) (hb : Binds X.K fd ps []) (hx : Passes CX X (fun _ _ _ => False)) (hg : Gl X x) (hm : X.mg x = some (.ref C)) (ha : PA X (e :: es) ta)
    (hdb : (x == ("__debug__" : Str)) = false := by decide) (he : starEach (e :: es) X.env = (false, eval e X.env) :: starEach es X.env := by rfl) (hpl : (backTo pos (starEach es X.env)).any (·.1) = false := by rfl) :
    PE X (.Call (.Name x p) (e :: es) [] pos) (tMkX C sp ta) := by
  refine ⟨fun pins s σ H Q I h => ?_⟩
  obtain ⟨nm, q, N, bs, bm, sn, sub, ab, col, dd, k0, k1, k2, k3, k5, hC, hbm⟩ := T.cls
  refine wpAny_Call_Name_kw (ld_glob I hg hm ?_ hdb)
  refine PySem.W.callWith_K (h₀ := X.base) I.ok.mod.kin T.kC (thn (ha.run pos pins s σ H _ I h) fun us s1 ⟨vs, H1, I1, r1, hz, q1⟩ => ⟨I1.kIn, ?_⟩) he hpl
  show wpAny _ _ (call (.ref C) us) _ _ _
  obtain ⟨hp, g, dr, tk, os⟩ := s1
  have hsz : hp.objs.size ≤ hp.objs.size + 1 := Nat.le_succ _
  have hn : H1 (hp.objs.size + 1) = none := I1.hok.fresh hsz
  have hq := q1 (hp.objs.size + 1) hn
  have kk : ∀ b o, hp.get? b = some o → ((hp.push (PySem.W.kdv_tup us)).push (PySem.HandSPX.excO C hp.objs.size)).get? b = some o := fun b o e => Heap.get?_push_of_some _ (Heap.get?_push_of_some _ e)
  have hget : ((hp.push (PySem.W.kdv_tup us)).push (PySem.HandSPX.excO C hp.objs.size)).get? (hp.objs.size + 1) = some (PySem.HandSPX.excO C hp.objs.size) := by heap_get
  have I2 : Inv X pins σ (upd H1 (hp.objs.size + 1) (exo (hp.objs.size + 1) C none)) ⟨(hp.push (PySem.W.kdv_tup us)).push (PySem.HandSPX.excO C hp.objs.size), g, dr, tk, os⟩ :=
    I1.laid (t' := tk) (a := hp.objs.size + 1) (o := exo (hp.objs.size + 1) C none) (h' := (hp.push (PySem.W.kdv_tup us)).push (PySem.HandSPX.excO C hp.objs.size)) kk hsz (exo_ok hget)
  have r2 : Vals (V.ref (hp.objs.size + 1) :: vs) (Value.ref (hp.objs.size + 1) :: us) := .cons rfl r1
  have hl : (Value.ref (hp.objs.size + 1) :: us ++ []).length = ps.length := by
    have e := r2.length
    rw [F1.len _ _ _ _ hq] at e
    rw [List.append_nil]
    exact e.symm
  have hus : us.length ≤ sizeLine := by
    rw [← Paired.length r1, sizeLine_eq]
    omega
  have bd := hb _ (Value.ref (hp.objs.size + 1) :: us) I2.kIn hl
  rw [List.append_nil] at bd
  refine wpAny_call (PySem.HandSPX.call_own F.excBase_ValueError (fun Y => PySem.HandSPX.refsVE_contains Y bm hbm) (I1.kIn _ _ hC) (PySem.W.looks_findIn I1.kIn iC) (fun self => PySem.W.bind_fn I1.kIn self tI) hus
    (codeAny_mono (F1.run _ X.stack _ _ ⟨Value.ref (hp.objs.size + 1) :: us, []⟩ (Value.ref (hp.objs.size + 1) :: us) _ _ (fun _ _ _ => False) (hr.make C us []) (I2.env0.make C us []) bd r2 hq) fun r s' hq' => ?_))
  cases r with
  | error er => exact hx pins σ _ _ er s' I2 hq'
  | ok fl =>
    cases fl with
    | ret u =>
      obtain ⟨v, H', I3, rv, ev, q3⟩ := I2.after hq'
      subst ev
      exact ⟨rv, ⟨.ref (hp.objs.size + 1), H', I3, rfl, q3⟩⟩
    | next => exact False.elim hq'
    | brk => exact False.elim hq'
    | cont => exact False.elim hq'
/-- C(), C without an own __init__ -/
def tMkX0 (C : Addr) : TE := fun _ H Q => ∀ a, H a = none → Q (.ref a) (upd H a (exo a C none))
theorem pe_mkX0 {bmB : List Value} {B newId initId : String} (F : ExcBaseFacts B newId initId bmB) (q : PySem.W.excIn X.K C bmB newId = true) (gC : X.mg x = some (.ref C)) (kC : PySem.W.keepIn X.K (.ref C) = true) (hg : Gl X x)
    (hdb : (x == ("__debug__" : Str)) = false := by decide) : PE X (.Call (.Name x p) [] [] pos) (tMkX0 C) := by
  refine ⟨fun pins s σ H Q I h => ?_⟩
  refine wpAny_Call_Name_kw (ld_glob I hg gC ?_ hdb)
  refine PySem.W.callWith_K0 I.kIn kC ?_
  show wpAny _ _ (call (.ref C) []) _ _ _
  obtain ⟨bm, N, nm, qn, bs, hdct, sn, sub, ab, col, dd, k0, k1, k2, k3, k5, mN, hC, hN, hni, T⟩ := exc_obj I.kIn q
  refine wpAny_call_exc_subT F T hC hN hni (fun h' a hm => ?_) (by show 0 ≤ sizeLine; exact Nat.zero_le _)
  have hn : H a = none := I.hok.gone hm.new
  obtain ⟨t, ht, _, _⟩ := hm.there
  exact ⟨.ref a, upd H a (exo a C none), I.laidN hm.keeps hm.new hn (exo_ok ht), rfl, h a hn⟩
end
/-! ### l.count(b), a flag -/
def rCntB (K : PySem.W.Frag) : V → List V → Hp → VK → Prop := fun x xs H Q => ∃ (p : Addr) (bs : List Bool) (k : Bool), x = .ref p ∧ xs = [.bl k] ∧ SqL K H p (bs.map V.bl) ∧ Q (.int (bs.count k : Nat)) H
theorem flatB_all : ∀ bs : List Bool, (bs.map V.bl).all flatV = true
  | [] => rfl
  | b :: bs => by rw [List.map_cons, List.all_cons, flatB_all bs]; rfl
theorem cntB {k : Bool} : ∀ {bs : List Bool} {us : List Value}, Vals (bs.map V.bl) us → us.countP (eqU (.bl k)) = bs.count k
  | [], _, .nil => rfl
  | b :: bs, u :: us, .cons r t => by
    cases (show u = Value.bool b from r)
    rw [List.countP_cons, List.count_cons, cntB t]
    cases b <;> cases k <;> rfl
section
variable {X : Cx}
theorem mt_lcountB : MtR X "list.count" (rCntB X.K) := by
  intro pins s σ H x xs v us Q I rx rxs h
  obtain ⟨p, bs, k, rfl, rfl, hs, q⟩ := h
  cases rx
  obtain ⟨u, rfl, ru⟩ := rxs.one
  obtain ⟨its, rv, ⟨⟨cls, dd, data, sl⟩, n, ho, hc, hdn, hd⟩, hlen⟩ := I.list hs
  simp only at hc hd
  subst hc hd
  refine call_meets PySem.F.slot_list_count ⟨_, ho, rfl⟩ PySem.F.entry_list_count (PySem.F.args_list_count_2 _ _)
    (SeqAt.list_countAt p its.toArray n dd sl u (eqU (.bl k))) ⟨ho, fun y hy => mem_eqAt ru rfl rv (flatB_all bs) y (by simpa using hy), ?_⟩
  have ec : its.toArray.toList.countP (eqU (.bl k)) = bs.count k := cntB rv
  refine ⟨.int (bs.count k : Nat), H, I.tok _, ⟨s.toks, ?_⟩, q⟩
  show Value.int ((its.toArray.toList.countP (eqU (.bl k)) : Nat) : Int) s.toks = Value.int ((bs.count k : Nat) : Int) s.toks
  rw [ec]
end
/-! ### x == y of data, or of dicts that are alike -/
def rEqE (K : PySem.W.Frag) : R2 := fun x y H Q => rEqD K x y H Q ∨ rEqDA x y H Q
theorem op_eqE {X : Cx} (hu : X.A.units + 64 < cLine) : OpR X (compareOp .Eq) (rEqE X.K) := by
  intro pins s σ H x y v u Q I rx ry h
  rcases h with h | h
  · exact op_eqD hu pins s σ H x y v u Q I rx ry h
  · exact op_eq_dictA (by omega) pins s σ H x y v u Q I rx ry h
/-- isinstance(e, c) in the suite that holds e -/
def rIsP (K : PySem.W.Frag) (C a : Addr) (d : Option Addr) : List V → Hp → VK → Prop := fun xs H Q => ∃ (bm : List Value) (dd : Addr) (fs : List (Str × V)) (c : V) (u : Value) (b : Bool), xs = [.ref a, c] ∧ ErrC K C bm ∧ ErrK K ∧ d = some dd ∧ H dd = some (.xd fs) ∧ ClsV c u ∧ PySem.W.kitOne K (.ref C) u = some b ∧ Q (.bl b) H
theorem call_isP {X : Cx} {a C : Addr} {oe : Obj} {d : Option Addr} {cls : Value} {pn : List (Addr × Obj)} (hz : Zc cls d oe) (hf : ∃ vs, oe.data = .fields vs) :
    CallR (X.suite a ((a, oe) :: pn)) (.builtin "isinstance") (fun xs H Q => cls = .ref C ∧ rIsP X.K C a d xs H Q) := by
  intro pins s σ H xs us Q I r h
  obtain ⟨ec, bm, dd, fs, c, u, b, rfl, E, k, ed, ea, cv, e, q⟩ := h
  subst ec ed
  obtain ⟨u1, u2, rfl, r1, r2⟩ := vals2 r
  have e2 := cv.eq r2
  subst e2
  cases (show u1 = Value.ref a from r1)
  obtain ⟨hget, _⟩ := I.pin (a, oe) (List.mem_append.mpr (.inl List.mem_cons_self))
  obtain ⟨vs, hv⟩ := hf
  have hx : ObjOk X.prog X.w H s.heap dd (.xd fs) := I.hok dd _ ea
  obtain ⟨mA, hns, hr⟩ := hx
  obtain ⟨od, ho, hl⟩ := lookIn_ns hns
  have J : PySem.W.InstAt s.heap a oe C (some od) := ⟨hget, hz.1, by unfold PySem.W.notCls; rw [hv] <;> rfl, by rw [hz.2]; exact ho⟩
  exact PySem.W.kia_one (E.kitx k) I.kIn J e (fun z => nomatch z) fun tk => ⟨.bl b, H, I.tok tk, rfl, q⟩

/-! ### readings of these -/
def ndB : List Addr → Bool
  | [] => true
  | a :: l => !l.contains a && ndB l
theorem ndB_at : ∀ {l : List Addr} {i j : Nat} {a : Addr}, ndB l = true → l[i]? = some a → l[j]? = some a → i = j
  | [], i, j, a, _, h, _ => by simp at h
  | b :: l, 0, 0, a, _, _, _ => rfl
  | b :: l, 0, j + 1, a, n, h, g => by
    simp only [ndB, Bool.and_eq_true, Bool.not_eq_true'] at n
    simp only [List.getElem?_cons_zero, Option.some.injEq] at h
    simp only [List.getElem?_cons_succ] at g
    subst h
    have m := List.mem_of_getElem? g
    have c := n.1
    rw [List.contains_iff_mem.mpr m] at c
    cases c
  | b :: l, i + 1, 0, a, n, h, g => by
    simp only [ndB, Bool.and_eq_true, Bool.not_eq_true'] at n
    simp only [List.getElem?_cons_zero, Option.some.injEq] at g
    simp only [List.getElem?_cons_succ] at h
    subst g
    have m := List.mem_of_getElem? h
    have c := n.1
    rw [List.contains_iff_mem.mpr m] at c
    cases c
  | b :: l, i + 1, j + 1, a, n, h, g => by
    simp only [ndB, Bool.and_eq_true] at n
    simp only [List.getElem?_cons_succ] at h g
    exact congrArg (· + 1) (ndB_at n.2 h g)
theorem sameU {H : Hp} {p : Addr} {o : HO} (n : H p = none) : Same H (upd H p o) := fun b u q => by
  rw [upd_ne (ne_of_none q n)]
  exact q
theorem z_newS {xs : List V} {H : Hp} {Q : VK} (k : ∀ p H', Same H H' → H p = none → H' p = some (.lst xs) → Q (.ref p) H') (l : xs.length ≤ 1000000 := by exact Nat.le_of_ble_eq_true rfl) : newL Q xs H :=
  ⟨sz1000 l, fun p n => k p _ (sameU n) n upd_same⟩
theorem z_catS {a b : Addr} {xs ys : List V} {H : Hp} {Q : VK} (ha : H a = some (.lst xs)) (hb : H b = some (.lst ys)) (k : ∀ p H', Same H H' → H p = none → H' p = some (.lst (xs ++ ys)) → Q (.ref p) H') (l : xs.length + ys.length ≤ 1000000 := by exact Nat.le_of_ble_eq_true rfl) :
    rCat (.ref a) (.ref b) H Q := ⟨a, b, xs, ys, rfl, rfl, ha, hb, sz1000 l, fun p n => k p _ (sameU n) n upd_same⟩
/-- an error of the class C with v in its field, or with none -/
def E1 (h : Addr) (H : Hp) (v : V) (t : Addr × Option Str) (x : V) : Prop := ∃ a, x = .ref a ∧ a ≠ h ∧ match t.2 with
  | none => H a = some (exo a t.1 none)
  | some f => ∃ dx, dx ≠ h ∧ H a = some (exo a t.1 (some dx)) ∧ H dx = some (exd dx [(f, v)])
theorem E1.kp {h : Addr} {H H' : Hp} {v : V} {t : Addr × Option Str} {x : V} (k : Kp h H H') (e : E1 h H v t x) : E1 h H' v t x := by
  obtain ⟨C, f⟩ := t
  obtain ⟨a, rfl, n, e⟩ := e
  refine ⟨a, rfl, n, ?_⟩
  cases f with
  | none => exact k _ _ n e
  | some f =>
    obtain ⟨dx, n2, e1, e2⟩ := e
    exact ⟨dx, n2, k _ _ n e1, k _ _ n2 e2⟩
theorem E1.er {h : Addr} {H : Hp} {v : V} {C : Addr} {f : Option Str} {x : V} (e : E1 h H v (C, f) x) : ∃ a, x = .ref a ∧ ErA H a C := by
  obtain ⟨a, rfl, n, e⟩ := e
  cases f with
  | none => exact ⟨a, rfl, .inl e⟩
  | some f =>
    obtain ⟨dx, n2, e1, e2⟩ := e
    exact ⟨a, rfl, .inr ⟨dx, _, e1, e2⟩⟩
inductive Es (h : Addr) (H : Hp) (v : V) : List (Addr × Option Str) → List V → Prop
  | nil : Es h H v [] []
  | cons {t : Addr × Option Str} {ts : List (Addr × Option Str)} {x : V} {xs : List V} : E1 h H v t x → Es h H v ts xs → Es h H v (t :: ts) (x :: xs)
theorem Es.kp {h : Addr} {H H' : Hp} {v : V} (k : Kp h H H') : ∀ {ts : List (Addr × Option Str)} {xs : List V}, Es h H v ts xs → Es h H' v ts xs
  | _, _, .nil => .nil
  | _, _, .cons r t => .cons (r.kp k) (Es.kp k t)
theorem Es.app {h : Addr} {H : Hp} {v : V} : ∀ {ts us : List (Addr × Option Str)} {xs ys : List V}, Es h H v ts xs → Es h H v us ys → Es h H v (ts ++ us) (xs ++ ys)
  | _, _, _, _, .nil, s => s
  | _, _, _, _, .cons r t, s => .cons r (Es.app t s)
theorem Es.len {h : Addr} {H : Hp} {v : V} : ∀ {ts : List (Addr × Option Str)} {xs : List V}, Es h H v ts xs → xs.length = ts.length
  | _, _, .nil => rfl
  | _, _, .cons _ t => by rw [List.length_cons, List.length_cons, Es.len t]
theorem Es.at {h : Addr} {H : Hp} {v : V} : ∀ {ts : List (Addr × Option Str)} {xs : List V} {i : Nat} {t : Addr × Option Str}, Es h H v ts xs → ts[i]? = some t → ∃ x, xs[i]? = some x ∧ E1 h H v t x
  | _, _, _, _, .nil, e => by simp at e
  | _, _, 0, _, .cons r _, e => by simp at e; subst e; exact ⟨_, rfl, r⟩
  | _, _, i + 1, d, .cons _ t, e => by
    obtain ⟨v, h1, h2⟩ := Es.at (i := i) (t := d) t (by simpa using e)
    exact ⟨v, by simpa using h1, h2⟩
theorem kpS {h : Addr} {H H' : Hp} (s : Same H H') : Kp h H H' := fun a o _ e => s a o e
theorem z_bm {K : PySem.W.Frag} {T : String} {r : V → List V → Hp → VK → Prop} {to : TE} {tr : TA} {σ : L2.St} {H : Hp} {Q : VK} (q : to σ H fun x H1 => tyV K T x H1 ∧ tr σ H1 fun xs H2 => r x xs H2 Q) : tBM K T r to tr σ H Q := q
theorem tyVL {K : PySem.W.Frag} {H : Hp} {p : Addr} {xs : List V} (e : H p = some (.lst xs)) : tyV K "list" (.ref p) H := .inl ⟨rfl, _, SqL.of e⟩
theorem z_xv {K : PySem.W.Frag} {te : TE} {f : Str} {σ : L2.St} {H : Hp} {Q : VK} (q : te σ H fun x H1 => ∃ (a C dx : Addr) (bm : List Value) (fs : List (Str × V)) (v : V), x = .ref a ∧ ErrC K C bm ∧ PySem.W.findIn K (.ref C) f = some none ∧
  H1 a = some (exo a C (some dx)) ∧ H1 dx = some (exd dx fs) ∧ fs.lookup f = some v ∧ Q v H1) : tXv K te f σ H Q := q
theorem z_fx {K : PySem.W.Frag} {C h pm : Addr} {f : Str} {bm : List Value} {σ : L2.St} {H : Hp} {Q : VK} {ms : List V} {v : V} {ts : List (Addr × Option Str)} {i j : Nat} (E : ErrC K C bm) (no : PySem.W.findIn K (.ref C) f = some none) (e : σ[j]? = some (some (.ref pm)))
    (fm : H pm = some (.lst ms)) (es : Es h H v ts ms) (ht : ts[i]? = some (C, some f)) (q : Q v H) : tXv K (tOp (rIxL K) (tVar j) (tC (.int (i : Nat)))) f σ H Q := by
  obtain ⟨x, hx, a, rfl, n, dx, n2, e1, e2⟩ := es.at ht
  exact ⟨_, e, pm, ms, _, _, rfl, rfl, SqL.of fm, atI_nat hx, a, C, dx, bm, _, v, rfl, E, no, e1, e2, lk_fst, q⟩
/-- errors so far, and a list -/
structure Ac (h : Addr) (H0 H : Hp) (v : V) (ts : List (Addr × Option Str)) (xs : List V) (p : Addr) (l : List V) : Prop where
  same : Same H0 H
  hh : ∃ o, H h = some o
  es : Es h H v ts xs
  at_ : H p = some (.lst l)
  ne : p ≠ h
section
variable {h : Addr} {H0 H H' : Hp} {v : V} {ts : List (Addr × Option Str)} {xs l : List V} {p : Addr} {Q : VK}
theorem Ac.to (a : Ac h H0 H v ts xs p l) (s : Same H H') : Ac h H0 H' v ts xs p l := ⟨a.same.trans s, let ⟨o, e⟩ := a.hh; ⟨o, s _ _ e⟩, a.es.kp (kpS s), s _ _ a.at_, a.ne⟩
theorem Ac.new (a : Ac h H0 H v ts xs p l) {q : Addr} (n : H q = none) : q ≠ h := fun e => by
  obtain ⟨o, z⟩ := a.hh
  rw [e, z] at n
  cases n
def newX (C : Addr) (sp : Sp) (Q : VK) (vs : List V) (H : Hp) : Prop := vs.length ≤ 1000 ∧ ∀ a, H a = none → sp (.ref a :: vs) (upd H a (exo a C none)) (fun v H2 => v = .non ∧ Q (.ref a) H2) (fun _ _ _ => False)
theorem z_mkX {C : Addr} {sp : Sp} {tr : TA} {σ : L2.St} (q : tr σ H fun vs H1 => newX C sp Q vs H1) : tMkX C sp tr σ H Q := q
theorem z_mkA {K : PySem.W.Frag} {C : Addr} {f : Str} (T : OexC K C) (no : PySem.W.findIn K (.ref C) f = some none) (a : Ac h H0 H v ts xs p l)
    (k : ∀ x H', Ac h H0 H' v (ts ++ [(C, some f)]) (xs ++ [x]) p l → Q x H') : newX C (spX1 K C f) Q [v] H := by
  refine ⟨Nat.le_of_ble_eq_true rfl, fun x nx => ⟨x, v, rfl, T, no, upd_same, fun dx nd ne => ⟨rfl, ?_⟩⟩⟩
  have nd1 : H dx = none := by
    rw [upd_ne ne] at nd
    exact nd
  have hs : Same H (upd (upd (upd H x (exo x C none)) dx (exd dx [(f, v)])) x (exo x C (some dx))) := fun b u q => by
    rw [upd_ne (ne_of_none q nx), upd_ne (ne_of_none q nd1), upd_ne (ne_of_none q nx)]
    exact q
  have a2 := a.to hs
  exact k _ _ ⟨a2.same, a2.hh, a2.es.app (.cons ⟨x, rfl, a.new nx, dx, a.new nd1, upd_same, by rw [upd_ne ne, upd_same]⟩ .nil), a2.at_, a2.ne⟩
theorem z_mkA0 {C : Addr} {σ : L2.St} (a : Ac h H0 H v ts xs p l) (k : ∀ x H', Ac h H0 H' v (ts ++ [(C, none)]) (xs ++ [x]) p l → Q x H') : tMkX0 C σ H Q := by
  intro x nx
  have a2 := a.to (sameU (o := exo x C none) nx)
  exact k _ _ ⟨a2.same, a2.hh, a2.es.app (.cons ⟨x, rfl, a.new nx, upd_same⟩ .nil), a2.at_, a2.ne⟩
theorem z_newA {ys : List V} (a : Ac h H0 H v ts xs p l) (k : ∀ q H', Ac h H0 H' v ts xs p l → H' q = some (.lst ys) → q ≠ h → Q (.ref q) H') (z : ys.length ≤ 1000000 := by exact Nat.le_of_ble_eq_true rfl) : newL Q ys H :=
  z_newS (fun q H' s n e => k q H' (a.to s) e (a.new n)) z
theorem z_catA {q : Addr} {ys : List V} (a : Ac h H0 H v ts xs p l) (e : H q = some (.lst ys)) (k : ∀ r H', Ac h H0 H' v ts xs r (l ++ ys) → Q (.ref r) H') (z : l.length + ys.length ≤ 1000000 := by exact Nat.le_of_ble_eq_true rfl) : rCat (.ref p) (.ref q) H Q :=
  z_catS a.at_ e (fun r H' s n f => k r H' ⟨(a.to s).same, (a.to s).hh, (a.to s).es, f, a.new n⟩) z
theorem Ac.turn {q : Addr} {ys : List V} (a : Ac h H0 H v ts xs p l) (e : H q = some (.lst ys)) (n : q ≠ h) : Ac h H0 H v ts xs q ys := ⟨a.same, a.hh, a.es, e, n⟩
end
theorem Hd.ac {h c : Addr} {H : Hp} {v : V} (x : Hd h c H) : ∃ l, Ac h H H v [] [] c l := by
  obtain ⟨nc, ns, i, z, g, t, q, r, b⟩ := x
  exact ⟨_, Same.refl H, ⟨_, q⟩, .nil, r, nc⟩
/-- a value that is equal to itself -/
def Slf (K : PySem.W.Frag) (H : Hp) (v : V) : Prop := (∃ d, Dp K H v d ∧ SeqAt.shaped d = true ∧ PyData.eqv d d = true) ∨ ∃ a ks, v = .ref a ∧ H a = some (.dK ks) ∧ ∀ p ∈ ks, valV ks p.1 = some p.2 ∧ flatB p.2 = true
theorem z_eqE {K : PySem.W.Frag} {H : Hp} {v : V} {Q : VK} (s : Slf K H v) (q : Q (.bl true) H) : rEqE K v v H Q := by
  rcases s with ⟨d, h1, h2, h3⟩ | ⟨a, ks, rfl, h1, h2⟩
  · exact .inl ⟨d, d, h1, h1, h2, h2, by rw [h3]; exact q⟩
  · exact .inr ⟨a, a, ks, ks, rfl, rfl, h1, h1, rfl, h2, q⟩
theorem z_disp1 {cl : Nat → Addr} {h c : Addr} {σ : L2.St} {H : Hp} {Q : VK} {x : Str} {w : V} {d : Dt} (hd : Hd h c H) (r : R cl h H w d) (hw : ∃ i, w = V.int i) (k : ∀ p H', Go h c H H' → H p = none → R cl h H' (.ref p) (.dct [.inr x] [d]) → Q (.ref p) H') :
    tDisp [((tC (.str x)), (tC w))] σ H Q := by
  intro p n
  refine ⟨upd_same, [(.inr x, w)], rfl, Nat.le_of_ble_eq_true rfl, ?_⟩
  have e : upd (upd H p (.dK [])) p (.dK (mergeK [] [(.inr x, w)])) = upd H p (.dK ([Sum.inr x].zip [w])) := by
    rw [upd_upd]
    rfl
  rw [e]
  exact k p _ (Go.new hd n) n (.dct (hd.ne n) upd_same rfl (.cons (R.kp (Kp.new n) r) .nil))
end Zo

namespace Zo
open PySem L2 PySem.Spec PyProof.Rows
local macro_rules | `(tactic| walk_at "z1") => `(tactic| first
  | with_reducible refine z_seq ?_
  | with_reducible refine z_asgN ?_
  | with_reducible refine z_asg ?_
  | with_reducible refine z_gname ?_
  | (with_reducible refine z_var0 ?_; refine ⟨_, rfl, ?_⟩)
  | with_reducible refine z_c ?_
  | with_reducible refine z_op ?_
  | with_reducible refine z_un ?_
  | with_reducible refine z_I0 ?_
  | with_reducible refine z_eqI ?_
  | with_reducible refine z_neI ?_
  | with_reducible refine iteF ?_
  | with_reducible refine iteT ?_
  | with_reducible refine iteNT ?_
  | with_reducible refine iteNF ?_
  | with_reducible refine z_U ?_
  | with_reducible refine z_cons ?_
  | with_reducible refine z_nil ?_
  | with_reducible refine z_call ?_
  | with_reducible refine z_CB ?_
  | with_reducible refine z_bl ?_
  | with_reducible refine z_int ?_
  | with_reducible refine z_test ?_
  | with_reducible refine z_B ?_
  | with_reducible refine z_not ?_
  | with_reducible refine z_and ?_
  | with_reducible refine z_or ?_
  | with_reducible refine z_andV ?_
  | with_reducible refine z_orV ?_
  | with_reducible refine z_notV ?_
  | with_reducible refine z_chain ?_
  | with_reducible refine z_ifE ?_
  | with_reducible refine z_if ?_
  | with_reducible refine z_drop ?_
  | with_reducible refine z_ret ?_
  | with_reducible refine z_retN ?_
  | with_reducible refine z_next ?_
  | with_reducible refine z_brk ?_
  | with_reducible refine z_cont ?_
  | with_reducible refine z_sl ?_
  | with_reducible refine z_lc ?_
  | with_reducible refine z_iL ?_
  | with_reducible refine z_iT ?_
  | with_reducible refine z_par ?_
  | with_reducible refine z_two ?_
  | with_reducible refine z_gcons ?_
  | with_reducible refine z_gnil ?_
  | with_reducible refine z_make ?_
  | with_reducible refine z_makeS ?_
  | with_reducible refine z_mkX ?_
  | with_reducible refine z_bm ?_
  | with_reducible refine z_callS ?_
  | with_reducible refine z_xf ?_
  | with_reducible refine z_tupI ?_
  | with_reducible refine z_sf ?_
  | with_reducible refine z_fld ?_
  | with_reducible refine z_for ?_
  | with_reducible refine z_r1 ?_
  | with_reducible refine z_r2 ?_
  | with_reducible refine z_yes ?_
  | with_reducible refine z_gsub ?_
  | with_reducible refine z_noPart ?_
  | with_reducible refine z_part ?_
  | with_reducible refine z_lstI ?_)
local macro_rules | `(tactic| walk_at "zs") => `(tactic| repeat (walk_at "z1"))
def top (i : Nat) : Stmt := PySem.Challenge.pw_willinglift_k00_errors_of_the_package.main.body.getD i (.Pass ⟨0, 0, 0, 0⟩)
abbrev s__law_hand : Stmt := (top 40)
abbrev s__law_draw : Stmt := (top 41)
abbrev s_BadHouse___init__ : Stmt := (inClass (top 2) 0)
abbrev s_BadStanding___init__ : Stmt := (inClass (top 3) 0)
abbrev s_BadGroups___init__ : Stmt := (inClass (top 5) 0)
abbrev s_TooMany___init__ : Stmt := (inClass (top 8) 0)
abbrev s_BadMoves___init__ : Stmt := (inClass (top 9) 0)
abbrev s_BadChoice___init__ : Stmt := (inClass (top 14) 0)
abbrev s_BadNews___init__ : Stmt := (inClass (top 22) 0)
abbrev s_BadText___init__ : Stmt := (inClass (top 24) 0)
abbrev s_NoName___init__ : Stmt := (inClass (top 26) 0)
abbrev s_BadFacts___init__ : Stmt := (inClass (top 28) 0)
abbrev s_BadSeen___init__ : Stmt := (inClass (top 29) 0)
abbrev s_BadTree___init__ : Stmt := (inClass (top 30) 0)
abbrev s__law_made : Stmt := (top 43)
abbrev s_is_integer : Stmt := (top 33)
abbrev s_is_between : Stmt := (top 34)
abbrev s_House___init__ : Stmt := (inClass (top 38) 0)
abbrev s__law_caught : Stmt := (top 45)
abbrev s__law_flags : Stmt := (top 42)
abbrev s__law_is_kept : Stmt := (top 44)
abbrev s_law : Stmt := (top 46)
structure Ad where
  c_LiftError : Addr
  c_BadHouse : Addr
  c_BadStanding : Addr
  c_BadLift : Addr
  c_BadGroups : Addr
  c_BadFloor : Addr
  c_BadMove : Addr
  c_TooMany : Addr
  c_BadMoves : Addr
  c_BadLog : Addr
  c_BadGap : Addr
  c_BadNumber : Addr
  c_BadWay : Addr
  c_BadChoice : Addr
  c_NoPlan : Addr
  c_NotGround : Addr
  c_BadPrices : Addr
  c_BadRoom : Addr
  c_BadAnswer : Addr
  c_BadCounts : Addr
  c_BadGroup : Addr
  c_BadNews : Addr
  c_NothingDone : Addr
  c_BadText : Addr
  c_NoLine : Addr
  c_NoName : Addr
  c_BadLoads : Addr
  c_BadFacts : Addr
  c_BadSeen : Addr
  c_BadTree : Addr
  c_BadRoad : Addr
  c_House : Addr
  a__law_hand : Addr
  d__law_hand : FuncData
  a__law_draw : Addr
  d__law_draw : FuncData
  a_BadHouse___init__ : Addr
  d_BadHouse___init__ : FuncData
  a_BadStanding___init__ : Addr
  d_BadStanding___init__ : FuncData
  a_BadGroups___init__ : Addr
  d_BadGroups___init__ : FuncData
  a_TooMany___init__ : Addr
  d_TooMany___init__ : FuncData
  a_BadMoves___init__ : Addr
  d_BadMoves___init__ : FuncData
  a_BadChoice___init__ : Addr
  d_BadChoice___init__ : FuncData
  a_BadNews___init__ : Addr
  d_BadNews___init__ : FuncData
  a_BadText___init__ : Addr
  d_BadText___init__ : FuncData
  a_NoName___init__ : Addr
  d_NoName___init__ : FuncData
  a_BadFacts___init__ : Addr
  d_BadFacts___init__ : FuncData
  a_BadSeen___init__ : Addr
  d_BadSeen___init__ : FuncData
  a_BadTree___init__ : Addr
  d_BadTree___init__ : FuncData
  a__law_made : Addr
  d__law_made : FuncData
  a_is_integer : Addr
  d_is_integer : FuncData
  a_is_between : Addr
  d_is_between : FuncData
  a_House___init__ : Addr
  d_House___init__ : FuncData
  a__law_caught : Addr
  d__law_caught : FuncData
  a__law_flags : Addr
  d__law_flags : FuncData
  a__law_is_kept : Addr
  d__law_is_kept : FuncData
  a_law : Addr
  d_law : FuncData
def Ad.cl (A : Ad) : Nat → Addr
  | _ => A.c_House
structure Txt (K : PySem.W.Frag) (mg : Str → Option Value) (A : Ad) : Prop where
  g_LiftError : mg "LiftError" = some (.ref A.c_LiftError)
  g_BadHouse : mg "BadHouse" = some (.ref A.c_BadHouse)
  g_BadStanding : mg "BadStanding" = some (.ref A.c_BadStanding)
  g_BadLift : mg "BadLift" = some (.ref A.c_BadLift)
  g_BadGroups : mg "BadGroups" = some (.ref A.c_BadGroups)
  g_BadFloor : mg "BadFloor" = some (.ref A.c_BadFloor)
  g_BadMove : mg "BadMove" = some (.ref A.c_BadMove)
  g_TooMany : mg "TooMany" = some (.ref A.c_TooMany)
  g_BadMoves : mg "BadMoves" = some (.ref A.c_BadMoves)
  g_BadLog : mg "BadLog" = some (.ref A.c_BadLog)
  g_BadGap : mg "BadGap" = some (.ref A.c_BadGap)
  g_BadNumber : mg "BadNumber" = some (.ref A.c_BadNumber)
  g_BadWay : mg "BadWay" = some (.ref A.c_BadWay)
  g_BadChoice : mg "BadChoice" = some (.ref A.c_BadChoice)
  g_NoPlan : mg "NoPlan" = some (.ref A.c_NoPlan)
  g_NotGround : mg "NotGround" = some (.ref A.c_NotGround)
  g_BadPrices : mg "BadPrices" = some (.ref A.c_BadPrices)
  g_BadRoom : mg "BadRoom" = some (.ref A.c_BadRoom)
  g_BadAnswer : mg "BadAnswer" = some (.ref A.c_BadAnswer)
  g_BadCounts : mg "BadCounts" = some (.ref A.c_BadCounts)
  g_BadGroup : mg "BadGroup" = some (.ref A.c_BadGroup)
  g_BadNews : mg "BadNews" = some (.ref A.c_BadNews)
  g_NothingDone : mg "NothingDone" = some (.ref A.c_NothingDone)
  g_BadText : mg "BadText" = some (.ref A.c_BadText)
  g_NoLine : mg "NoLine" = some (.ref A.c_NoLine)
  g_NoName : mg "NoName" = some (.ref A.c_NoName)
  g_BadLoads : mg "BadLoads" = some (.ref A.c_BadLoads)
  g_BadFacts : mg "BadFacts" = some (.ref A.c_BadFacts)
  g_BadSeen : mg "BadSeen" = some (.ref A.c_BadSeen)
  g_BadTree : mg "BadTree" = some (.ref A.c_BadTree)
  g_BadRoad : mg "BadRoad" = some (.ref A.c_BadRoad)
  g_House : mg "House" = some (.ref A.c_House)
  F__law_hand : Fun K "_law_hand" "_law_hand" s__law_hand A.a__law_hand A.d__law_hand
  g__law_hand : mg "_law_hand" = some (.ref A.a__law_hand)
  b__law_hand : Binds K A.d__law_hand ["script"] []
  F__law_draw : Fun K "_law_draw" "_law_draw" s__law_draw A.a__law_draw A.d__law_draw
  g__law_draw : mg "_law_draw" = some (.ref A.a__law_draw)
  b__law_draw : Binds K A.d__law_draw ["hand", "many"] []
  F_BadHouse___init__ : Fun K "__init__" "BadHouse.__init__" s_BadHouse___init__ A.a_BadHouse___init__ A.d_BadHouse___init__
  b_BadHouse___init__ : Binds K A.d_BadHouse___init__ ["self", "part"] []
  F_BadStanding___init__ : Fun K "__init__" "BadStanding.__init__" s_BadStanding___init__ A.a_BadStanding___init__ A.d_BadStanding___init__
  b_BadStanding___init__ : Binds K A.d_BadStanding___init__ ["self", "part"] []
  F_BadGroups___init__ : Fun K "__init__" "BadGroups.__init__" s_BadGroups___init__ A.a_BadGroups___init__ A.d_BadGroups___init__
  b_BadGroups___init__ : Binds K A.d_BadGroups___init__ ["self", "index"] []
  F_TooMany___init__ : Fun K "__init__" "TooMany.__init__" s_TooMany___init__ A.a_TooMany___init__ A.d_TooMany___init__
  b_TooMany___init__ : Binds K A.d_TooMany___init__ ["self", "limit"] []
  F_BadMoves___init__ : Fun K "__init__" "BadMoves.__init__" s_BadMoves___init__ A.a_BadMoves___init__ A.d_BadMoves___init__
  b_BadMoves___init__ : Binds K A.d_BadMoves___init__ ["self", "index"] []
  F_BadChoice___init__ : Fun K "__init__" "BadChoice.__init__" s_BadChoice___init__ A.a_BadChoice___init__ A.d_BadChoice___init__
  b_BadChoice___init__ : Binds K A.d_BadChoice___init__ ["self", "index"] []
  F_BadNews___init__ : Fun K "__init__" "BadNews.__init__" s_BadNews___init__ A.a_BadNews___init__ A.d_BadNews___init__
  b_BadNews___init__ : Binds K A.d_BadNews___init__ ["self", "index"] []
  F_BadText___init__ : Fun K "__init__" "BadText.__init__" s_BadText___init__ A.a_BadText___init__ A.d_BadText___init__
  b_BadText___init__ : Binds K A.d_BadText___init__ ["self", "index"] []
  F_NoName___init__ : Fun K "__init__" "NoName.__init__" s_NoName___init__ A.a_NoName___init__ A.d_NoName___init__
  b_NoName___init__ : Binds K A.d_NoName___init__ ["self", "name"] []
  F_BadFacts___init__ : Fun K "__init__" "BadFacts.__init__" s_BadFacts___init__ A.a_BadFacts___init__ A.d_BadFacts___init__
  b_BadFacts___init__ : Binds K A.d_BadFacts___init__ ["self", "index"] []
  F_BadSeen___init__ : Fun K "__init__" "BadSeen.__init__" s_BadSeen___init__ A.a_BadSeen___init__ A.d_BadSeen___init__
  b_BadSeen___init__ : Binds K A.d_BadSeen___init__ ["self", "index"] []
  F_BadTree___init__ : Fun K "__init__" "BadTree.__init__" s_BadTree___init__ A.a_BadTree___init__ A.d_BadTree___init__
  b_BadTree___init__ : Binds K A.d_BadTree___init__ ["self", "part"] []
  F__law_made : Fun K "_law_made" "_law_made" s__law_made A.a__law_made A.d__law_made
  g__law_made : mg "_law_made" = some (.ref A.a__law_made)
  b__law_made : Binds K A.d__law_made ["thing"] []
  F_is_integer : Fun K "is_integer" "is_integer" s_is_integer A.a_is_integer A.d_is_integer
  g_is_integer : mg "is_integer" = some (.ref A.a_is_integer)
  b_is_integer : Binds K A.d_is_integer ["thing"] []
  F_is_between : Fun K "is_between" "is_between" s_is_between A.a_is_between A.d_is_between
  g_is_between : mg "is_between" = some (.ref A.a_is_between)
  b_is_between : Binds K A.d_is_between ["low", "high", "thing"] []
  F_House___init__ : Fun K "__init__" "House.__init__" s_House___init__ A.a_House___init__ A.d_House___init__
  b_House___init__ : Binds K A.d_House___init__ ["self", "floors", "room"] []
  F__law_caught : Fun K "_law_caught" "_law_caught" s__law_caught A.a__law_caught A.d__law_caught
  g__law_caught : mg "_law_caught" = some (.ref A.a__law_caught)
  b__law_caught : Binds K A.d__law_caught ["room"] []
  F__law_flags : Fun K "_law_flags" "_law_flags" s__law_flags A.a__law_flags A.d__law_flags
  g__law_flags : mg "_law_flags" = some (.ref A.a__law_flags)
  b__law_flags : Binds K A.d__law_flags ["e"] []
  F__law_is_kept : Fun K "_law_is_kept" "_law_is_kept" s__law_is_kept A.a__law_is_kept A.d__law_is_kept
  g__law_is_kept : mg "_law_is_kept" = some (.ref A.a__law_is_kept)
  b__law_is_kept : Binds K A.d__law_is_kept ["told", "thing"] []
  F_law : Fun K "law" "law" s_law A.a_law A.d_law
  g_law : mg "law" = some (.ref A.a_law)
  b_law : Binds K A.d_law ["script"] []
  mk_House : Mk K A.c_House A.a_House___init__
  na_House_floors : NoAttr K A.c_House "floors"
  na_House_room : NoAttr K A.c_House "room"
  kits : Kits K A.cl
  xc_LiftError : PySem.W.excIn K A.c_LiftError [.type "ValueError", .type "Exception", .type "BaseException", .type "object"] "ValueError.__new__" = true
  kc_LiftError : PySem.W.keepIn K (.ref A.c_LiftError) = true
  er_LiftError : ErrC K A.c_LiftError [.type "ValueError", .type "Exception", .type "BaseException", .type "object"]
  er_BadHouse : ErrC K A.c_BadHouse [.ref A.c_LiftError, .type "ValueError", .type "Exception", .type "BaseException", .type "object"]
  er_BadStanding : ErrC K A.c_BadStanding [.ref A.c_LiftError, .type "ValueError", .type "Exception", .type "BaseException", .type "object"]
  xc_BadLift : PySem.W.excIn K A.c_BadLift [.type "ValueError", .type "Exception", .type "BaseException", .type "object"] "ValueError.__new__" = true
  kc_BadLift : PySem.W.keepIn K (.ref A.c_BadLift) = true
  er_BadLift : ErrC K A.c_BadLift [.ref A.c_LiftError, .type "ValueError", .type "Exception", .type "BaseException", .type "object"]
  er_BadGroups : ErrC K A.c_BadGroups [.ref A.c_LiftError, .type "ValueError", .type "Exception", .type "BaseException", .type "object"]
  xc_BadFloor : PySem.W.excIn K A.c_BadFloor [.type "ValueError", .type "Exception", .type "BaseException", .type "object"] "ValueError.__new__" = true
  kc_BadFloor : PySem.W.keepIn K (.ref A.c_BadFloor) = true
  er_BadFloor : ErrC K A.c_BadFloor [.ref A.c_LiftError, .type "ValueError", .type "Exception", .type "BaseException", .type "object"]
  xc_BadMove : PySem.W.excIn K A.c_BadMove [.type "ValueError", .type "Exception", .type "BaseException", .type "object"] "ValueError.__new__" = true
  kc_BadMove : PySem.W.keepIn K (.ref A.c_BadMove) = true
  er_BadMove : ErrC K A.c_BadMove [.ref A.c_LiftError, .type "ValueError", .type "Exception", .type "BaseException", .type "object"]
  er_TooMany : ErrC K A.c_TooMany [.ref A.c_LiftError, .type "ValueError", .type "Exception", .type "BaseException", .type "object"]
  er_BadMoves : ErrC K A.c_BadMoves [.ref A.c_LiftError, .type "ValueError", .type "Exception", .type "BaseException", .type "object"]
  xc_BadLog : PySem.W.excIn K A.c_BadLog [.type "ValueError", .type "Exception", .type "BaseException", .type "object"] "ValueError.__new__" = true
  kc_BadLog : PySem.W.keepIn K (.ref A.c_BadLog) = true
  er_BadLog : ErrC K A.c_BadLog [.ref A.c_LiftError, .type "ValueError", .type "Exception", .type "BaseException", .type "object"]
  xc_BadGap : PySem.W.excIn K A.c_BadGap [.type "ValueError", .type "Exception", .type "BaseException", .type "object"] "ValueError.__new__" = true
  kc_BadGap : PySem.W.keepIn K (.ref A.c_BadGap) = true
  er_BadGap : ErrC K A.c_BadGap [.ref A.c_LiftError, .type "ValueError", .type "Exception", .type "BaseException", .type "object"]
  xc_BadNumber : PySem.W.excIn K A.c_BadNumber [.type "ValueError", .type "Exception", .type "BaseException", .type "object"] "ValueError.__new__" = true
  kc_BadNumber : PySem.W.keepIn K (.ref A.c_BadNumber) = true
  er_BadNumber : ErrC K A.c_BadNumber [.ref A.c_LiftError, .type "ValueError", .type "Exception", .type "BaseException", .type "object"]
  xc_BadWay : PySem.W.excIn K A.c_BadWay [.type "ValueError", .type "Exception", .type "BaseException", .type "object"] "ValueError.__new__" = true
  kc_BadWay : PySem.W.keepIn K (.ref A.c_BadWay) = true
  er_BadWay : ErrC K A.c_BadWay [.ref A.c_LiftError, .type "ValueError", .type "Exception", .type "BaseException", .type "object"]
  er_BadChoice : ErrC K A.c_BadChoice [.ref A.c_LiftError, .type "ValueError", .type "Exception", .type "BaseException", .type "object"]
  xc_NoPlan : PySem.W.excIn K A.c_NoPlan [.type "ValueError", .type "Exception", .type "BaseException", .type "object"] "ValueError.__new__" = true
  kc_NoPlan : PySem.W.keepIn K (.ref A.c_NoPlan) = true
  er_NoPlan : ErrC K A.c_NoPlan [.ref A.c_LiftError, .type "ValueError", .type "Exception", .type "BaseException", .type "object"]
  xc_NotGround : PySem.W.excIn K A.c_NotGround [.type "ValueError", .type "Exception", .type "BaseException", .type "object"] "ValueError.__new__" = true
  kc_NotGround : PySem.W.keepIn K (.ref A.c_NotGround) = true
  er_NotGround : ErrC K A.c_NotGround [.ref A.c_LiftError, .type "ValueError", .type "Exception", .type "BaseException", .type "object"]
  xc_BadPrices : PySem.W.excIn K A.c_BadPrices [.type "ValueError", .type "Exception", .type "BaseException", .type "object"] "ValueError.__new__" = true
  kc_BadPrices : PySem.W.keepIn K (.ref A.c_BadPrices) = true
  er_BadPrices : ErrC K A.c_BadPrices [.ref A.c_LiftError, .type "ValueError", .type "Exception", .type "BaseException", .type "object"]
  xc_BadRoom : PySem.W.excIn K A.c_BadRoom [.type "ValueError", .type "Exception", .type "BaseException", .type "object"] "ValueError.__new__" = true
  kc_BadRoom : PySem.W.keepIn K (.ref A.c_BadRoom) = true
  er_BadRoom : ErrC K A.c_BadRoom [.ref A.c_LiftError, .type "ValueError", .type "Exception", .type "BaseException", .type "object"]
  xc_BadAnswer : PySem.W.excIn K A.c_BadAnswer [.type "ValueError", .type "Exception", .type "BaseException", .type "object"] "ValueError.__new__" = true
  kc_BadAnswer : PySem.W.keepIn K (.ref A.c_BadAnswer) = true
  er_BadAnswer : ErrC K A.c_BadAnswer [.ref A.c_LiftError, .type "ValueError", .type "Exception", .type "BaseException", .type "object"]
  xc_BadCounts : PySem.W.excIn K A.c_BadCounts [.type "ValueError", .type "Exception", .type "BaseException", .type "object"] "ValueError.__new__" = true
  kc_BadCounts : PySem.W.keepIn K (.ref A.c_BadCounts) = true
  er_BadCounts : ErrC K A.c_BadCounts [.ref A.c_LiftError, .type "ValueError", .type "Exception", .type "BaseException", .type "object"]
  xc_BadGroup : PySem.W.excIn K A.c_BadGroup [.type "ValueError", .type "Exception", .type "BaseException", .type "object"] "ValueError.__new__" = true
  kc_BadGroup : PySem.W.keepIn K (.ref A.c_BadGroup) = true
  er_BadGroup : ErrC K A.c_BadGroup [.ref A.c_LiftError, .type "ValueError", .type "Exception", .type "BaseException", .type "object"]
  er_BadNews : ErrC K A.c_BadNews [.ref A.c_LiftError, .type "ValueError", .type "Exception", .type "BaseException", .type "object"]
  xc_NothingDone : PySem.W.excIn K A.c_NothingDone [.type "ValueError", .type "Exception", .type "BaseException", .type "object"] "ValueError.__new__" = true
  kc_NothingDone : PySem.W.keepIn K (.ref A.c_NothingDone) = true
  er_NothingDone : ErrC K A.c_NothingDone [.ref A.c_LiftError, .type "ValueError", .type "Exception", .type "BaseException", .type "object"]
  er_BadText : ErrC K A.c_BadText [.ref A.c_LiftError, .type "ValueError", .type "Exception", .type "BaseException", .type "object"]
  xc_NoLine : PySem.W.excIn K A.c_NoLine [.type "ValueError", .type "Exception", .type "BaseException", .type "object"] "ValueError.__new__" = true
  kc_NoLine : PySem.W.keepIn K (.ref A.c_NoLine) = true
  er_NoLine : ErrC K A.c_NoLine [.ref A.c_LiftError, .type "ValueError", .type "Exception", .type "BaseException", .type "object"]
  er_NoName : ErrC K A.c_NoName [.ref A.c_LiftError, .type "ValueError", .type "Exception", .type "BaseException", .type "object"]
  xc_BadLoads : PySem.W.excIn K A.c_BadLoads [.type "ValueError", .type "Exception", .type "BaseException", .type "object"] "ValueError.__new__" = true
  kc_BadLoads : PySem.W.keepIn K (.ref A.c_BadLoads) = true
  er_BadLoads : ErrC K A.c_BadLoads [.ref A.c_LiftError, .type "ValueError", .type "Exception", .type "BaseException", .type "object"]
  er_BadFacts : ErrC K A.c_BadFacts [.ref A.c_LiftError, .type "ValueError", .type "Exception", .type "BaseException", .type "object"]
  er_BadSeen : ErrC K A.c_BadSeen [.ref A.c_LiftError, .type "ValueError", .type "Exception", .type "BaseException", .type "object"]
  er_BadTree : ErrC K A.c_BadTree [.ref A.c_LiftError, .type "ValueError", .type "Exception", .type "BaseException", .type "object"]
  xc_BadRoad : PySem.W.excIn K A.c_BadRoad [.type "ValueError", .type "Exception", .type "BaseException", .type "object"] "ValueError.__new__" = true
  kc_BadRoad : PySem.W.keepIn K (.ref A.c_BadRoad) = true
  er_BadRoad : ErrC K A.c_BadRoad [.ref A.c_LiftError, .type "ValueError", .type "Exception", .type "BaseException", .type "object"]
  ek : ErrK K
  nd : ndB [A.c_LiftError, A.c_BadHouse, A.c_BadStanding, A.c_BadLift, A.c_BadGroups, A.c_BadFloor, A.c_BadMove, A.c_TooMany, A.c_BadMoves, A.c_BadLog, A.c_BadGap, A.c_BadNumber, A.c_BadWay, A.c_BadChoice, A.c_NoPlan, A.c_NotGround, A.c_BadPrices, A.c_BadRoom, A.c_BadAnswer, A.c_BadCounts, A.c_BadGroup, A.c_BadNews, A.c_NothingDone, A.c_BadText, A.c_NoLine, A.c_NoName, A.c_BadLoads, A.c_BadFacts, A.c_BadSeen, A.c_BadTree, A.c_BadRoad] = true
  oe_BadHouse : OexC K A.c_BadHouse
  i_BadHouse : PySem.W.findIn K (.ref A.c_BadHouse) "__init__" = some (some (.ref A.a_BadHouse___init__))
  t_BadHouse : PySem.W.typeIn K (.ref A.a_BadHouse___init__) = some (.type "function")
  xf_BadHouse : XfC K A.c_BadHouse
  no_BadHouse : PySem.W.findIn K (.ref A.c_BadHouse) "part" = some none
  oe_BadStanding : OexC K A.c_BadStanding
  i_BadStanding : PySem.W.findIn K (.ref A.c_BadStanding) "__init__" = some (some (.ref A.a_BadStanding___init__))
  t_BadStanding : PySem.W.typeIn K (.ref A.a_BadStanding___init__) = some (.type "function")
  xf_BadStanding : XfC K A.c_BadStanding
  no_BadStanding : PySem.W.findIn K (.ref A.c_BadStanding) "part" = some none
  oe_BadGroups : OexC K A.c_BadGroups
  i_BadGroups : PySem.W.findIn K (.ref A.c_BadGroups) "__init__" = some (some (.ref A.a_BadGroups___init__))
  t_BadGroups : PySem.W.typeIn K (.ref A.a_BadGroups___init__) = some (.type "function")
  xf_BadGroups : XfC K A.c_BadGroups
  no_BadGroups : PySem.W.findIn K (.ref A.c_BadGroups) "index" = some none
  oe_TooMany : OexC K A.c_TooMany
  i_TooMany : PySem.W.findIn K (.ref A.c_TooMany) "__init__" = some (some (.ref A.a_TooMany___init__))
  t_TooMany : PySem.W.typeIn K (.ref A.a_TooMany___init__) = some (.type "function")
  xf_TooMany : XfC K A.c_TooMany
  no_TooMany : PySem.W.findIn K (.ref A.c_TooMany) "limit" = some none
  oe_BadMoves : OexC K A.c_BadMoves
  i_BadMoves : PySem.W.findIn K (.ref A.c_BadMoves) "__init__" = some (some (.ref A.a_BadMoves___init__))
  t_BadMoves : PySem.W.typeIn K (.ref A.a_BadMoves___init__) = some (.type "function")
  xf_BadMoves : XfC K A.c_BadMoves
  no_BadMoves : PySem.W.findIn K (.ref A.c_BadMoves) "index" = some none
  oe_BadChoice : OexC K A.c_BadChoice
  i_BadChoice : PySem.W.findIn K (.ref A.c_BadChoice) "__init__" = some (some (.ref A.a_BadChoice___init__))
  t_BadChoice : PySem.W.typeIn K (.ref A.a_BadChoice___init__) = some (.type "function")
  xf_BadChoice : XfC K A.c_BadChoice
  no_BadChoice : PySem.W.findIn K (.ref A.c_BadChoice) "index" = some none
  oe_BadNews : OexC K A.c_BadNews
  i_BadNews : PySem.W.findIn K (.ref A.c_BadNews) "__init__" = some (some (.ref A.a_BadNews___init__))
  t_BadNews : PySem.W.typeIn K (.ref A.a_BadNews___init__) = some (.type "function")
  xf_BadNews : XfC K A.c_BadNews
  no_BadNews : PySem.W.findIn K (.ref A.c_BadNews) "index" = some none
  oe_BadText : OexC K A.c_BadText
  i_BadText : PySem.W.findIn K (.ref A.c_BadText) "__init__" = some (some (.ref A.a_BadText___init__))
  t_BadText : PySem.W.typeIn K (.ref A.a_BadText___init__) = some (.type "function")
  xf_BadText : XfC K A.c_BadText
  no_BadText : PySem.W.findIn K (.ref A.c_BadText) "index" = some none
  oe_NoName : OexC K A.c_NoName
  i_NoName : PySem.W.findIn K (.ref A.c_NoName) "__init__" = some (some (.ref A.a_NoName___init__))
  t_NoName : PySem.W.typeIn K (.ref A.a_NoName___init__) = some (.type "function")
  xf_NoName : XfC K A.c_NoName
  no_NoName : PySem.W.findIn K (.ref A.c_NoName) "name" = some none
  oe_BadFacts : OexC K A.c_BadFacts
  i_BadFacts : PySem.W.findIn K (.ref A.c_BadFacts) "__init__" = some (some (.ref A.a_BadFacts___init__))
  t_BadFacts : PySem.W.typeIn K (.ref A.a_BadFacts___init__) = some (.type "function")
  xf_BadFacts : XfC K A.c_BadFacts
  no_BadFacts : PySem.W.findIn K (.ref A.c_BadFacts) "index" = some none
  oe_BadSeen : OexC K A.c_BadSeen
  i_BadSeen : PySem.W.findIn K (.ref A.c_BadSeen) "__init__" = some (some (.ref A.a_BadSeen___init__))
  t_BadSeen : PySem.W.typeIn K (.ref A.a_BadSeen___init__) = some (.type "function")
  xf_BadSeen : XfC K A.c_BadSeen
  no_BadSeen : PySem.W.findIn K (.ref A.c_BadSeen) "index" = some none
  oe_BadTree : OexC K A.c_BadTree
  i_BadTree : PySem.W.findIn K (.ref A.c_BadTree) "__init__" = some (some (.ref A.a_BadTree___init__))
  t_BadTree : PySem.W.typeIn K (.ref A.a_BadTree___init__) = some (.type "function")
  xf_BadTree : XfC K A.c_BadTree
  no_BadTree : PySem.W.findIn K (.ref A.c_BadTree) "part" = some none
  em_BadChoice_BadHouse : PySem.W.exmOne K (.ref A.c_BadChoice) (.ref A.c_BadHouse) = some false
  em_BadFacts_BadHouse : PySem.W.exmOne K (.ref A.c_BadFacts) (.ref A.c_BadHouse) = some false
  em_BadGroups_BadHouse : PySem.W.exmOne K (.ref A.c_BadGroups) (.ref A.c_BadHouse) = some false
  em_BadHouse_BadHouse : PySem.W.exmOne K (.ref A.c_BadHouse) (.ref A.c_BadHouse) = some true
  em_BadMoves_BadHouse : PySem.W.exmOne K (.ref A.c_BadMoves) (.ref A.c_BadHouse) = some false
  em_BadNews_BadHouse : PySem.W.exmOne K (.ref A.c_BadNews) (.ref A.c_BadHouse) = some false
  em_BadSeen_BadHouse : PySem.W.exmOne K (.ref A.c_BadSeen) (.ref A.c_BadHouse) = some false
  em_BadStanding_BadHouse : PySem.W.exmOne K (.ref A.c_BadStanding) (.ref A.c_BadHouse) = some false
  em_BadText_BadHouse : PySem.W.exmOne K (.ref A.c_BadText) (.ref A.c_BadHouse) = some false
  em_BadTree_BadHouse : PySem.W.exmOne K (.ref A.c_BadTree) (.ref A.c_BadHouse) = some false
  em_NoName_BadHouse : PySem.W.exmOne K (.ref A.c_NoName) (.ref A.c_BadHouse) = some false
  em_TooMany_BadHouse : PySem.W.exmOne K (.ref A.c_TooMany) (.ref A.c_BadHouse) = some false
  em_BadChoice_LiftError : PySem.W.exmOne K (.ref A.c_BadChoice) (.ref A.c_LiftError) = some true
  em_BadFacts_LiftError : PySem.W.exmOne K (.ref A.c_BadFacts) (.ref A.c_LiftError) = some true
  em_BadGroups_LiftError : PySem.W.exmOne K (.ref A.c_BadGroups) (.ref A.c_LiftError) = some true
  em_BadHouse_LiftError : PySem.W.exmOne K (.ref A.c_BadHouse) (.ref A.c_LiftError) = some true
  em_BadMoves_LiftError : PySem.W.exmOne K (.ref A.c_BadMoves) (.ref A.c_LiftError) = some true
  em_BadNews_LiftError : PySem.W.exmOne K (.ref A.c_BadNews) (.ref A.c_LiftError) = some true
  em_BadSeen_LiftError : PySem.W.exmOne K (.ref A.c_BadSeen) (.ref A.c_LiftError) = some true
  em_BadStanding_LiftError : PySem.W.exmOne K (.ref A.c_BadStanding) (.ref A.c_LiftError) = some true
  em_BadText_LiftError : PySem.W.exmOne K (.ref A.c_BadText) (.ref A.c_LiftError) = some true
  em_BadTree_LiftError : PySem.W.exmOne K (.ref A.c_BadTree) (.ref A.c_LiftError) = some true
  em_NoName_LiftError : PySem.W.exmOne K (.ref A.c_NoName) (.ref A.c_LiftError) = some true
  em_TooMany_LiftError : PySem.W.exmOne K (.ref A.c_TooMany) (.ref A.c_LiftError) = some true
  c_MOST_FLOORS : ∃ t, mg "MOST_FLOORS" = some (.int 40 t)
  c_MOST_ROOM : ∃ t, mg "MOST_ROOM" = some (.int 1000000000000 t)
  n_ValueError : mg "ValueError" = none
  n_abs : mg "abs" = none
  n_all : mg "all" = none
  n_bool : mg "bool" = none
  n_int : mg "int" = none
  n_isinstance : mg "isinstance" = none
  n_len : mg "len" = none
  n_range : mg "range" = none
  n_tuple : mg "tuple" = none
section
variable {P : Program} {w : World} {K : PySem.W.Frag} {mg : Str → Option Value} {base : Heap} {A : Ad}
theorem sc__law_hand : FnScope ["script", "cells", "cell"] ["script"] (defScope s__law_hand) := ⟨rfl, rfl, rfl, by decide +kernel, rfl, by decide +kernel, by decide +kernel⟩
def sp__law_hand (K : PySem.W.Frag) (A : Ad) : Sp := fun vs H Q E =>
  ∃ (a : Addr) (ns : List Int), vs = [.ref a] ∧ SqL K H a (ns.map V.int) ∧ ns.length ≤ 63 ∧ ∀ (h c : Addr) (H' : Hp), Same H H' → Hd h c H' → H h = none → H c = none → Q (.ref h) H'
theorem G__law_hand (T : Txt K mg A) : FnOk P w K mg base CX0 1 A.a__law_hand A.d__law_hand ["script"] (sp__law_hand K A) := by
  refine T.F__law_hand.ok sc__law_hand (fun vs H Q E h => ?_) (fun cdv A' outer s H vs Q E hr h => ?_)
  · obtain ⟨_, _, rfl, _⟩ := h; rfl
  · obtain ⟨a, ns, rfl, hS, hl, k⟩ := h
    refine ⟨_, ((pss_cons (ps_setLc (i := 1) (own := [("cell", 2)]) (g := gName 2) rfl sc__law_hand.nd rfl rfl (sw_true rfl rfl rfl (by decide +kernel)) (pi_list (pe_slice sl_list (pv 0) po_none (po_some pe_int))) (blkOk_by (own := [("cell", 2)]) (N := ["script", "cells", "cell"]) (sc := defScope s__law_hand) (by decide +kernel)) (fun _ _ _ _ _ => (pg_name (i := 2) sc__law_hand.nd rfl (Or.inl rfl))) (fun _ _ _ _ _ => pts_nil) (fun _ _ _ _ _ => (pe_callB call_abs (by rfl) T.n_abs (by decide +kernel) (pa_cons (pe_callTy call_int1 (by rfl) T.n_int (by decide +kernel) (pa_cons (pv 2) pa_nil)) pa_nil))))
          (pss_one (ps_ret (pe_lst (pa_cons (pv 1) (pa_cons pe_int (pa_cons pe_int (pa_cons (pe_op op_add pe_int (pe_callB call_len_seq (by rfl) T.n_len (by decide +kernel) (pa_cons (pv 1) pa_nil))) (pa_cons pe_int pa_nil)))))))))), ?_⟩
    dsimp only [cxOf, Cx.nox]
    (walk_at "zs")
    refine z_slL hS fun b hb => ?_
    rw [cutV_all (by rw [List.length_map]; omega)]
    (walk_at "zs")
    refine ⟨b, rfl, ⟨_, .inl (.inl upd_same)⟩, fun D hD => lc_list (xs := ns.map V.int) (fun i H2 => H2 b = some (.lst (ns.map V.int)) ∧ H2 D = some (.lst ((ns.take i).map fun n => V.int (if n < 0 then -n else n))) ∧ Same H H2) ?_ (fun i H2 _ p => .inl (.inl p.1)) ?_ ?_⟩
    · have nbD : b ≠ D := fun q => by
        rw [← q, upd_same] at hD
        cases hD
      have hDn : H D = none := by
        rw [upd_ne nbD.symm] at hD
        exact hD
      refine ⟨by rw [upd_ne nbD, upd_same], by rw [upd_same]; rfl, fun q o e => ?_⟩
      rw [upd_ne (ne_of_none e hDn), upd_ne (ne_of_none e hb)]
      exact e
    · intro i x H2 hx p
      obtain ⟨n, hn, rfl⟩ : ∃ n, ns[i]? = some n ∧ x = V.int n := by
        rw [List.getElem?_map] at hx
        cases e : ns[i]? with
        | none => rw [e] at hx; cases hx
        | some n => rw [e] at hx; exact ⟨n, rfl, (Option.some.inj hx).symm⟩
      refine z_gname ⟨rfl, ?_⟩
      (walk_at "zs")
      refine .inl ⟨_, rfl, ?_⟩
      (walk_at "zs")
      refine ⟨_, rfl, _, p.2.1, ?_, ?_⟩
      · rw [List.length_map, List.length_take]
        exact Nat.lt_of_le_of_lt (Nat.le_trans (Nat.min_le_right _ _) hl) (by decide)
      · have nbD : b ≠ D := fun q => by
          rw [← q, upd_same] at hD
          cases hD
        have hDn : H D = none := by
          rw [upd_ne nbD.symm] at hD
          exact hD
        refine ⟨by rw [upd_ne nbD]; exact p.1, ?_, fun q o e => ?_⟩
        · rw [upd_same, take_one hn, List.map_append]
          rfl
        · rw [upd_ne (ne_of_none e hDn)]
          exact p.2.2 q o e
    · intro H2 p
      rw [List.length_map, List.take_length] at p
      have nbD : b ≠ D := fun q => by
        rw [← q, upd_same] at hD
        cases hD
      have hDn : H D = none := by
        rw [upd_ne nbD.symm] at hD
        exact hD
      (walk_at "zs")
      refine ⟨_, _, rfl, .inl (.inl (.inl p.2.1)), ?_⟩
      (walk_at "zs")
      refine ⟨by show 5 ≤ sizeLine; decide, fun q hq => k q D _ ?_ ?_ (p.2.2.free hq) hDn⟩
      · intro a' o e
        rw [upd_ne (ne_of_none (p.2.2 _ _ e) hq)]
        exact p.2.2 _ _ e
      · have nDq : D ≠ q := fun z => by
          rw [← z, p.2.1] at hq
          cases hq
        refine ⟨nDq, ns.map fun n => if n < 0 then -n else n, 0, 0, _, 0, upd_same, ?_, by rw [List.length_map]; exact hl, fun n hn => ?_, Int.le_refl _, ?_, ?_, Int.le_refl _⟩
        · rw [upd_ne nDq, p.2.1, List.map_map]
          rfl
        · obtain ⟨m, _, rfl⟩ := List.mem_map.mp hn
          split <;> omega
        · rw [List.length_map]
          omega
        · rw [List.length_map]
          omega
theorem sc__law_draw : FnScope ["hand", "many", "number", "cell", "digit"] ["hand", "many"] (defScope s__law_draw) := ⟨rfl, rfl, rfl, by decide +kernel, rfl, by decide +kernel, by decide +kernel⟩
def sp__law_draw (K : PySem.W.Frag) (A : Ad) : Sp := fun vs H Q E =>
  ∃ (h c : Addr) (m : Int), vs = [.ref h, .int m] ∧ Hd h c H ∧ 0 < m ∧ m < 1073741824 ∧ ∀ (r : Int) (H' : Hp), 0 ≤ r → r < m → Go h c H H' → Q (.int r) H'
theorem G__law_draw (T : Txt K mg A) : FnOk P w K mg base CX0 1 A.a__law_draw A.d__law_draw ["hand", "many"] (sp__law_draw K A) := by
  refine T.F__law_draw.ok sc__law_draw (fun vs H Q E h => ?_) (fun cdv A' outer s H vs Q E hr h => ?_)
  · obtain ⟨_, _, _, rfl, _⟩ := h; rfl
  · obtain ⟨h, c, m, rfl, hd, m0, m1, k⟩ := h
    refine ⟨_, ((Evl.pss_cut (ps_if (PW.pt (pw_and (pt_cmpR op_eq (pe_ix ix_list (pv 0) pe_int (fun _ _ => rfl)) pe_int (nomark _)) (pw_and1 (pt_cmpR op_lt (pe_ix ix_list (pv 0) pe_int (fun _ _ => rfl)) (pe_callB call_len_seq (by rfl) T.n_len (by decide +kernel) (pa_cons (pe_ix ix_list (pv 0) pe_int (fun _ _ => rfl)) pa_nil)) (nomark _))))) (pss_cons (ps_set (i := 3) sc__law_draw.nd rfl (Or.inl rfl) (pe_ix ix_list (pe_ix ix_list (pv 0) pe_int (fun _ _ => rfl)) (pe_ix ix_list (pv 0) pe_int (fun _ _ => rfl)) (fun _ _ => rfl)))
          (pss_cons (ps_asg (pe_op op_add (pe_ix ix_list (pv 0) pe_int (fun _ _ => rfl)) pe_int) (pg_sub (pv 0) pe_int set_list))
          (pss_cons (ps_asg (pe_op op_modN (pe_callTy call_int1 (by rfl) T.n_int (by decide +kernel) (pa_cons (pe_op op_add (pe_op op_add (pe_op op_mul (pe_ix ix_list (pv 0) pe_int (fun _ _ => rfl)) pe_int) (pv 3)) pe_int) pa_nil)) pe_int) (pg_sub (pv 0) pe_int set_list))
          (pss_one (ps_if (pt_cmpR op_ge (pv 3) (pe_op op_pow pe_int pe_int) (nomark _)) (pss_one (ps_asg (pv 3) (pg_sub (pv 0) pe_int set_list))) pss_nil))))) pss_nil)
          (pss_cons (ps_if (pt_cmpR op_gt (pe_ix ix_list (pv 0) pe_int (fun _ _ => rfl)) pe_int (nomark _)) (pss_cons (ps_set (i := 4) sc__law_draw.nd rfl (Or.inl rfl) (pe_op op_modN (pe_callTy call_int1 (by rfl) T.n_int (by decide +kernel) (pa_cons (pe_ix ix_list (pv 0) pe_int (fun _ _ => rfl)) pa_nil)) (pv 1)))
          (pss_cons (ps_asg (pe_op op_fdivN (pe_ix ix_list (pv 0) pe_int (fun _ _ => rfl)) (pv 1)) (pg_sub (pv 0) pe_int set_list))
          (pss_one (ps_ret (pv 4))))) pss_nil)
          (pss_cons (ps_asg (pe_op op_add (pe_ix ix_list (pv 0) pe_int (fun _ _ => rfl)) pe_int) (pg_sub (pv 0) pe_int set_list))
          (pss_cons (ps_set (i := 2) sc__law_draw.nd rfl (Or.inl rfl) (pe_op op_modN (pe_callTy call_int1 (by rfl) T.n_int (by decide +kernel) (pa_cons (pe_op op_mul (pe_callTy call_int1 (by rfl) T.n_int (by decide +kernel) (pa_cons (pe_op op_add (pe_ix ix_list (pv 0) pe_int (fun _ _ => rfl)) (pe_op op_mul pe_int (pe_ix ix_list (pv 0) pe_int (fun _ _ => rfl)))) pa_nil)) pe_int) pa_nil)) pe_int))
          (pss_cons (ps_set (i := 2) sc__law_draw.nd rfl (Or.inl rfl) (pe_op op_modN (pe_callTy call_int1 (by rfl) T.n_int (by decide +kernel) (pa_cons (pe_op op_mul (pv 2) (pe_op op_add (pe_op op_fdivN (pv 2) pe_int) pe_int)) pa_nil)) pe_int))
          (pss_cons (ps_set (i := 2) sc__law_draw.nd rfl (Or.inl rfl) (pe_op op_modN (pe_callTy call_int1 (by rfl) T.n_int (by decide +kernel) (pa_cons (pe_op op_mul (pv 2) (pe_op op_add (pe_op op_fdivN (pv 2) pe_int) pe_int)) pa_nil)) pe_int))
          (pss_one (ps_ret (pe_op op_modN (pe_callTy call_int1 (by rfl) T.n_int (by decide +kernel) (pa_cons (pe_op op_fdivN (pv 2) pe_int) pa_nil)) (pv 1))))))))))), ?_⟩
    dsimp only [cxOf, Cx.nox]
    have hd0 := hd
    obtain ⟨nc, ns, i, z, g, t, eh, ec, l63, n0, z0, g0, g1, t0⟩ := hd
    refine z_cut (fun σ H1 => (∃ u v w, σ = [some (.ref h), some (.int m), u, v, w]) ∧ Kp h H H1 ∧ ∃ (i : Nat) (z g t : Int), H1 h = some (.lst [.ref c, .int (i : Int), .int z, .int g, .int t]) ∧ 0 ≤ z ∧ 0 ≤ g ∧ g < 2147483648 ∧ 0 ≤ t) ?_ ?_
    · have kph : ∀ o, Kp h H (upd H h o) := fun o a u n e => by
        rw [upd_ne n]
        exact e
      (walk_at "zs")
      refine z_ixL (.inl (.inl eh)) rfl ?_
      (walk_at "zs")
      refine z_ite (fun e0 => ?_) (fun e0 => ?_)
      · (walk_at "zs")
        refine z_ixL (.inl (.inl eh)) rfl ?_
        (walk_at "zs")
        refine z_ixL (.inl (.inl eh)) rfl ?_
        (walk_at "zs")
        refine ⟨_, _, rfl, .inl (.inl (.inl ec)), ?_⟩
        (walk_at "zs")
        refine z_ite (fun e1 => ?_) (fun e1 => ?_)
        · rw [List.length_map] at e1
          have hi : i < ns.length := by omega
          have ai : atI (ns.map V.int) (i : Int) = some (.int ns[i]) := atI_nat (by rw [List.getElem?_map, List.getElem?_eq_getElem hi]; rfl)
          have np := n0 _ (List.getElem_mem hi)
          (walk_at "zs")
          refine z_ixL (.inl (.inl eh)) rfl ?_
          (walk_at "zs")
          refine z_ixL (.inl (.inl eh)) rfl ?_
          refine z_ixL (.inl (.inl ec)) ai ?_
          (walk_at "zs")
          refine z_ixL (.inl (.inl eh)) rfl ?_
          (walk_at "zs")
          refine z_setL eh rfl ?_
          (walk_at "zs")
          refine z_ixL (.inl (.inl upd_same)) rfl ?_
          (walk_at "zs")
          refine z_I (.inl ⟨by omega, by omega⟩) ?_
          (walk_at "zs")
          refine .inl ⟨_, rfl, ?_⟩
          (walk_at "zs")
          refine z_I (by decide) ?_
          (walk_at "zs")
          refine z_setL upd_same rfl ?_
          rw [upd_upd]
          have f0 := Int.emod_nonneg (g * 69621 + ns[i] + 11) (show (2147483629 : Int) ≠ 0 by decide)
          have f1 := Int.emod_lt_of_pos (g * 69621 + ns[i] + 11) (show (0 : Int) < 2147483629 by decide)
          have fe : (g * 69621 + ns[i] + 11).fmod 2147483629 = (g * 69621 + ns[i] + 11) % 2147483629 := Int.fmod_eq_emod_of_nonneg _ (by decide)
          rw [fe]
          (walk_at "zs")
          refine z_I ⟨by decide, by decide, by decide⟩ ?_
          (walk_at "zs")
          refine z_ite (fun e2 => ?_) (fun e2 => ?_)
          · (walk_at "zs")
            refine z_setL upd_same rfl ?_
            rw [upd_upd]
            exact ⟨⟨_, _, _, rfl⟩, kph _, i + 1, ns[i], _, t, upd_same, np, f0, by omega, t0⟩
          · (walk_at "zs")
            exact ⟨⟨_, _, _, rfl⟩, kph _, i + 1, z, _, t, upd_same, z0, f0, by omega, t0⟩
        · (walk_at "zs")
          exact ⟨⟨_, _, _, rfl⟩, Kp.refl H, i, z, g, t, eh, z0, g0, g1, t0⟩
      · (walk_at "zs")
        exact ⟨⟨_, _, _, rfl⟩, Kp.refl H, i, z, g, t, eh, z0, g0, g1, t0⟩
    · rintro σ H1 ⟨⟨u, v, w, rfl⟩, kp, i', z', g', t', eh', z0', g0', g1', t0'⟩
      have fin : ∀ o, (∃ (i : Nat) (z g t : Int), o = HO.lst [.ref c, .int (i : Int), .int z, .int g, .int t] ∧ 0 ≤ z ∧ 0 ≤ g ∧ g < 2147483648 ∧ 0 ≤ t) → Go h c H (upd H1 h o) := fun o ⟨i, z, g, t, e, b0, b1, b2, b3⟩ => by
        refine ⟨fun a u n q => by rw [upd_ne n]; exact kp a u n q, fun _ => ⟨nc, ns, i, z, g, t, by rw [upd_same, e], by rw [upd_ne nc]; exact kp c _ nc ec, l63, n0, b0, b1, b2, b3⟩⟩
      (walk_at "zs")
      refine z_ixL (.inl (.inl eh')) rfl ?_
      (walk_at "zs")
      refine z_ite (fun e0 => ?_) (fun e0 => ?_)
      · (walk_at "zs")
        refine z_ixL (.inl (.inl eh')) rfl ?_
        refine .inl ⟨_, rfl, ?_⟩
        (walk_at "zs")
        refine z_I (by omega) ?_
        (walk_at "zs")
        refine z_ixL (.inl (.inl eh')) rfl ?_
        (walk_at "zs")
        refine z_I ⟨by omega, by omega⟩ ?_
        (walk_at "zs")
        refine z_setL eh' rfl ?_
        have e1 : z'.fmod m = z' % m := Int.fmod_eq_emod_of_nonneg _ (by omega)
        have e2 : z'.fdiv m = z' / m := Int.fdiv_eq_ediv_of_nonneg _ (by omega)
        rw [e1, e2]
        (walk_at "zs")
        exact k _ _ (Int.emod_nonneg _ (by omega)) (Int.emod_lt_of_pos _ m0) (fin _ ⟨i', z' / m, g', t', rfl, Int.ediv_nonneg z0' (by omega), g0', g1', t0'⟩)
      · (walk_at "zs")
        refine z_ixL (.inl (.inl eh')) rfl ?_
        (walk_at "zs")
        refine z_setL eh' rfl ?_
        (walk_at "zs")
        refine z_ixL (.inl (.inl upd_same)) rfl ?_
        (walk_at "zs")
        refine z_ixL (.inl (.inl upd_same)) rfl ?_
        refine z_I (.inl ⟨by decide, by decide⟩) ?_
        (walk_at "zs")
        refine .inl ⟨_, rfl, ?_⟩
        (walk_at "zs")
        refine z_I (.inr ⟨by decide, by decide⟩) ?_
        (walk_at "zs")
        refine .inl ⟨_, rfl, ?_⟩
        (walk_at "zs")
        refine z_I (by decide) ?_
        rw [Int.fmod_eq_emod_of_nonneg _ (show (0 : Int) ≤ 2147483647 by decide)]
        generalize ha : ((g' + 7919 * (t' + 1)) * 48271) % 2147483647 = a
        have a0 : 0 ≤ a := by rw [← ha]; exact Int.emod_nonneg _ (by decide)
        have a1 : a < 2147483647 := by rw [← ha]; exact Int.emod_lt_of_pos _ (by decide)
        (walk_at "zs")
        refine z_I ⟨by decide, by decide⟩ ?_
        (walk_at "zs")
        refine z_I (.inl ⟨by omega, by omega⟩) ?_
        (walk_at "zs")
        refine .inl ⟨_, rfl, ?_⟩
        (walk_at "zs")
        refine z_I (by decide) ?_
        rw [Int.fmod_eq_emod_of_nonneg _ (show (0 : Int) ≤ 2147483647 by decide)]
        generalize hb : (a * (a.fdiv 1009 + 69621)) % 2147483647 = b
        have b0 : 0 ≤ b := by rw [← hb]; exact Int.emod_nonneg _ (by decide)
        have b1 : b < 2147483647 := by rw [← hb]; exact Int.emod_lt_of_pos _ (by decide)
        (walk_at "zs")
        refine z_I ⟨by decide, by decide⟩ ?_
        (walk_at "zs")
        refine z_I (.inl ⟨by omega, by omega⟩) ?_
        (walk_at "zs")
        refine .inl ⟨_, rfl, ?_⟩
        (walk_at "zs")
        refine z_I (by decide) ?_
        (walk_at "zs")
        refine z_I ⟨by decide, by decide⟩ ?_
        (walk_at "zs")
        refine .inl ⟨_, rfl, ?_⟩
        (walk_at "zs")
        refine z_I (by omega) ?_
        rw [Int.fmod_eq_emod_of_nonneg _ (show (0 : Int) ≤ m by omega)]
        exact k _ _ (Int.emod_nonneg _ (by omega)) (Int.emod_lt_of_pos _ m0) (fin _ ⟨i', z', g', t' + 1, rfl, z0', g0', g1', by omega⟩)
theorem sc_BadHouse___init__ : FnScope ["self", "part"] ["self", "part"] (defScope s_BadHouse___init__) := ⟨rfl, rfl, rfl, by decide +kernel, rfl, by decide +kernel, by decide +kernel⟩
theorem G_BadHouse___init__ (T : Txt K mg A) : FnOk P w K mg base CX0 1 A.a_BadHouse___init__ A.d_BadHouse___init__ ["self", "part"] (spX1 K A.c_BadHouse "part") := by
  refine T.F_BadHouse___init__.ok sc_BadHouse___init__ (fun vs H Q E h => ?_) (fun cdv A' outer s H vs Q E hr h => ?_)
  · obtain ⟨_, _, rfl, _⟩ := h
    rfl
  · obtain ⟨a, v, rfl, T1, no, ha, k⟩ := h
    refine ⟨_, ((pss_one (ps_ost (pv 0) (pv 1)))), z_ost rfl rfl T1 no ha k⟩
theorem sc_BadStanding___init__ : FnScope ["self", "part"] ["self", "part"] (defScope s_BadStanding___init__) := ⟨rfl, rfl, rfl, by decide +kernel, rfl, by decide +kernel, by decide +kernel⟩
theorem G_BadStanding___init__ (T : Txt K mg A) : FnOk P w K mg base CX0 1 A.a_BadStanding___init__ A.d_BadStanding___init__ ["self", "part"] (spX1 K A.c_BadStanding "part") := by
  refine T.F_BadStanding___init__.ok sc_BadStanding___init__ (fun vs H Q E h => ?_) (fun cdv A' outer s H vs Q E hr h => ?_)
  · obtain ⟨_, _, rfl, _⟩ := h
    rfl
  · obtain ⟨a, v, rfl, T1, no, ha, k⟩ := h
    refine ⟨_, ((pss_one (ps_ost (pv 0) (pv 1)))), z_ost rfl rfl T1 no ha k⟩
theorem sc_BadGroups___init__ : FnScope ["self", "index"] ["self", "index"] (defScope s_BadGroups___init__) := ⟨rfl, rfl, rfl, by decide +kernel, rfl, by decide +kernel, by decide +kernel⟩
theorem G_BadGroups___init__ (T : Txt K mg A) : FnOk P w K mg base CX0 1 A.a_BadGroups___init__ A.d_BadGroups___init__ ["self", "index"] (spX1 K A.c_BadGroups "index") := by
  refine T.F_BadGroups___init__.ok sc_BadGroups___init__ (fun vs H Q E h => ?_) (fun cdv A' outer s H vs Q E hr h => ?_)
  · obtain ⟨_, _, rfl, _⟩ := h
    rfl
  · obtain ⟨a, v, rfl, T1, no, ha, k⟩ := h
    refine ⟨_, ((pss_one (ps_ost (pv 0) (pv 1)))), z_ost rfl rfl T1 no ha k⟩
theorem sc_TooMany___init__ : FnScope ["self", "limit"] ["self", "limit"] (defScope s_TooMany___init__) := ⟨rfl, rfl, rfl, by decide +kernel, rfl, by decide +kernel, by decide +kernel⟩
theorem G_TooMany___init__ (T : Txt K mg A) : FnOk P w K mg base CX0 1 A.a_TooMany___init__ A.d_TooMany___init__ ["self", "limit"] (spX1 K A.c_TooMany "limit") := by
  refine T.F_TooMany___init__.ok sc_TooMany___init__ (fun vs H Q E h => ?_) (fun cdv A' outer s H vs Q E hr h => ?_)
  · obtain ⟨_, _, rfl, _⟩ := h
    rfl
  · obtain ⟨a, v, rfl, T1, no, ha, k⟩ := h
    refine ⟨_, ((pss_one (ps_ost (pv 0) (pv 1)))), z_ost rfl rfl T1 no ha k⟩
theorem sc_BadMoves___init__ : FnScope ["self", "index"] ["self", "index"] (defScope s_BadMoves___init__) := ⟨rfl, rfl, rfl, by decide +kernel, rfl, by decide +kernel, by decide +kernel⟩
theorem G_BadMoves___init__ (T : Txt K mg A) : FnOk P w K mg base CX0 1 A.a_BadMoves___init__ A.d_BadMoves___init__ ["self", "index"] (spX1 K A.c_BadMoves "index") := by
  refine T.F_BadMoves___init__.ok sc_BadMoves___init__ (fun vs H Q E h => ?_) (fun cdv A' outer s H vs Q E hr h => ?_)
  · obtain ⟨_, _, rfl, _⟩ := h
    rfl
  · obtain ⟨a, v, rfl, T1, no, ha, k⟩ := h
    refine ⟨_, ((pss_one (ps_ost (pv 0) (pv 1)))), z_ost rfl rfl T1 no ha k⟩
theorem sc_BadChoice___init__ : FnScope ["self", "index"] ["self", "index"] (defScope s_BadChoice___init__) := ⟨rfl, rfl, rfl, by decide +kernel, rfl, by decide +kernel, by decide +kernel⟩
theorem G_BadChoice___init__ (T : Txt K mg A) : FnOk P w K mg base CX0 1 A.a_BadChoice___init__ A.d_BadChoice___init__ ["self", "index"] (spX1 K A.c_BadChoice "index") := by
  refine T.F_BadChoice___init__.ok sc_BadChoice___init__ (fun vs H Q E h => ?_) (fun cdv A' outer s H vs Q E hr h => ?_)
  · obtain ⟨_, _, rfl, _⟩ := h
    rfl
  · obtain ⟨a, v, rfl, T1, no, ha, k⟩ := h
    refine ⟨_, ((pss_one (ps_ost (pv 0) (pv 1)))), z_ost rfl rfl T1 no ha k⟩
theorem sc_BadNews___init__ : FnScope ["self", "index"] ["self", "index"] (defScope s_BadNews___init__) := ⟨rfl, rfl, rfl, by decide +kernel, rfl, by decide +kernel, by decide +kernel⟩
theorem G_BadNews___init__ (T : Txt K mg A) : FnOk P w K mg base CX0 1 A.a_BadNews___init__ A.d_BadNews___init__ ["self", "index"] (spX1 K A.c_BadNews "index") := by
  refine T.F_BadNews___init__.ok sc_BadNews___init__ (fun vs H Q E h => ?_) (fun cdv A' outer s H vs Q E hr h => ?_)
  · obtain ⟨_, _, rfl, _⟩ := h
    rfl
  · obtain ⟨a, v, rfl, T1, no, ha, k⟩ := h
    refine ⟨_, ((pss_one (ps_ost (pv 0) (pv 1)))), z_ost rfl rfl T1 no ha k⟩
theorem sc_BadText___init__ : FnScope ["self", "index"] ["self", "index"] (defScope s_BadText___init__) := ⟨rfl, rfl, rfl, by decide +kernel, rfl, by decide +kernel, by decide +kernel⟩
theorem G_BadText___init__ (T : Txt K mg A) : FnOk P w K mg base CX0 1 A.a_BadText___init__ A.d_BadText___init__ ["self", "index"] (spX1 K A.c_BadText "index") := by
  refine T.F_BadText___init__.ok sc_BadText___init__ (fun vs H Q E h => ?_) (fun cdv A' outer s H vs Q E hr h => ?_)
  · obtain ⟨_, _, rfl, _⟩ := h
    rfl
  · obtain ⟨a, v, rfl, T1, no, ha, k⟩ := h
    refine ⟨_, ((pss_one (ps_ost (pv 0) (pv 1)))), z_ost rfl rfl T1 no ha k⟩
theorem sc_NoName___init__ : FnScope ["self", "name"] ["self", "name"] (defScope s_NoName___init__) := ⟨rfl, rfl, rfl, by decide +kernel, rfl, by decide +kernel, by decide +kernel⟩
theorem G_NoName___init__ (T : Txt K mg A) : FnOk P w K mg base CX0 1 A.a_NoName___init__ A.d_NoName___init__ ["self", "name"] (spX1 K A.c_NoName "name") := by
  refine T.F_NoName___init__.ok sc_NoName___init__ (fun vs H Q E h => ?_) (fun cdv A' outer s H vs Q E hr h => ?_)
  · obtain ⟨_, _, rfl, _⟩ := h
    rfl
  · obtain ⟨a, v, rfl, T1, no, ha, k⟩ := h
    refine ⟨_, ((pss_one (ps_ost (pv 0) (pv 1)))), z_ost rfl rfl T1 no ha k⟩
theorem sc_BadFacts___init__ : FnScope ["self", "index"] ["self", "index"] (defScope s_BadFacts___init__) := ⟨rfl, rfl, rfl, by decide +kernel, rfl, by decide +kernel, by decide +kernel⟩
theorem G_BadFacts___init__ (T : Txt K mg A) : FnOk P w K mg base CX0 1 A.a_BadFacts___init__ A.d_BadFacts___init__ ["self", "index"] (spX1 K A.c_BadFacts "index") := by
  refine T.F_BadFacts___init__.ok sc_BadFacts___init__ (fun vs H Q E h => ?_) (fun cdv A' outer s H vs Q E hr h => ?_)
  · obtain ⟨_, _, rfl, _⟩ := h
    rfl
  · obtain ⟨a, v, rfl, T1, no, ha, k⟩ := h
    refine ⟨_, ((pss_one (ps_ost (pv 0) (pv 1)))), z_ost rfl rfl T1 no ha k⟩
theorem sc_BadSeen___init__ : FnScope ["self", "index"] ["self", "index"] (defScope s_BadSeen___init__) := ⟨rfl, rfl, rfl, by decide +kernel, rfl, by decide +kernel, by decide +kernel⟩
theorem G_BadSeen___init__ (T : Txt K mg A) : FnOk P w K mg base CX0 1 A.a_BadSeen___init__ A.d_BadSeen___init__ ["self", "index"] (spX1 K A.c_BadSeen "index") := by
  refine T.F_BadSeen___init__.ok sc_BadSeen___init__ (fun vs H Q E h => ?_) (fun cdv A' outer s H vs Q E hr h => ?_)
  · obtain ⟨_, _, rfl, _⟩ := h
    rfl
  · obtain ⟨a, v, rfl, T1, no, ha, k⟩ := h
    refine ⟨_, ((pss_one (ps_ost (pv 0) (pv 1)))), z_ost rfl rfl T1 no ha k⟩
theorem sc_BadTree___init__ : FnScope ["self", "part"] ["self", "part"] (defScope s_BadTree___init__) := ⟨rfl, rfl, rfl, by decide +kernel, rfl, by decide +kernel, by decide +kernel⟩
theorem G_BadTree___init__ (T : Txt K mg A) : FnOk P w K mg base CX0 1 A.a_BadTree___init__ A.d_BadTree___init__ ["self", "part"] (spX1 K A.c_BadTree "part") := by
  refine T.F_BadTree___init__.ok sc_BadTree___init__ (fun vs H Q E h => ?_) (fun cdv A' outer s H vs Q E hr h => ?_)
  · obtain ⟨_, _, rfl, _⟩ := h
    rfl
  · obtain ⟨a, v, rfl, T1, no, ha, k⟩ := h
    refine ⟨_, ((pss_one (ps_ost (pv 0) (pv 1)))), z_ost rfl rfl T1 no ha k⟩
theorem sc__law_made : FnScope ["thing", "found"] ["thing"] (defScope s__law_made) := ⟨rfl, rfl, rfl, by decide +kernel, rfl, by decide +kernel, by decide +kernel⟩
def Ad.tab (A : Ad) : List (Addr × Option Str) := [(A.c_BadHouse, some "part"), (A.c_BadStanding, some "part"), (A.c_BadLift, none), (A.c_BadGroups, some "index"), (A.c_BadFloor, none), (A.c_BadMove, none), (A.c_TooMany, some "limit"), (A.c_BadMoves, some "index"), (A.c_BadLog, none), (A.c_BadGap, none), (A.c_BadNumber, none), (A.c_BadWay, none), (A.c_BadChoice, some "index"), (A.c_NoPlan, none), (A.c_NotGround, none), (A.c_BadPrices, none), (A.c_BadRoom, none), (A.c_BadAnswer, none), (A.c_BadCounts, none), (A.c_BadGroup, none), (A.c_BadNews, some "index"), (A.c_NothingDone, none), (A.c_BadText, some "index"), (A.c_NoLine, none), (A.c_NoName, some "name"), (A.c_BadLoads, none), (A.c_BadFacts, some "index"), (A.c_BadSeen, some "index"), (A.c_BadTree, some "part"), (A.c_BadRoad, none)]
def sp__law_made (K : PySem.W.Frag) (A : Ad) : Sp := fun vs H Q E =>
  ∃ (h c : Addr) (v : V), vs = [v] ∧ Hd h c H ∧ ∀ p xs H', Same H H' → H' p = some (.lst xs) → p ≠ h → Es h H' v A.tab xs → Q (.ref p) H'
theorem G__law_made (T : Txt K mg A) : FnOk P w K mg base CX0 3 A.a__law_made A.d__law_made ["thing"] (sp__law_made K A) := by
  refine T.F__law_made.ok sc__law_made (fun vs H Q E h => ?_) (fun cdv A' outer s H vs Q E hr h => ?_)
  · obtain ⟨_, _, _, rfl, _⟩ := h; rfl
  · obtain ⟨h, c, v, rfl, hd, k⟩ := h
    refine ⟨_, ((pss_cons (ps_set (i := 1) sc__law_made.nd rfl (Or.inl rfl) (pe_lst (pa_cons (pe_mkX T.oe_BadHouse T.i_BadHouse T.t_BadHouse (G_BadHouse___init__ T) (hr.mono (by decide)) T.b_BadHouse___init__ pass0 rfl T.g_BadHouse (pa_cons (pv 0) pa_nil)) (pa_cons (pe_mkX T.oe_BadStanding T.i_BadStanding T.t_BadStanding (G_BadStanding___init__ T) (hr.mono (by decide)) T.b_BadStanding___init__ pass0 rfl T.g_BadStanding (pa_cons (pv 0) pa_nil)) (pa_cons (pe_mkX0 PySem.F.excBase_ValueError T.xc_BadLift T.g_BadLift T.kc_BadLift rfl) (pa_cons (pe_mkX T.oe_BadGroups T.i_BadGroups T.t_BadGroups (G_BadGroups___init__ T) (hr.mono (by decide)) T.b_BadGroups___init__ pass0 rfl T.g_BadGroups (pa_cons (pv 0) pa_nil)) (pa_cons (pe_mkX0 PySem.F.excBase_ValueError T.xc_BadFloor T.g_BadFloor T.kc_BadFloor rfl) (pa_cons (pe_mkX0 PySem.F.excBase_ValueError T.xc_BadMove T.g_BadMove T.kc_BadMove rfl) (pa_cons (pe_mkX T.oe_TooMany T.i_TooMany T.t_TooMany (G_TooMany___init__ T) (hr.mono (by decide)) T.b_TooMany___init__ pass0 rfl T.g_TooMany (pa_cons (pv 0) pa_nil)) pa_nil)))))))))
          (pss_cons (ps_set (i := 1) sc__law_made.nd rfl (Or.inl rfl) (pe_op op_cat (pv 1) (pe_lst (pa_cons (pe_mkX T.oe_BadMoves T.i_BadMoves T.t_BadMoves (G_BadMoves___init__ T) (hr.mono (by decide)) T.b_BadMoves___init__ pass0 rfl T.g_BadMoves (pa_cons (pv 0) pa_nil)) (pa_cons (pe_mkX0 PySem.F.excBase_ValueError T.xc_BadLog T.g_BadLog T.kc_BadLog rfl) (pa_cons (pe_mkX0 PySem.F.excBase_ValueError T.xc_BadGap T.g_BadGap T.kc_BadGap rfl) (pa_cons (pe_mkX0 PySem.F.excBase_ValueError T.xc_BadNumber T.g_BadNumber T.kc_BadNumber rfl) (pa_cons (pe_mkX0 PySem.F.excBase_ValueError T.xc_BadWay T.g_BadWay T.kc_BadWay rfl) (pa_cons (pe_mkX T.oe_BadChoice T.i_BadChoice T.t_BadChoice (G_BadChoice___init__ T) (hr.mono (by decide)) T.b_BadChoice___init__ pass0 rfl T.g_BadChoice (pa_cons (pv 0) pa_nil)) (pa_cons (pe_mkX0 PySem.F.excBase_ValueError T.xc_NoPlan T.g_NoPlan T.kc_NoPlan rfl) pa_nil))))))))))
          (pss_cons (ps_set (i := 1) sc__law_made.nd rfl (Or.inl rfl) (pe_op op_cat (pv 1) (pe_lst (pa_cons (pe_mkX0 PySem.F.excBase_ValueError T.xc_NotGround T.g_NotGround T.kc_NotGround rfl) (pa_cons (pe_mkX0 PySem.F.excBase_ValueError T.xc_BadPrices T.g_BadPrices T.kc_BadPrices rfl) (pa_cons (pe_mkX0 PySem.F.excBase_ValueError T.xc_BadRoom T.g_BadRoom T.kc_BadRoom rfl) (pa_cons (pe_mkX0 PySem.F.excBase_ValueError T.xc_BadAnswer T.g_BadAnswer T.kc_BadAnswer rfl) (pa_cons (pe_mkX0 PySem.F.excBase_ValueError T.xc_BadCounts T.g_BadCounts T.kc_BadCounts rfl) (pa_cons (pe_mkX0 PySem.F.excBase_ValueError T.xc_BadGroup T.g_BadGroup T.kc_BadGroup rfl) (pa_cons (pe_mkX T.oe_BadNews T.i_BadNews T.t_BadNews (G_BadNews___init__ T) (hr.mono (by decide)) T.b_BadNews___init__ pass0 rfl T.g_BadNews (pa_cons (pv 0) pa_nil)) pa_nil))))))))))
          (pss_cons (ps_set (i := 1) sc__law_made.nd rfl (Or.inl rfl) (pe_op op_cat (pv 1) (pe_lst (pa_cons (pe_mkX0 PySem.F.excBase_ValueError T.xc_NothingDone T.g_NothingDone T.kc_NothingDone rfl) (pa_cons (pe_mkX T.oe_BadText T.i_BadText T.t_BadText (G_BadText___init__ T) (hr.mono (by decide)) T.b_BadText___init__ pass0 rfl T.g_BadText (pa_cons (pv 0) pa_nil)) (pa_cons (pe_mkX0 PySem.F.excBase_ValueError T.xc_NoLine T.g_NoLine T.kc_NoLine rfl) (pa_cons (pe_mkX T.oe_NoName T.i_NoName T.t_NoName (G_NoName___init__ T) (hr.mono (by decide)) T.b_NoName___init__ pass0 rfl T.g_NoName (pa_cons (pv 0) pa_nil)) pa_nil)))))))
          (pss_one (ps_ret (pe_op op_cat (pv 1) (pe_lst (pa_cons (pe_mkX0 PySem.F.excBase_ValueError T.xc_BadLoads T.g_BadLoads T.kc_BadLoads rfl) (pa_cons (pe_mkX T.oe_BadFacts T.i_BadFacts T.t_BadFacts (G_BadFacts___init__ T) (hr.mono (by decide)) T.b_BadFacts___init__ pass0 rfl T.g_BadFacts (pa_cons (pv 0) pa_nil)) (pa_cons (pe_mkX T.oe_BadSeen T.i_BadSeen T.t_BadSeen (G_BadSeen___init__ T) (hr.mono (by decide)) T.b_BadSeen___init__ pass0 rfl T.g_BadSeen (pa_cons (pv 0) pa_nil)) (pa_cons (pe_mkX T.oe_BadTree T.i_BadTree T.t_BadTree (G_BadTree___init__ T) (hr.mono (by decide)) T.b_BadTree___init__ pass0 rfl T.g_BadTree (pa_cons (pv 0) pa_nil)) (pa_cons (pe_mkX0 PySem.F.excBase_ValueError T.xc_BadRoad T.g_BadRoad T.kc_BadRoad rfl) pa_nil)))))))))))))), ?_⟩
    dsimp only [cxOf, Cx.nox]
    obtain ⟨l0, ac⟩ := Hd.ac (v := v) hd
    (walk_at "zs")
    refine z_mkA T.oe_BadHouse T.no_BadHouse ac (fun x0 H0 ac => ?_)
    (walk_at "zs")
    refine z_mkA T.oe_BadStanding T.no_BadStanding ac (fun x1 H1 ac => ?_)
    (walk_at "zs")
    refine z_mkA0 ac (fun x2 H2 ac => ?_)
    (walk_at "zs")
    refine z_mkA T.oe_BadGroups T.no_BadGroups ac (fun x3 H3 ac => ?_)
    (walk_at "zs")
    refine z_mkA0 ac (fun x4 H4 ac => ?_)
    (walk_at "zs")
    refine z_mkA0 ac (fun x5 H5 ac => ?_)
    (walk_at "zs")
    refine z_mkA T.oe_TooMany T.no_TooMany ac (fun x6 H6 ac => ?_)
    (walk_at "zs")
    simp only [List.cons_append, List.nil_append] at ac
    refine z_newA ac (fun p0 G0 ac e0 n0 => ?_)
    replace ac := ac.turn e0 n0
    (walk_at "zs")
    refine z_mkA T.oe_BadMoves T.no_BadMoves ac (fun x7 H7 ac => ?_)
    (walk_at "zs")
    refine z_mkA0 ac (fun x8 H8 ac => ?_)
    (walk_at "zs")
    refine z_mkA0 ac (fun x9 H9 ac => ?_)
    (walk_at "zs")
    refine z_mkA0 ac (fun x10 H10 ac => ?_)
    (walk_at "zs")
    refine z_mkA0 ac (fun x11 H11 ac => ?_)
    (walk_at "zs")
    refine z_mkA T.oe_BadChoice T.no_BadChoice ac (fun x12 H12 ac => ?_)
    (walk_at "zs")
    refine z_mkA0 ac (fun x13 H13 ac => ?_)
    (walk_at "zs")
    simp only [List.cons_append, List.nil_append] at ac
    refine z_newA ac (fun p1 G1 ac e1 n1 => ?_)
    (walk_at "zs")
    refine z_catA ac e1 (fun q1 J1 ac => ?_)
    simp only [List.cons_append, List.nil_append] at ac
    (walk_at "zs")
    refine z_mkA0 ac (fun x14 H14 ac => ?_)
    (walk_at "zs")
    refine z_mkA0 ac (fun x15 H15 ac => ?_)
    (walk_at "zs")
    refine z_mkA0 ac (fun x16 H16 ac => ?_)
    (walk_at "zs")
    refine z_mkA0 ac (fun x17 H17 ac => ?_)
    (walk_at "zs")
    refine z_mkA0 ac (fun x18 H18 ac => ?_)
    (walk_at "zs")
    refine z_mkA0 ac (fun x19 H19 ac => ?_)
    (walk_at "zs")
    refine z_mkA T.oe_BadNews T.no_BadNews ac (fun x20 H20 ac => ?_)
    (walk_at "zs")
    simp only [List.cons_append, List.nil_append] at ac
    refine z_newA ac (fun p2 G2 ac e2 n2 => ?_)
    (walk_at "zs")
    refine z_catA ac e2 (fun q2 J2 ac => ?_)
    simp only [List.cons_append, List.nil_append] at ac
    (walk_at "zs")
    refine z_mkA0 ac (fun x21 H21 ac => ?_)
    (walk_at "zs")
    refine z_mkA T.oe_BadText T.no_BadText ac (fun x22 H22 ac => ?_)
    (walk_at "zs")
    refine z_mkA0 ac (fun x23 H23 ac => ?_)
    (walk_at "zs")
    refine z_mkA T.oe_NoName T.no_NoName ac (fun x24 H24 ac => ?_)
    (walk_at "zs")
    simp only [List.cons_append, List.nil_append] at ac
    refine z_newA ac (fun p3 G3 ac e3 n3 => ?_)
    (walk_at "zs")
    refine z_catA ac e3 (fun q3 J3 ac => ?_)
    simp only [List.cons_append, List.nil_append] at ac
    (walk_at "zs")
    refine z_mkA0 ac (fun x25 H25 ac => ?_)
    (walk_at "zs")
    refine z_mkA T.oe_BadFacts T.no_BadFacts ac (fun x26 H26 ac => ?_)
    (walk_at "zs")
    refine z_mkA T.oe_BadSeen T.no_BadSeen ac (fun x27 H27 ac => ?_)
    (walk_at "zs")
    refine z_mkA T.oe_BadTree T.no_BadTree ac (fun x28 H28 ac => ?_)
    (walk_at "zs")
    refine z_mkA0 ac (fun x29 H29 ac => ?_)
    (walk_at "zs")
    simp only [List.cons_append, List.nil_append] at ac
    refine z_newA ac (fun p4 G4 ac e4 n4 => ?_)
    (walk_at "zs")
    refine z_catA ac e4 (fun q4 J4 ac => ?_)
    simp only [List.cons_append, List.nil_append] at ac
    try (walk_at "zs")
    exact k _ _ _ ac.same ac.at_ ac.ne ac.es
theorem sc_is_integer : FnScope ["thing"] ["thing"] (defScope s_is_integer) := ⟨rfl, rfl, rfl, by decide +kernel, rfl, by decide +kernel, by decide +kernel⟩
def sp_is_integer (K : PySem.W.Frag) (A : Ad) : Sp := fun vs H Q E =>
  ∃ (h : Addr) (v : V) (d : Dt), vs = [v] ∧ R A.cl h H v d ∧ Q (.bl d.isN) H
theorem G_is_integer (T : Txt K mg A) : FnOk P w K mg base CX0 1 A.a_is_integer A.d_is_integer ["thing"] (sp_is_integer K A) := by
  refine T.F_is_integer.ok sc_is_integer (fun vs H Q E h => ?_) (fun cdv A' outer s H vs Q E hr h => ?_)
  · obtain ⟨_, _, _, rfl, _⟩ := h; rfl
  · obtain ⟨h, v, d, rfl, r, k⟩ := h
    refine ⟨_, ((pss_one (ps_ret (pe_and (pe_callB call_isi (by rfl) T.n_isinstance (by decide +kernel) (pa_cons (pv 0) (pa_cons (pe_bltn (v := .ty "int") (by rfl) T.n_int (by decide +kernel) rfl) pa_nil))) (pe_one (pe_not (pe_callB call_isi (by rfl) T.n_isinstance (by decide +kernel) (pa_cons (pv 0) (pa_cons (pe_bltn (v := .ty "bool") (by rfl) T.n_bool (by decide +kernel) rfl) pa_nil))))))))), ?_⟩
    dsimp only [cxOf, Cx.nox]
    rw [d.isN_eq] at k
    (walk_at "zs")
    refine isi_int T.kits r ?_
    (walk_at "zs")
    refine z_iteB (fun e => ?_) (fun e => ?_)
    · (walk_at "zs")
      refine isi_bool T.kits r ?_
      (walk_at "zs")
      rw [e] at k
      exact k
    · rw [e] at k
      exact k
theorem sc_is_between : FnScope ["low", "high", "thing"] ["low", "high", "thing"] (defScope s_is_between) := ⟨rfl, rfl, rfl, by decide +kernel, rfl, by decide +kernel, by decide +kernel⟩
def sp_is_between (K : PySem.W.Frag) (A : Ad) : Sp := fun vs H Q E =>
  ∃ (h : Addr) (v : V) (d : Dt) (a b : Int), vs = [.int a, .int b, v] ∧ R A.cl h H v d ∧ Q (.bl (d.bet a b)) H
theorem G_is_between (T : Txt K mg A) : FnOk P w K mg base CX0 2 A.a_is_between A.d_is_between ["low", "high", "thing"] (sp_is_between K A) := by
  refine T.F_is_between.ok sc_is_between (fun vs H Q E h => ?_) (fun cdv A' outer s H vs Q E hr h => ?_)
  · obtain ⟨_, _, _, _, _, rfl, _⟩ := h; rfl
  · obtain ⟨h, v, d, a, b, rfl, r, k⟩ := h
    refine ⟨_, ((pss_one (ps_ret (pe_and (pe_call (G_is_integer T) (hr.mono (by decide)) rfl T.g_is_integer T.F_is_integer.kp T.b_is_integer .nil pass0 (pa_cons (pv 2) pa_nil)) (pe_one (pe_chain op_le op_le (pv 0) (pv 2) (pv 1))))))), ?_⟩
    dsimp only [cxOf, Cx.nox]
    (walk_at "zs")
    refine ⟨h, v, d, rfl, r, ?_⟩
    (walk_at "zs")
    refine z_iteB (fun e => ?_) (fun e => ?_)
    · obtain ⟨i, rfl⟩ := Dt.of_isN e
      cases r
      (walk_at "zs")
      refine z_ite (fun e1 => ?_) (fun e1 => ?_)
      · (walk_at "zs")
        have q : (Dt.int i).bet a b = decide (i ≤ b) := by show (decide (a ≤ i) && decide (i ≤ b)) = _; rw [decide_eq_true e1]; rfl
        rw [q] at k
        exact k
      · have q : (Dt.int i).bet a b = false := by show (decide (a ≤ i) && decide (i ≤ b)) = _; rw [decide_eq_false e1]; rfl
        rw [q] at k
        exact k
    · have q : d.bet a b = false := by cases d <;> first | rfl | (exact Bool.noConfusion e)
      rw [q] at k
      exact k
theorem sc_House___init__ : FnScope ["self", "floors", "room"] ["self", "floors", "room"] (defScope s_House___init__) := ⟨rfl, rfl, rfl, by decide +kernel, rfl, by decide +kernel, by decide +kernel⟩
def sp_House___init__ (K : PySem.W.Frag) (A : Ad) : Sp := fun vs H Q E =>
  ∃ (h : Addr) (x dx : Addr) (fv rv : V) (fd rd : Dt), vs = [.ref x, fv, rv] ∧ H x = some (.ins A.c_House dx []) ∧ R A.cl h H fv fd ∧ R A.cl h H rv rd ∧
  (fd.bet 2 40 = false → ∀ d, H d = none → E (.ref A.c_BadHouse) (some d) (upd H d (.xd [("part", .str "floors")]))) ∧
  (fd.bet 2 40 = true → rd.bet 1 1000000000000 = false → ∀ d, H d = none → E (.ref A.c_BadHouse) (some d) (upd H d (.xd [("part", .str "room")]))) ∧
  (fd.bet 2 40 = true → rd.bet 1 1000000000000 = true → Q .non (upd H x (.ins A.c_House dx [("floors", fv), ("room", rv)])))
theorem G_House___init__ (T : Txt K mg A) : FnOk P w K mg base (L2.CX P w) 3 A.a_House___init__ A.d_House___init__ ["self", "floors", "room"] (sp_House___init__ K A) := by
  refine T.F_House___init__.okX sc_House___init__ (fun vs H Q E h => ?_) (fun cdv A' outer s H vs Q E hr h => ?_)
  · obtain ⟨_, _, _, _, _, _, _, rfl, _⟩ := h; rfl
  · obtain ⟨h, x, dx, fv, rv, fd, rd, rfl, hx, r1, r2, k1, k2, k3⟩ := h
    refine ⟨_, ((pss_cons (ps_if (pt_not (pt_val (pe_call (G_is_between T) (hr.mono (by decide)) rfl T.g_is_between T.F_is_between.kp T.b_is_between .nil pass0 (pa_cons pe_int (pa_cons (pe_gi rfl T.c_MOST_FLOORS) (pa_cons (pv 1) pa_nil)))))) (pss_one (ps_raise rfl (takes_of rfl rfl rfl rfl) (pmk_oex T.oe_BadHouse T.i_BadHouse T.t_BadHouse (G_BadHouse___init__ T) (hr.mono (by decide)) T.b_BadHouse___init__ .nil pass0 rfl T.g_BadHouse (pa_cons pe_str pa_nil)))) pss_nil)
          (pss_cons (ps_if (pt_not (pt_val (pe_call (G_is_between T) (hr.mono (by decide)) rfl T.g_is_between T.F_is_between.kp T.b_is_between .nil pass0 (pa_cons pe_int (pa_cons (pe_gi rfl T.c_MOST_ROOM) (pa_cons (pv 2) pa_nil)))))) (pss_one (ps_raise rfl (takes_of rfl rfl rfl rfl) (pmk_oex T.oe_BadHouse T.i_BadHouse T.t_BadHouse (G_BadHouse___init__ T) (hr.mono (by decide)) T.b_BadHouse___init__ .nil pass0 rfl T.g_BadHouse (pa_cons pe_str pa_nil)))) pss_nil)
          (pss_cons (ps_fld (pv 0) (pv 1) rfl)
          (pss_one (ps_fld (pv 0) (pv 2) rfl)))))), ?_⟩
    dsimp only [cxOf, Cx.nox]
    (walk_at "zs")
    refine ⟨h, fv, fd, _, _, rfl, r1, ?_⟩
    (walk_at "zs")
    refine z_iteN (fun e1 => ?_) (fun e1 => ?_)
    · exact z_raiseC T.oe_BadHouse T.no_BadHouse (k1 e1)
    · (walk_at "zs")
      refine ⟨h, rv, rd, _, _, rfl, r2, ?_⟩
      (walk_at "zs")
      refine z_iteN (fun e2 => ?_) (fun e2 => ?_)
      · exact z_raiseC T.oe_BadHouse T.no_BadHouse (k2 e1 e2)
      · (walk_at "zs")
        refine ⟨x, _, dx, _, rfl, hx, (T.kits.kit 0).cl, T.na_House_floors, by decide, ?_⟩
        (walk_at "zs")
        refine ⟨x, _, dx, _, rfl, upd_same, (T.kits.kit 0).cl, T.na_House_room, by show 1 < 1000; decide, ?_⟩
        (walk_at "zs")
        rw [upd_upd, putF_one, putF_more _ _ _ (by decide +kernel)]
        exact k3 e1 e2
theorem z_house {h c : Addr} {H : Hp} {fv rv : V} {fd rd : Dt} {Q : VK} {E : XK} (hd : Hd h c H) (r1 : R A.cl h H fv fd) (r2 : R A.cl h H rv rd) (e1 : fd.bet 2 40 = true) (e2 : rd.bet 1 1000000000000 = true)
    (q : ∀ x H', Go h c H H' → H x = none → R A.cl h H' (.ref x) (.ins 0 ["floors", "room"] [fd, rd]) → Q (.ref x) H') :
    newO A.c_House (sp_House___init__ K A) E Q [fv, rv] H := by
  intro x dx nx nd ne
  have g0 := Go.ins0 (o := .ins A.c_House dx []) hd nx nd
  refine ⟨h, x, dx, fv, rv, fd, rd, rfl, upd_same, g0.r r1, g0.r r2, fun z => ?_, fun _ z => ?_, fun _ _ => ⟨rfl, ?_⟩⟩
  · rw [e1] at z
    cases z
  · rw [e2] at z
    cases z
  · exact q x _ (Go.ins hd nx nd) nx (R.newI (cl := A.cl) (k := 0) (ns := ["floors", "room"]) hd nx nd (.cons r1 (.cons r2 .nil)) rfl)
theorem sc__law_caught : FnScope ["room", "found", "e"] ["room"] (defScope s__law_caught) := ⟨rfl, rfl, rfl, by decide +kernel, rfl, by decide +kernel, by decide +kernel⟩
def sp__law_caught (K : PySem.W.Frag) (A : Ad) : Sp := fun vs H Q E =>
  ∃ (h c : Addr) (i : Int), vs = [.int i] ∧ Hd h c H ∧ ∀ p H', H' p = some (.lst [.str "floors", .bl true]) → Q (.ref p) H'
theorem G__law_caught (T : Txt K mg A) : FnOk P w K mg base CX0 5 A.a__law_caught A.d__law_caught ["room"] (sp__law_caught K A) := by
  refine T.F__law_caught.ok sc__law_caught (fun vs H Q E h => ?_) (fun cdv A' outer s H vs Q E hr h => ?_)
  · obtain ⟨_, _, _, rfl, _⟩ := h; rfl
  · obtain ⟨h, c, i, rfl, hd, k⟩ := h
    refine ⟨_, ((pss_cons (ps_set (i := 1) sc__law_caught.nd rfl (Or.inl rfl) (pe_lst pa_nil))
          (pss_cons (ps_try_as (i := 2) (tb := fun W => (tDrop (tMakeS A.c_House (sp_House___init__ K A) (WE W) (tCons (tC (.int 1)) (tCons (tVar 0) tNil))))) (ts := fun a cls d => (tDrop (tBM K "list" rAppend (tVar 1) (tCons (tXf a cls d A.c_BadHouse "part" (tVar 2)) tNil)))) (Wout := fun _ _ _ _ => False) rfl rfl sc__law_caught.nd rfl rfl ⟨rfl, by decide, .inl T.g_LiftError⟩ takes0 (fun W pn xe tk _ => by exact (pss_one (ps_expr (pe_makeS T.mk_House (G_House___init__ T) (hr.mono (by decide)) rfl T.g_House T.b_House___init__ (fun σ => passAt tk σ) (by exact (pa_cons pe_int (pa_cons (pv 0) pa_nil))))))) (fun a oe cls d pn hz hf => by exact (pss_one (ps_expr (pe_bm PySem.F.plainAttrs_list PySem.F.slot_list_append PySem.F.type_list_append mt_append (pv 1) (pa_cons (pe_xf T.xf_BadHouse T.no_BadHouse hz hf (by exact (pv 2))) pa_nil))))))
          (pss_cons (ps_try_as (i := 2) (tb := fun W => (tDrop (tMakeS A.c_House (sp_House___init__ K A) (WE W) (tCons (tC (.int 2)) (tCons (tC (.int 0)) tNil))))) (ts := fun a cls d => (tDrop (tBM K "list" rAppend (tVar 1) (tCons (tCB (fun xs H Q => cls = .ref A.c_BadHouse ∧ rIsP K A.c_BadHouse a d xs H Q) (tCons (tVar 2) (tCons (tC (.ty "ValueError")) tNil))) tNil)))) (Wout := fun _ _ _ _ => False) rfl rfl sc__law_caught.nd rfl rfl ⟨rfl, by decide, .inl T.g_BadHouse⟩ takes0 (fun W pn xe tk _ => by exact (pss_one (ps_expr (pe_makeS T.mk_House (G_House___init__ T) (hr.mono (by decide)) rfl T.g_House T.b_House___init__ (fun σ => passAt tk σ) (by exact (pa_cons pe_int (pa_cons pe_int pa_nil))))))) (fun a oe cls d pn hz hf => by exact (pss_one (ps_expr (pe_bm PySem.F.plainAttrs_list PySem.F.slot_list_append PySem.F.type_list_append mt_append (pv 1) (pa_cons (pe_callB (call_isP (C := A.c_BadHouse) hz hf) (by rfl) T.n_isinstance (by decide +kernel) (pa_cons (pv 2) (pa_cons (pe_bltn (v := .ty "ValueError") (by rfl) T.n_ValueError (by decide +kernel) rfl) pa_nil))) pa_nil))))))
          (pss_one (ps_ret (pv 1))))))), ?_⟩
    dsimp only [cxOf, Cx.nox]
    (walk_at "zs")
    refine z_newL (cl := A.cl) hd .nil fun x1 H1 g1 n1 r1 => ?_
    have hd1 := g1.2 hd
    obtain ⟨_, _, e0, nf, f1, rs1⟩ := r1.lst_inv
    cases e0
    cases rs1
    (walk_at "zs")
    intro x dx nx nd ne
    have g0 := Go.ins0 (o := .ins A.c_House dx []) hd1 nx nd
    have hd2 := g0.2 hd1
    refine ⟨h, x, dx, _, _, .int 1, .int i, rfl, upd_same, .int _, .int _, fun _ d hdn => ?_, fun z => Bool.noConfusion z, fun z => Bool.noConfusion z⟩
    refine ⟨true, T.em_BadHouse_LiftError, fun _ a na => ?_, fun z => Bool.noConfusion z⟩
    have g2 := Go.new (o := .xd [("part", .str "floors")]) hd2 hdn
    have f2 := (g0.trans g2).1 _ _ nf f1
    (walk_at "zs")
    refine ⟨tyVL f2, ?_⟩
    (walk_at "zs")
    refine ⟨rfl, rfl, d, _, _, rfl, upd_same, lk_fst, ?_⟩
    (walk_at "zs")
    refine ⟨x1, _, _, rfl, rfl, f2, by decide, ?_⟩
    (walk_at "zs")
    have hd3 := (g2.2 hd2).put (o := .lst ([] ++ [V.str "floors"])) nf (hd.nec n1)
    generalize hH3 : upd (upd (upd (upd H1 dx (.own x)) x (.ins A.c_House dx [])) d (.xd [("part", V.str "floors")])) x1 (.lst ([] ++ [V.str "floors"])) = H3 at hd3 ⊢
    have f3 : H3 x1 = some (.lst ([] ++ [V.str "floors"])) := by rw [← hH3, upd_same]
    intro y dy ny ndy ney
    have g4 := Go.ins0 (o := .ins A.c_House dy []) hd3 ny ndy
    have hd4 := g4.2 hd3
    refine ⟨h, y, dy, _, _, .int 2, .int 0, rfl, upd_same, .int _, .int _, fun z => Bool.noConfusion z, fun _ _ d hdn => ?_, fun _ z => Bool.noConfusion z⟩
    refine ⟨true, T.em_BadHouse_BadHouse, fun _ a na => ?_, fun z => Bool.noConfusion z⟩
    have g5 := Go.new (o := .xd [("part", .str "room")]) hd4 hdn
    have f5 := (g4.trans g5).1 _ _ nf f3
    (walk_at "zs")
    refine ⟨tyVL f5, ?_⟩
    (walk_at "zs")
    refine ⟨rfl, _, d, _, _, _, true, rfl, T.er_BadHouse, T.ek, rfl, upd_same, .ty _, ?_, ?_⟩
    · rw [kitE_ty T.er_BadHouse (by decide +kernel)]
      have n1 : (Value.type "ValueError" == Value.ref A.c_LiftError) = false := by simp
      rw [List.contains_cons, n1]
      decide +kernel
    (walk_at "zs")
    refine ⟨x1, _, _, rfl, rfl, f5, by decide, ?_⟩
    (walk_at "zs")
    exact k _ _ upd_same
theorem sc__law_flags : FnScope ["e", "found"] ["e"] (defScope s__law_flags) := ⟨rfl, rfl, rfl, by decide +kernel, rfl, by decide +kernel, by decide +kernel⟩
def Ad.exs (A : Ad) : List Addr := [A.c_LiftError, A.c_BadHouse, A.c_BadStanding, A.c_BadLift, A.c_BadGroups, A.c_BadFloor, A.c_BadMove, A.c_TooMany, A.c_BadMoves, A.c_BadLog, A.c_BadGap, A.c_BadNumber, A.c_BadWay, A.c_BadChoice, A.c_NoPlan, A.c_NotGround, A.c_BadPrices, A.c_BadRoom, A.c_BadAnswer, A.c_BadCounts, A.c_BadGroup, A.c_BadNews, A.c_NothingDone, A.c_BadText, A.c_NoLine, A.c_NoName, A.c_BadLoads, A.c_BadFacts, A.c_BadSeen, A.c_BadTree, A.c_BadRoad]
def flg (m : Nat) : List Bool := (List.range 30).map fun j => decide (m = j + 1)
def tl0 : List Value := [.type "ValueError", .type "Exception", .type "BaseException", .type "object"]
theorem er_at (T : Txt K mg A) : ∀ (m : Nat) (C : Addr), A.exs[m]? = some C → ∃ bm, ErrC K C bm ∧ ((m = 0 ∧ bm = tl0) ∨ (m ≠ 0 ∧ bm = .ref A.c_LiftError :: tl0))
  | 0, _, h => by cases h; exact ⟨_, T.er_LiftError, .inl ⟨rfl, rfl⟩⟩
  | 1, _, h => by cases h; exact ⟨_, T.er_BadHouse, .inr ⟨by decide, rfl⟩⟩
  | 2, _, h => by cases h; exact ⟨_, T.er_BadStanding, .inr ⟨by decide, rfl⟩⟩
  | 3, _, h => by cases h; exact ⟨_, T.er_BadLift, .inr ⟨by decide, rfl⟩⟩
  | 4, _, h => by cases h; exact ⟨_, T.er_BadGroups, .inr ⟨by decide, rfl⟩⟩
  | 5, _, h => by cases h; exact ⟨_, T.er_BadFloor, .inr ⟨by decide, rfl⟩⟩
  | 6, _, h => by cases h; exact ⟨_, T.er_BadMove, .inr ⟨by decide, rfl⟩⟩
  | 7, _, h => by cases h; exact ⟨_, T.er_TooMany, .inr ⟨by decide, rfl⟩⟩
  | 8, _, h => by cases h; exact ⟨_, T.er_BadMoves, .inr ⟨by decide, rfl⟩⟩
  | 9, _, h => by cases h; exact ⟨_, T.er_BadLog, .inr ⟨by decide, rfl⟩⟩
  | 10, _, h => by cases h; exact ⟨_, T.er_BadGap, .inr ⟨by decide, rfl⟩⟩
  | 11, _, h => by cases h; exact ⟨_, T.er_BadNumber, .inr ⟨by decide, rfl⟩⟩
  | 12, _, h => by cases h; exact ⟨_, T.er_BadWay, .inr ⟨by decide, rfl⟩⟩
  | 13, _, h => by cases h; exact ⟨_, T.er_BadChoice, .inr ⟨by decide, rfl⟩⟩
  | 14, _, h => by cases h; exact ⟨_, T.er_NoPlan, .inr ⟨by decide, rfl⟩⟩
  | 15, _, h => by cases h; exact ⟨_, T.er_NotGround, .inr ⟨by decide, rfl⟩⟩
  | 16, _, h => by cases h; exact ⟨_, T.er_BadPrices, .inr ⟨by decide, rfl⟩⟩
  | 17, _, h => by cases h; exact ⟨_, T.er_BadRoom, .inr ⟨by decide, rfl⟩⟩
  | 18, _, h => by cases h; exact ⟨_, T.er_BadAnswer, .inr ⟨by decide, rfl⟩⟩
  | 19, _, h => by cases h; exact ⟨_, T.er_BadCounts, .inr ⟨by decide, rfl⟩⟩
  | 20, _, h => by cases h; exact ⟨_, T.er_BadGroup, .inr ⟨by decide, rfl⟩⟩
  | 21, _, h => by cases h; exact ⟨_, T.er_BadNews, .inr ⟨by decide, rfl⟩⟩
  | 22, _, h => by cases h; exact ⟨_, T.er_NothingDone, .inr ⟨by decide, rfl⟩⟩
  | 23, _, h => by cases h; exact ⟨_, T.er_BadText, .inr ⟨by decide, rfl⟩⟩
  | 24, _, h => by cases h; exact ⟨_, T.er_NoLine, .inr ⟨by decide, rfl⟩⟩
  | 25, _, h => by cases h; exact ⟨_, T.er_NoName, .inr ⟨by decide, rfl⟩⟩
  | 26, _, h => by cases h; exact ⟨_, T.er_BadLoads, .inr ⟨by decide, rfl⟩⟩
  | 27, _, h => by cases h; exact ⟨_, T.er_BadFacts, .inr ⟨by decide, rfl⟩⟩
  | 28, _, h => by cases h; exact ⟨_, T.er_BadSeen, .inr ⟨by decide, rfl⟩⟩
  | 29, _, h => by cases h; exact ⟨_, T.er_BadTree, .inr ⟨by decide, rfl⟩⟩
  | 30, _, h => by cases h; exact ⟨_, T.er_BadRoad, .inr ⟨by decide, rfl⟩⟩
  | n + 31, _, h => by simp [Ad.exs] at h
theorem ic_at (T : Txt K mg A) {m : Nat} {C : Addr} (h : A.exs[m]? = some C) : PySem.W.isClsIn K C = true ∧ PySem.W.typeIn K (.ref C) = some (.type "type") := by
  obtain ⟨bm, e, _⟩ := er_at T m C h
  exact ⟨e.ic, e.tyC⟩
theorem isx (T : Txt K mg A) {a C D : Addr} {m j : Nat} {H : Hp} {Q : VK} (hC : A.exs[m]? = some C) (ea : ErA H a C) (hD : A.exs[j + 1]? = some D) (q : Q (.bl (decide (m = j + 1))) H) : rIsX K [.ref a, .ref D] H Q := by
  obtain ⟨bm, E, hb⟩ := er_at T m C hC
  obtain ⟨i1, i2⟩ := ic_at T hD
  have hnd : ndB A.exs = true := T.nd
  refine ⟨a, C, bm, .ref D, .ref D, decide (m = j + 1), rfl, E, T.ek, ea, .own D, ?_, q⟩
  by_cases e : m = j + 1
  · subst e
    rw [hD] at hC
    cases hC
    rw [decide_eq_true rfl]
    exact kitE_same
  · rw [decide_eq_false e]
    have n : C ≠ D := fun z => e (ndB_at hnd hC (z ▸ hD))
    have n0 : D ≠ A.c_LiftError := fun z => by
      have y := ndB_at (i := j + 1) (j := 0) hnd hD (z ▸ rfl)
      cases y
    rw [kitE E i1 i2 n]
    rcases hb with ⟨_, rfl⟩ | ⟨_, rfl⟩
    · rfl
    · have n1 : (Value.ref D == Value.ref A.c_LiftError) = false := by simpa using n0
      rw [List.contains_cons, n1]
      rfl
theorem isL (T : Txt K mg A) {a C : Addr} {m : Nat} {H : Hp} {Q : VK} (hC : A.exs[m]? = some C) (m0 : m ≠ 0) (ea : ErA H a C) (q : Q (.bl true) H) : rIsX K [.ref a, .ref A.c_LiftError] H Q := by
  obtain ⟨bm, E, hb⟩ := er_at T m C hC
  obtain ⟨i1, i2⟩ := ic_at (m := 0) (C := A.c_LiftError) T rfl
  have hnd : ndB A.exs = true := T.nd
  refine ⟨a, C, bm, _, _, true, rfl, E, T.ek, ea, .own _, ?_, q⟩
  have n : C ≠ A.c_LiftError := fun z => m0 (ndB_at hnd hC (z ▸ rfl))
  rw [kitE E i1 i2 n]
  rcases hb with ⟨z, _⟩ | ⟨_, rfl⟩
  · exact absurd z m0
  · rw [List.contains_cons, beq_self_eq_true]
    rfl
theorem isV (T : Txt K mg A) {a C : Addr} {m : Nat} {H : Hp} {Q : VK} (hC : A.exs[m]? = some C) (ea : ErA H a C) (q : Q (.bl true) H) : rIsX K [.ref a, .ty "ValueError"] H Q := by
  obtain ⟨bm, E, hb⟩ := er_at T m C hC
  refine ⟨a, C, bm, _, _, true, rfl, E, T.ek, ea, .ty _, ?_, q⟩
  rw [kitE_ty E (by decide +kernel)]
  rcases hb with ⟨_, rfl⟩ | ⟨_, rfl⟩
  · decide +kernel
  · have n1 : (Value.type "ValueError" == Value.ref A.c_LiftError) = false := by simp
    rw [List.contains_cons, n1]
    decide +kernel
def sp__law_flags (K : PySem.W.Frag) (A : Ad) : Sp := fun vs H Q E =>
  ∃ (a C : Addr) (m : Nat), vs = [.ref a] ∧ A.exs[m]? = some C ∧ ErA H a C ∧ ∀ p H', Same H H' → H p = none → H' p = some (.lst ((flg m).map V.bl)) → Q (.ref p) H'
theorem G__law_flags (T : Txt K mg A) : FnOk P w K mg base CX0 1 A.a__law_flags A.d__law_flags ["e"] (sp__law_flags K A) := by
  refine T.F__law_flags.ok sc__law_flags (fun vs H Q E h => ?_) (fun cdv A' outer s H vs Q E hr h => ?_)
  · obtain ⟨_, _, _, rfl, _⟩ := h; rfl
  · obtain ⟨a, C, m, rfl, hC, ea, k⟩ := h
    refine ⟨_, ((pss_cons (ps_set (i := 1) sc__law_flags.nd rfl (Or.inl rfl) (pe_lst (pa_cons (pe_callB call_isX (by rfl) T.n_isinstance (by decide +kernel) (pa_cons (pv 0) (pa_cons (pe_glob (v := .ref A.c_BadHouse) (by rfl) T.g_BadHouse rfl) pa_nil))) (pa_cons (pe_callB call_isX (by rfl) T.n_isinstance (by decide +kernel) (pa_cons (pv 0) (pa_cons (pe_glob (v := .ref A.c_BadStanding) (by rfl) T.g_BadStanding rfl) pa_nil))) (pa_cons (pe_callB call_isX (by rfl) T.n_isinstance (by decide +kernel) (pa_cons (pv 0) (pa_cons (pe_glob (v := .ref A.c_BadLift) (by rfl) T.g_BadLift rfl) pa_nil))) (pa_cons (pe_callB call_isX (by rfl) T.n_isinstance (by decide +kernel) (pa_cons (pv 0) (pa_cons (pe_glob (v := .ref A.c_BadGroups) (by rfl) T.g_BadGroups rfl) pa_nil))) pa_nil))))))
          (pss_cons (ps_set (i := 1) sc__law_flags.nd rfl (Or.inl rfl) (pe_op op_cat (pv 1) (pe_lst (pa_cons (pe_callB call_isX (by rfl) T.n_isinstance (by decide +kernel) (pa_cons (pv 0) (pa_cons (pe_glob (v := .ref A.c_BadFloor) (by rfl) T.g_BadFloor rfl) pa_nil))) (pa_cons (pe_callB call_isX (by rfl) T.n_isinstance (by decide +kernel) (pa_cons (pv 0) (pa_cons (pe_glob (v := .ref A.c_BadMove) (by rfl) T.g_BadMove rfl) pa_nil))) (pa_cons (pe_callB call_isX (by rfl) T.n_isinstance (by decide +kernel) (pa_cons (pv 0) (pa_cons (pe_glob (v := .ref A.c_TooMany) (by rfl) T.g_TooMany rfl) pa_nil))) (pa_cons (pe_callB call_isX (by rfl) T.n_isinstance (by decide +kernel) (pa_cons (pv 0) (pa_cons (pe_glob (v := .ref A.c_BadMoves) (by rfl) T.g_BadMoves rfl) pa_nil))) pa_nil)))))))
          (pss_cons (ps_set (i := 1) sc__law_flags.nd rfl (Or.inl rfl) (pe_op op_cat (pv 1) (pe_lst (pa_cons (pe_callB call_isX (by rfl) T.n_isinstance (by decide +kernel) (pa_cons (pv 0) (pa_cons (pe_glob (v := .ref A.c_BadLog) (by rfl) T.g_BadLog rfl) pa_nil))) (pa_cons (pe_callB call_isX (by rfl) T.n_isinstance (by decide +kernel) (pa_cons (pv 0) (pa_cons (pe_glob (v := .ref A.c_BadGap) (by rfl) T.g_BadGap rfl) pa_nil))) (pa_cons (pe_callB call_isX (by rfl) T.n_isinstance (by decide +kernel) (pa_cons (pv 0) (pa_cons (pe_glob (v := .ref A.c_BadNumber) (by rfl) T.g_BadNumber rfl) pa_nil))) (pa_cons (pe_callB call_isX (by rfl) T.n_isinstance (by decide +kernel) (pa_cons (pv 0) (pa_cons (pe_glob (v := .ref A.c_BadWay) (by rfl) T.g_BadWay rfl) pa_nil))) pa_nil)))))))
          (pss_cons (ps_set (i := 1) sc__law_flags.nd rfl (Or.inl rfl) (pe_op op_cat (pv 1) (pe_lst (pa_cons (pe_callB call_isX (by rfl) T.n_isinstance (by decide +kernel) (pa_cons (pv 0) (pa_cons (pe_glob (v := .ref A.c_BadChoice) (by rfl) T.g_BadChoice rfl) pa_nil))) (pa_cons (pe_callB call_isX (by rfl) T.n_isinstance (by decide +kernel) (pa_cons (pv 0) (pa_cons (pe_glob (v := .ref A.c_NoPlan) (by rfl) T.g_NoPlan rfl) pa_nil))) (pa_cons (pe_callB call_isX (by rfl) T.n_isinstance (by decide +kernel) (pa_cons (pv 0) (pa_cons (pe_glob (v := .ref A.c_NotGround) (by rfl) T.g_NotGround rfl) pa_nil))) pa_nil))))))
          (pss_cons (ps_set (i := 1) sc__law_flags.nd rfl (Or.inl rfl) (pe_op op_cat (pv 1) (pe_lst (pa_cons (pe_callB call_isX (by rfl) T.n_isinstance (by decide +kernel) (pa_cons (pv 0) (pa_cons (pe_glob (v := .ref A.c_BadPrices) (by rfl) T.g_BadPrices rfl) pa_nil))) (pa_cons (pe_callB call_isX (by rfl) T.n_isinstance (by decide +kernel) (pa_cons (pv 0) (pa_cons (pe_glob (v := .ref A.c_BadRoom) (by rfl) T.g_BadRoom rfl) pa_nil))) (pa_cons (pe_callB call_isX (by rfl) T.n_isinstance (by decide +kernel) (pa_cons (pv 0) (pa_cons (pe_glob (v := .ref A.c_BadAnswer) (by rfl) T.g_BadAnswer rfl) pa_nil))) pa_nil))))))
          (pss_cons (ps_set (i := 1) sc__law_flags.nd rfl (Or.inl rfl) (pe_op op_cat (pv 1) (pe_lst (pa_cons (pe_callB call_isX (by rfl) T.n_isinstance (by decide +kernel) (pa_cons (pv 0) (pa_cons (pe_glob (v := .ref A.c_BadCounts) (by rfl) T.g_BadCounts rfl) pa_nil))) (pa_cons (pe_callB call_isX (by rfl) T.n_isinstance (by decide +kernel) (pa_cons (pv 0) (pa_cons (pe_glob (v := .ref A.c_BadGroup) (by rfl) T.g_BadGroup rfl) pa_nil))) (pa_cons (pe_callB call_isX (by rfl) T.n_isinstance (by decide +kernel) (pa_cons (pv 0) (pa_cons (pe_glob (v := .ref A.c_BadNews) (by rfl) T.g_BadNews rfl) pa_nil))) pa_nil))))))
          (pss_cons (ps_set (i := 1) sc__law_flags.nd rfl (Or.inl rfl) (pe_op op_cat (pv 1) (pe_lst (pa_cons (pe_callB call_isX (by rfl) T.n_isinstance (by decide +kernel) (pa_cons (pv 0) (pa_cons (pe_glob (v := .ref A.c_NothingDone) (by rfl) T.g_NothingDone rfl) pa_nil))) (pa_cons (pe_callB call_isX (by rfl) T.n_isinstance (by decide +kernel) (pa_cons (pv 0) (pa_cons (pe_glob (v := .ref A.c_BadText) (by rfl) T.g_BadText rfl) pa_nil))) (pa_cons (pe_callB call_isX (by rfl) T.n_isinstance (by decide +kernel) (pa_cons (pv 0) (pa_cons (pe_glob (v := .ref A.c_NoLine) (by rfl) T.g_NoLine rfl) pa_nil))) (pa_cons (pe_callB call_isX (by rfl) T.n_isinstance (by decide +kernel) (pa_cons (pv 0) (pa_cons (pe_glob (v := .ref A.c_NoName) (by rfl) T.g_NoName rfl) pa_nil))) pa_nil)))))))
          (pss_cons (ps_set (i := 1) sc__law_flags.nd rfl (Or.inl rfl) (pe_op op_cat (pv 1) (pe_lst (pa_cons (pe_callB call_isX (by rfl) T.n_isinstance (by decide +kernel) (pa_cons (pv 0) (pa_cons (pe_glob (v := .ref A.c_BadLoads) (by rfl) T.g_BadLoads rfl) pa_nil))) (pa_cons (pe_callB call_isX (by rfl) T.n_isinstance (by decide +kernel) (pa_cons (pv 0) (pa_cons (pe_glob (v := .ref A.c_BadFacts) (by rfl) T.g_BadFacts rfl) pa_nil))) (pa_cons (pe_callB call_isX (by rfl) T.n_isinstance (by decide +kernel) (pa_cons (pv 0) (pa_cons (pe_glob (v := .ref A.c_BadSeen) (by rfl) T.g_BadSeen rfl) pa_nil))) (pa_cons (pe_callB call_isX (by rfl) T.n_isinstance (by decide +kernel) (pa_cons (pv 0) (pa_cons (pe_glob (v := .ref A.c_BadTree) (by rfl) T.g_BadTree rfl) pa_nil))) pa_nil)))))))
          (pss_one (ps_ret (pe_op op_cat (pv 1) (pe_lst (pa_cons (pe_callB call_isX (by rfl) T.n_isinstance (by decide +kernel) (pa_cons (pv 0) (pa_cons (pe_glob (v := .ref A.c_BadRoad) (by rfl) T.g_BadRoad rfl) pa_nil))) pa_nil)))))))))))))), ?_⟩
    dsimp only [cxOf, Cx.nox]
    (walk_at "zs")
    refine isx T (j := 0) hC ea rfl ?_
    (walk_at "zs")
    refine isx T (j := 1) hC ea rfl ?_
    (walk_at "zs")
    refine isx T (j := 2) hC ea rfl ?_
    (walk_at "zs")
    refine isx T (j := 3) hC ea rfl ?_
    (walk_at "zs")
    refine z_newS (fun p0 H0 s0 n0 e0 => ?_)
    replace ea := ea.kp s0
    (walk_at "zs")
    have e1 := e0
    have sm := s0
    have nn : H p0 = none := n0
    (walk_at "zs")
    refine isx T (j := 4) hC ea rfl ?_
    (walk_at "zs")
    refine isx T (j := 5) hC ea rfl ?_
    (walk_at "zs")
    refine isx T (j := 6) hC ea rfl ?_
    (walk_at "zs")
    refine isx T (j := 7) hC ea rfl ?_
    (walk_at "zs")
    refine z_newS (fun p2 H2 s2 n2 e2 => ?_)
    replace ea := ea.kp s2
    (walk_at "zs")
    refine z_catS (s2 _ _ e1) e2 (fun p3 H3 s3 n3 e3 => ?_)
    replace ea := ea.kp s3
    replace sm := (sm.trans s2).trans s3
    (walk_at "zs")
    (walk_at "zs")
    refine isx T (j := 8) hC ea rfl ?_
    (walk_at "zs")
    refine isx T (j := 9) hC ea rfl ?_
    (walk_at "zs")
    refine isx T (j := 10) hC ea rfl ?_
    (walk_at "zs")
    refine isx T (j := 11) hC ea rfl ?_
    (walk_at "zs")
    refine z_newS (fun p4 H4 s4 n4 e4 => ?_)
    replace ea := ea.kp s4
    (walk_at "zs")
    refine z_catS (s4 _ _ e3) e4 (fun p5 H5 s5 n5 e5 => ?_)
    replace ea := ea.kp s5
    replace sm := (sm.trans s4).trans s5
    (walk_at "zs")
    (walk_at "zs")
    refine isx T (j := 12) hC ea rfl ?_
    (walk_at "zs")
    refine isx T (j := 13) hC ea rfl ?_
    (walk_at "zs")
    refine isx T (j := 14) hC ea rfl ?_
    (walk_at "zs")
    refine z_newS (fun p6 H6 s6 n6 e6 => ?_)
    replace ea := ea.kp s6
    (walk_at "zs")
    refine z_catS (s6 _ _ e5) e6 (fun p7 H7 s7 n7 e7 => ?_)
    replace ea := ea.kp s7
    replace sm := (sm.trans s6).trans s7
    (walk_at "zs")
    (walk_at "zs")
    refine isx T (j := 15) hC ea rfl ?_
    (walk_at "zs")
    refine isx T (j := 16) hC ea rfl ?_
    (walk_at "zs")
    refine isx T (j := 17) hC ea rfl ?_
    (walk_at "zs")
    refine z_newS (fun p8 H8 s8 n8 e8 => ?_)
    replace ea := ea.kp s8
    (walk_at "zs")
    refine z_catS (s8 _ _ e7) e8 (fun p9 H9 s9 n9 e9 => ?_)
    replace ea := ea.kp s9
    replace sm := (sm.trans s8).trans s9
    (walk_at "zs")
    (walk_at "zs")
    refine isx T (j := 18) hC ea rfl ?_
    (walk_at "zs")
    refine isx T (j := 19) hC ea rfl ?_
    (walk_at "zs")
    refine isx T (j := 20) hC ea rfl ?_
    (walk_at "zs")
    refine z_newS (fun p10 H10 s10 n10 e10 => ?_)
    replace ea := ea.kp s10
    (walk_at "zs")
    refine z_catS (s10 _ _ e9) e10 (fun p11 H11 s11 n11 e11 => ?_)
    replace ea := ea.kp s11
    replace sm := (sm.trans s10).trans s11
    (walk_at "zs")
    (walk_at "zs")
    refine isx T (j := 21) hC ea rfl ?_
    (walk_at "zs")
    refine isx T (j := 22) hC ea rfl ?_
    (walk_at "zs")
    refine isx T (j := 23) hC ea rfl ?_
    (walk_at "zs")
    refine isx T (j := 24) hC ea rfl ?_
    (walk_at "zs")
    refine z_newS (fun p12 H12 s12 n12 e12 => ?_)
    replace ea := ea.kp s12
    (walk_at "zs")
    refine z_catS (s12 _ _ e11) e12 (fun p13 H13 s13 n13 e13 => ?_)
    replace ea := ea.kp s13
    replace sm := (sm.trans s12).trans s13
    (walk_at "zs")
    (walk_at "zs")
    refine isx T (j := 25) hC ea rfl ?_
    (walk_at "zs")
    refine isx T (j := 26) hC ea rfl ?_
    (walk_at "zs")
    refine isx T (j := 27) hC ea rfl ?_
    (walk_at "zs")
    refine isx T (j := 28) hC ea rfl ?_
    (walk_at "zs")
    refine z_newS (fun p14 H14 s14 n14 e14 => ?_)
    replace ea := ea.kp s14
    (walk_at "zs")
    refine z_catS (s14 _ _ e13) e14 (fun p15 H15 s15 n15 e15 => ?_)
    replace ea := ea.kp s15
    replace sm := (sm.trans s14).trans s15
    (walk_at "zs")
    (walk_at "zs")
    refine isx T (j := 29) hC ea rfl ?_
    (walk_at "zs")
    refine z_newS (fun p16 H16 s16 n16 e16 => ?_)
    replace ea := ea.kp s16
    (walk_at "zs")
    refine z_catS (s16 _ _ e15) e16 (fun p17 H17 s17 n17 e17 => ?_)
    replace ea := ea.kp s17
    have sm0 := sm
    replace sm := (sm.trans s16).trans s17
    try (walk_at "zs")
    exact k _ _ sm (((sm0).trans s16).free n17) e17
theorem sc__law_is_kept : FnScope ["told", "thing"] ["told", "thing"] (defScope s__law_is_kept) := ⟨rfl, rfl, rfl, by decide +kernel, rfl, by decide +kernel, by decide +kernel⟩
def sp__law_is_kept (K : PySem.W.Frag) (A : Ad) : Sp := fun vs H Q E =>
  ∃ (h : Addr) (v : V) (d : Dt), vs = [v, v] ∧ R A.cl h H v d ∧ Slf K H v ∧ Q (.bl true) H
theorem G__law_is_kept (T : Txt K mg A) : FnOk P w K mg base CX0 1 A.a__law_is_kept A.d__law_is_kept ["told", "thing"] (sp__law_is_kept K A) := by
  refine T.F__law_is_kept.ok sc__law_is_kept (fun vs H Q E h => ?_) (fun cdv A' outer s H vs Q E hr h => ?_)
  · obtain ⟨_, _, _, rfl, _⟩ := h; rfl
  · obtain ⟨h, v, d, rfl, r, sf, k⟩ := h
    refine ⟨_, ((pss_cons (ps_if (PW.pt (pw_or (pt_cmpR op_ne (pe_callB call_isi (by rfl) T.n_isinstance (by decide +kernel) (pa_cons (pv 0) (pa_cons (pe_bltn (v := .ty "bool") (by rfl) T.n_bool (by decide +kernel) rfl) pa_nil))) (pe_callB call_isi (by rfl) T.n_isinstance (by decide +kernel) (pa_cons (pv 1) (pa_cons (pe_bltn (v := .ty "bool") (by rfl) T.n_bool (by decide +kernel) rfl) pa_nil))) (nomark _)) (pw_or1 (pt_cmpR op_ne (pe_callB call_isi (by rfl) T.n_isinstance (by decide +kernel) (pa_cons (pv 0) (pa_cons (pe_bltn (v := .ty "tuple") (by rfl) T.n_tuple (by decide +kernel) rfl) pa_nil))) (pe_callB call_isi (by rfl) T.n_isinstance (by decide +kernel) (pa_cons (pv 1) (pa_cons (pe_bltn (v := .ty "tuple") (by rfl) T.n_tuple (by decide +kernel) rfl) pa_nil))) (nomark _))))) (pss_one (ps_ret pe_bl)) pss_nil)
          (pss_one (ps_ret (pe_cmpR (op_eqE hr.units) (pv 0) (pv 1) (nomark _)))))), ?_⟩
    dsimp only [cxOf, Cx.nox]
    (walk_at "zs")
    refine isi_bool T.kits r ?_
    (walk_at "zs")
    refine isi_bool T.kits r ?_
    refine z_neBs rfl ?_
    (walk_at "zs")
    refine isi_tup T.kits r ?_
    (walk_at "zs")
    refine isi_tup T.kits r ?_
    refine z_neBs rfl ?_
    (walk_at "zs")
    refine z_eqE sf ?_
    exact k
theorem sc_law : FnScope ["script", "hand", "things", "turn", "base", "thing", "made", "k", "kept", "flags", "told"] ["script"] (defScope s_law) := ⟨rfl, rfl, rfl, by decide +kernel, rfl, by decide +kernel, by decide +kernel⟩
def thg (n : Int) (l1 : Int) : List Dt := [.int 0, .int 1, .int (-1), .bl true, .non, .str "part", .str "", .tup [.str "a", .int 2], .lst [.int 1], .int l1, .dct [.inr "a"] [.int 1], .int n]
theorem slf_str {H : Hp} (x : Str) (hx : PyData.strOk x = true := by decide +kernel) : Slf K H (.str x) := .inl ⟨.str x, .str x, by simp [SeqAt.shaped, PyData.canLay0, PyData.depth, hx], by simp [PyData.eqv]⟩
theorem slf_of {cl : Nat → Addr} {h : Addr} {H : Hp} {v : V} {d : Dt} {n l1 : Int} (r : R cl h H v d) (m : d ∈ thg n l1) : Slf K H v := by
  simp only [thg, List.mem_cons, List.not_mem_nil, or_false] at m
  rcases m with rfl | rfl | rfl | rfl | rfl | rfl | rfl | rfl | rfl | rfl | rfl | rfl
  all_goals try (cases r; exact .inl ⟨_, .int _, rfl, by first | decide +kernel | simp [PyData.eqv]⟩)
  all_goals try (cases r; exact .inl ⟨_, .bl _, rfl, by first | decide +kernel | simp [PyData.eqv]⟩)
  all_goals try (cases r; exact .inl ⟨_, .non, rfl, by first | decide +kernel | simp [PyData.eqv]⟩)
  all_goals try (cases r; exact slf_str _)
  · obtain ⟨a, vs, rfl, _, e, s⟩ := r.tup_inv
    obtain ⟨_, _, rfl, q1, q2⟩ := s.two
    cases q1
    cases q2
    exact .inl ⟨_, .tup (SqT.of e) (.cons (.str _) (.cons (.int _) .nil)), by decide +kernel, by decide +kernel⟩
  · obtain ⟨a, vs, rfl, _, e, s⟩ := r.lst_inv
    obtain ⟨_, rfl, q1⟩ := s.one
    cases q1
    exact .inl ⟨_, .lst (SqL.of e) (.cons (.int _) .nil), by decide +kernel, by decide +kernel⟩
  · cases r with
    | dct na e l s =>
      obtain ⟨_, rfl, q1⟩ := s.one
      cases q1
      refine .inr ⟨_, _, rfl, e, fun p hp => ?_⟩
      simp only [List.zip_cons_cons, List.zip_nil_left, List.mem_cons, List.not_mem_nil, or_false] at hp
      subst hp
      exact ⟨by decide +kernel, rfl⟩
theorem flg_len (m : Nat) : ((flg m).map V.bl).length = 30 := by rw [List.length_map]; unfold flg; rw [List.length_map, List.length_range]
theorem flg_cnt : ∀ m : Fin 30, (flg (m + 1)).count true = 1 := by decide +kernel
theorem flg_at : ∀ m : Fin 30, (flg (m + 1))[m.1]? = some true := by decide +kernel
theorem tab_exs (A : Ad) : A.exs = A.c_LiftError :: A.tab.map (·.1) := rfl
theorem exs_at {A : Ad} {m : Nat} {C : Addr} {f : Option Str} (h : A.tab[m]? = some (C, f)) : A.exs[m + 1]? = some C := by
  rw [tab_exs, List.getElem?_cons_succ, List.getElem?_map, h]
  rfl
def sp_law (K : PySem.W.Frag) (A : Ad) : Sp := fun vs H Q E =>
  spLaw K vs H Q E
theorem G_law (T : Txt K mg A) : FnOk P w K mg base CX0 6 A.a_law A.d_law ["script"] (sp_law K A) := by
  refine T.F_law.ok sc_law (fun vs H Q E h => ?_) (fun cdv A' outer s H vs Q E hr h => ?_)
  · obtain ⟨_, _, rfl, _⟩ := h; rfl
  · obtain ⟨a, ns, rfl, hS, hl, k⟩ := h
    refine ⟨_, ((pss_cons (ps_set (i := 1) sc_law.nd rfl (Or.inl rfl) (pe_call (G__law_hand T) (hr.mono (by decide)) rfl T.g__law_hand T.F__law_hand.kp T.b__law_hand .nil pass0 (pa_cons (pv 0) pa_nil)))
          (pss_cons (ps_set (i := 2) sc_law.nd rfl (Or.inl rfl) (pe_lst (pa_cons pe_int (pa_cons pe_int (pa_cons (pe_un un_neg pe_int) (pa_cons pe_bl (pa_cons pe_non (pa_cons pe_str (pa_cons pe_str (pa_cons (pe_tup (pa_cons pe_str (pa_cons pe_int pa_nil))) (pa_cons (pe_lst (pa_cons pe_int pa_nil)) (pa_cons (pe_op op_pow pe_int pe_int) (pa_cons (pe_disp (pps_cons pe_str pe_int pps_nil) rfl rfl (by simp) (by decide)) (pa_cons (pe_call (G__law_draw T) (hr.mono (by decide)) rfl T.g__law_draw T.F__law_draw.kp T.b__law_draw .nil pass0 (pa_cons (pv 1) (pa_cons pe_int pa_nil))) pa_nil))))))))))))))
          (pss_cons (ps_for PassesOwn.never rfl (pi_range1 (by rfl) T.n_range (pa_cons pe_int pa_nil)) (pg_name (i := 3) sc_law.nd rfl (Or.inl rfl))
          (pss_cons (ps_set (i := 5) sc_law.nd rfl (Or.inr rfl) (pe_ix ix_list (pv 2) (pe_call (G__law_draw T) (hr.mono (by decide)) rfl T.g__law_draw T.F__law_draw.kp T.b__law_draw .nil pass0 (pa_cons (pv 1) (pa_cons (pe_callB call_len_seq (by rfl) T.n_len (by decide +kernel) (pa_cons (pv 2) pa_nil)) pa_nil))) (fun _ _ => rfl)))
          (pss_cons (ps_set (i := 6) sc_law.nd rfl (Or.inl rfl) (pe_call (G__law_made T) (hr.mono (by decide)) rfl T.g__law_made T.F__law_made.kp T.b__law_made .nil pass0 (pa_cons (pv 5) pa_nil)))
          (pss_cons (ps_for PassesOwn.never rfl (pi_range1 (by rfl) T.n_range (pa_cons (pe_callB call_len_seq (by rfl) T.n_len (by decide +kernel) (pa_cons (pv 6) pa_nil)) pa_nil)) (pg_name (i := 7) sc_law.nd rfl (Or.inl rfl))
          (pss_cons (ps_set (i := 9) sc_law.nd rfl (Or.inl rfl) (pe_call (G__law_flags T) (hr.mono (by decide)) rfl T.g__law_flags T.F__law_flags.kp T.b__law_flags .nil pass0 (pa_cons (pe_ix ix_list (pv 6) (pv 7) (fun _ _ => rfl)) pa_nil)))
          (pss_cons (ps_if (PW.pt (pw_or (pt_cmpR op_ne (pe_callB call_len_seq (by rfl) T.n_len (by decide +kernel) (pa_cons (pv 9) pa_nil)) pe_int (nomark _)) (pw_or (pt_cmpR op_ne (pe_bm PySem.F.plainAttrs_list PySem.F.slot_list_count PySem.F.type_list_count mt_lcountB (pv 9) (pa_cons pe_bl pa_nil)) pe_int (nomark _)) (pw_or1 (pt_cmpR op_isnot_bl (pe_ix ix_list (pv 9) (pv 7) (fun _ _ => rfl)) pe_bl (nomark _)))))) (pss_one (ps_ret pe_bl)) pss_nil)
          (pss_one (ps_if (PW.pt (pw_or (pt_not (pt_val (pe_callB call_isX (by rfl) T.n_isinstance (by decide +kernel) (pa_cons (pe_ix ix_list (pv 6) (pv 7) (fun _ _ => rfl)) (pa_cons (pe_glob (v := .ref A.c_LiftError) (by rfl) T.g_LiftError rfl) pa_nil))))) (pw_or1 (pt_not (pt_val (pe_callB call_isX (by rfl) T.n_isinstance (by decide +kernel) (pa_cons (pe_ix ix_list (pv 6) (pv 7) (fun _ _ => rfl)) (pa_cons (pe_bltn (v := .ty "ValueError") (by rfl) T.n_ValueError (by decide +kernel) rfl) pa_nil)))))))) (pss_one (ps_ret pe_bl)) pss_nil)))))
          (pss_cons (ps_set (i := 8) sc_law.nd rfl (Or.inl rfl) (pe_lst (pa_cons (pe_xv (pe_ix ix_list (pv 6) pe_int (fun _ _ => rfl))) (pa_cons (pe_xv (pe_ix ix_list (pv 6) pe_int (fun _ _ => rfl))) (pa_cons (pe_xv (pe_ix ix_list (pv 6) pe_int (fun _ _ => rfl))) (pa_cons (pe_xv (pe_ix ix_list (pv 6) pe_int (fun _ _ => rfl))) (pa_cons (pe_xv (pe_ix ix_list (pv 6) pe_int (fun _ _ => rfl))) (pa_cons (pe_xv (pe_ix ix_list (pv 6) pe_int (fun _ _ => rfl))) pa_nil))))))))
          (pss_cons (ps_set (i := 8) sc_law.nd rfl (Or.inl rfl) (pe_op op_cat (pv 8) (pe_lst (pa_cons (pe_xv (pe_ix ix_list (pv 6) pe_int (fun _ _ => rfl))) (pa_cons (pe_xv (pe_ix ix_list (pv 6) pe_int (fun _ _ => rfl))) (pa_cons (pe_xv (pe_ix ix_list (pv 6) pe_int (fun _ _ => rfl))) pa_nil))))))
          (pss_cons (ps_set (i := 8) sc_law.nd rfl (Or.inl rfl) (pe_op op_cat (pv 8) (pe_lst (pa_cons (pe_xv (pe_ix ix_list (pv 6) pe_int (fun _ _ => rfl))) (pa_cons (pe_xv (pe_ix ix_list (pv 6) pe_int (fun _ _ => rfl))) (pa_cons (pe_xv (pe_ix ix_list (pv 6) pe_int (fun _ _ => rfl))) pa_nil))))))
          (pss_one (ps_if (pt_not (pt_val (pe_callB (cr_all rfl) (by rfl) T.n_all (by decide +kernel) (pa_cons (pe_lc (own := [("told", 10)]) (g := gName 10) rfl sc_law.nd (pi_list (pv 8)) (blkOk_by (own := [("told", 10)]) (N := ["script", "hand", "things", "turn", "base", "thing", "made", "k", "kept", "flags", "told"]) (sc := defScope s_law) (by decide +kernel)) (fun _ _ _ _ _ => (pg_name (i := 10) sc_law.nd rfl (Or.inl rfl))) (fun _ _ _ _ _ => pts_nil) (fun _ _ _ _ _ => (pe_call (G__law_is_kept T) (hr.mono (by decide)) rfl T.g__law_is_kept T.F__law_is_kept.kp T.b__law_is_kept .nil pass0 (pa_cons (pv 10) (pa_cons (pv 5) pa_nil))))) pa_nil)))) (pss_one (ps_ret pe_bl)) pss_nil)))))))))
          (pss_cons (ps_set (i := 4) sc_law.nd rfl (Or.inl rfl) (pe_mkX0 PySem.F.excBase_ValueError T.xc_LiftError T.g_LiftError T.kc_LiftError rfl))
          (pss_cons (ps_if (PW.pt (pw_or (pt_not (pt_val (pe_callB call_isX (by rfl) T.n_isinstance (by decide +kernel) (pa_cons (pv 4) (pa_cons (pe_bltn (v := .ty "ValueError") (by rfl) T.n_ValueError (by decide +kernel) rfl) pa_nil))))) (pw_or1 (pt_cmpR op_in_seq pe_bl (pe_call (G__law_flags T) (hr.mono (by decide)) rfl T.g__law_flags T.F__law_flags.kp T.b__law_flags .nil pass0 (pa_cons (pv 4) pa_nil)) (by rfl))))) (pss_one (ps_ret pe_bl)) pss_nil)
          (pss_one (ps_ret (pe_cmpR (op_eqD hr.units) (pe_call (G__law_caught T) (hr.mono (by decide)) rfl T.g__law_caught T.F__law_caught.kp T.b__law_caught .nil pass0 (pa_cons (pe_op op_add pe_int (pe_call (G__law_draw T) (hr.mono (by decide)) rfl T.g__law_draw T.F__law_draw.kp T.b__law_draw .nil pass0 (pa_cons (pv 1) (pa_cons pe_int pa_nil)))) pa_nil)) (pe_lst (pa_cons pe_str (pa_cons pe_bl pa_nil))) (nomark _)))))))))), ?_⟩
    dsimp only [cxOf, Cx.nox]
    (walk_at "zs")
    refine ⟨a, ns, rfl, hS, hl, fun h c H1 sm hd _ _ => ?_⟩
    (walk_at "zs")
    refine z_newT (cl := A.cl) hd (.cons (.str _) (.cons (.int _) .nil)) fun xT H2 g2 _ rT => ?_
    have hd2 := g2.2 hd
    (walk_at "zs")
    refine z_newL (cl := A.cl) hd2 (.cons (.int _) .nil) fun xL H3 g3 _ rL => ?_
    have hd3 := g3.2 hd2
    (walk_at "zs")
    refine z_pow (n := 1000000000000000000000000000000000000000) ⟨by decide, by decide, by decide⟩ rfl ?_
    (walk_at "zs")
    refine z_disp1 (cl := A.cl) hd3 (.int _) ⟨_, rfl⟩ fun xD H4 g4 _ rD => ?_
    have hd4 := g4.2 hd3
    (walk_at "zs")
    refine ⟨h, c, _, rfl, hd4, by decide, by decide, fun r H5 r0 r1 g5 => ?_⟩
    have hd5 := g5.2 hd4
    (walk_at "zs")
    have g35 := (g3.trans g4).trans g5
    have g45 := g4.trans g5
    refine z_newL hd5 (.cons (.int _) (.cons (.int _) (.cons (.int _) (.cons (.bl _) (.cons .non (.cons (.str _) (.cons (.str _) (.cons (g35.r rT) (.cons (g45.r rL) (.cons (.int _) (.cons (g5.r rD) (.cons (.int _) .nil)))))))))))) fun xs H6 g6 _ r6 => ?_
    have hd6 := g6.2 hd5
    obtain ⟨_, tv, e6, n6, f6, s6⟩ := r6.lst_inv
    cases e6
    have l6 : tv.length = 12 := s6.len
    (walk_at "zs")
    refine ⟨_, rfl, by decide, by decide, for_range (lo := 0) (n := 4) (fun _ σ HH => (∃ u3 u4 u5 u6 u7 u8 u9 u10, σ = [some (.ref a), some (.ref h), some (.ref xs), u3, u4, u5, u6, u7, u8, u9, u10]) ∧ Go h c H6 HH) ⟨⟨_, _, _, _, _, _, _, _, rfl⟩, Go.refl H6⟩ ?_ ?_⟩
    · rintro i σ H7 _ ⟨⟨u3, u4, u5, u6, u7, u8, u9, u10, rfl⟩, g7⟩
      have hd7 := g7.2 hd6
      have f7 := g7.1 _ _ n6 f6
      (walk_at "zs")
      refine ⟨_, _, rfl, .inl (.inl (.inl f7)), ?_⟩
      rw [l6]
      (walk_at "zs")
      refine ⟨h, c, _, rfl, hd7, by decide, by decide, fun r8 H8 r80 r81 g8 => ?_⟩
      have hd8 := g8.2 hd7
      have f8 := g8.1 _ _ n6 f7
      have hi : r8.toNat < tv.length := by rw [l6]; omega
      have at8 : atI tv r8 = some tv[r8.toNat] := by
        have z := atI_nat (xs := tv) (j := r8.toNat) (v := tv[r8.toNat]) (List.getElem?_eq_getElem hi)
        rwa [Int.toNat_of_nonneg r80] at z
      obtain ⟨d, hdd, rv⟩ := s6.atV (List.getElem?_eq_getElem hi)
      have md : d ∈ thg r 1000000000000000000000000000000000000000 := List.mem_of_getElem? hdd
      refine z_ixL (SqL.of f8) at8 ?_
      generalize tv[r8.toNat] = v at rv ⊢
      have rv8 := (g7.trans g8).r rv
      (walk_at "zs")
      refine ⟨h, c, v, rfl, hd8, fun pm ms H9 sm9 f9 n9 es9 => ?_⟩
      have g9 : Go h c H8 H9 := Go.same sm9
      have hd9 := g9.2 hd8
      have lm : ms.length = 30 := es9.len
      (walk_at "zs")
      refine ⟨_, _, rfl, .inl (.inl (.inl f9)), ?_⟩
      rw [lm]
      (walk_at "zs")
      refine ⟨_, rfl, by decide, by decide, for_range (lo := 0) (n := 30) (fun _ σ HH => (∃ u3 u4 u7 u8 u9 u10, σ = [some (.ref a), some (.ref h), some (.ref xs), u3, u4, some v, some (.ref pm), u7, u8, u9, u10]) ∧ Go h c H9 HH) ⟨⟨_, _, _, _, _, _, rfl⟩, Go.refl H9⟩ ?_ ?_⟩
      · rintro kk σ H10 kk30 ⟨⟨w3, w4, w7, w8, w9, w10, rfl⟩, g10⟩
        have f10 := g10.1 _ _ n9 f9
        have es10 := es9.kp g10.1
        obtain ⟨⟨C, fo⟩, htk⟩ : ∃ t, A.tab[kk]? = some t := ⟨_, List.getElem?_eq_getElem (show kk < A.tab.length from kk30)⟩
        obtain ⟨x, hx, ex⟩ := es10.at htk
        obtain ⟨ae, rfl, eae⟩ := ex.er
        have hC := exs_at htk
        have atk : atI ms (0 + (kk : Int)) = some (.ref ae) := by rw [Int.zero_add]; exact atI_nat hx
        (walk_at "zs")
        refine z_ixL (SqL.of f10) atk ?_
        refine ⟨ae, C, kk + 1, rfl, hC, eae, fun pf H11 s11 n11 f11 => ?_⟩
        have g11 : Go h c H10 H11 := Go.same s11
        (walk_at "zs")
        refine ⟨_, _, rfl, .inl (.inl (.inl f11)), ?_⟩
        rw [flg_len]
        (walk_at "zs")
        refine z_iteD (fun z => absurd rfl z) (fun _ => ?_)
        (walk_at "zs")
        refine ⟨tyVL f11, ?_⟩
        (walk_at "zs")
        refine ⟨pf, flg (kk + 1), true, rfl, rfl, SqL.of f11, ?_⟩
        rw [flg_cnt ⟨kk, kk30⟩]
        (walk_at "zs")
        refine z_iteD (fun z => absurd rfl z) (fun _ => ?_)
        (walk_at "zs")
        refine z_ixL (v := .bl true) (SqL.of f11) (by rw [Int.zero_add]; exact atI_nat (by rw [List.getElem?_map, flg_at ⟨kk, kk30⟩]; rfl)) ?_
        (walk_at "zs")
        refine ⟨true, true, rfl, rfl, ?_⟩
        (walk_at "zs")
        refine z_iteD (fun z => absurd rfl z) (fun _ => ?_)
        (walk_at "zs")
        refine z_ixL (SqL.of (s11 _ _ f10)) atk ?_
        (walk_at "zs")
        refine isL T hC (Nat.succ_ne_zero _) (eae.kp s11) ?_
        (walk_at "zs")
        refine z_ixL (SqL.of (s11 _ _ f10)) atk ?_
        (walk_at "zs")
        refine isV T hC (eae.kp s11) ?_
        (walk_at "zs")
        exact ⟨⟨_, _, _, _, _, _, rfl⟩, g10.trans g11⟩
      · rintro σ H10 ⟨⟨w3, w4, w7, w8, w9, w10, rfl⟩, g10⟩
        have f10 := g10.1 _ _ n9 f9
        have es10 := es9.kp g10.1
        (walk_at "zs")
        refine z_fx (i := 0) T.er_BadHouse T.no_BadHouse rfl f10 es10 rfl ?_
        (walk_at "zs")
        refine z_fx (i := 1) T.er_BadStanding T.no_BadStanding rfl f10 es10 rfl ?_
        (walk_at "zs")
        refine z_fx (i := 3) T.er_BadGroups T.no_BadGroups rfl f10 es10 rfl ?_
        (walk_at "zs")
        refine z_fx (i := 6) T.er_TooMany T.no_TooMany rfl f10 es10 rfl ?_
        (walk_at "zs")
        refine z_fx (i := 7) T.er_BadMoves T.no_BadMoves rfl f10 es10 rfl ?_
        (walk_at "zs")
        refine z_fx (i := 12) T.er_BadChoice T.no_BadChoice rfl f10 es10 rfl ?_
        (walk_at "zs")
        refine z_newS (fun q1 H11 s11 n11 k11 => ?_)
        have f11 := s11 _ _ f10
        have es11 := es10.kp (kpS s11)
        (walk_at "zs")
        refine z_fx (i := 20) T.er_BadNews T.no_BadNews rfl f11 es11 rfl ?_
        (walk_at "zs")
        refine z_fx (i := 22) T.er_BadText T.no_BadText rfl f11 es11 rfl ?_
        (walk_at "zs")
        refine z_fx (i := 24) T.er_NoName T.no_NoName rfl f11 es11 rfl ?_
        (walk_at "zs")
        refine z_newS (fun q2 H12 s12 n12 k12 => ?_)
        (walk_at "zs")
        refine z_catS (s12 _ _ k11) k12 (fun q3 H13 s13 n13 k13 => ?_)
        have f13 := s13 _ _ (s12 _ _ f11)
        have es13 := (es11.kp (kpS s12)).kp (kpS s13)
        (walk_at "zs")
        refine z_fx (i := 26) T.er_BadFacts T.no_BadFacts rfl f13 es13 rfl ?_
        (walk_at "zs")
        refine z_fx (i := 27) T.er_BadSeen T.no_BadSeen rfl f13 es13 rfl ?_
        (walk_at "zs")
        refine z_fx (i := 28) T.er_BadTree T.no_BadTree rfl f13 es13 rfl ?_
        (walk_at "zs")
        refine z_newS (fun q4 H14 s14 n14 k14 => ?_)
        (walk_at "zs")
        refine z_catS (s14 _ _ k13) k14 (fun q5 H15 s15 n15 k15 => ?_)
        have g15 : Go h c H10 H15 := Go.same ((((s11.trans s12).trans s13).trans s14).trans s15)
        have g915 := g10.trans g15
        have rv15 := g915.r (g9.r rv8)
        have k15' : H15 q5 = some (.lst (List.replicate 12 v)) := k15
        (walk_at "zs")
        refine ⟨q5, rfl, ⟨_, SqL.of k15'⟩, fun D hD => lc_list (xs := List.replicate 12 v) (fun i H2 => H2 D = some (.lst ((List.replicate i true).map V.bl)) ∧ Same H15 H2) ⟨upd_same, sameU hD⟩ (fun i H2 _ p => SqL.of (p.2 _ _ k15')) ?_ ?_⟩
        · intro i x H2 hx p
          have ev : x = v := (List.mem_replicate.mp (List.mem_of_getElem? hx)).2
          subst ev
          have il : i < 12 := by
            have := (List.getElem?_eq_some_iff.mp hx).1
            rwa [List.length_replicate] at this
          refine z_gname ⟨rfl, ?_⟩
          (walk_at "zs")
          have r2 := rv15.kp (kpS p.2)
          refine ⟨h, x, d, rfl, r2, slf_of r2 md, ?_⟩
          refine ⟨_, p.1, ?_, ?_, fun q o e => ?_⟩
          · rw [List.length_map, List.length_replicate]
            exact Nat.lt_trans il (by decide)
          · rw [upd_same, List.replicate_succ', List.map_append]
            rfl
          · rw [upd_ne (ne_of_none e hD)]
            exact p.2 q o e
        · intro H2 p
          rw [List.length_replicate] at p
          (walk_at "zs")
          refine ⟨D, List.replicate 12 true, rfl, SqL.of p.1, ?_⟩
          (walk_at "zs")
          exact ⟨⟨_, _, _, _, _, _, _, _, rfl⟩, (((g7.trans g8).trans g9).trans g915).trans (Go.same p.2)⟩
    · rintro σ H7 ⟨⟨u3, u4, u5, u6, u7, u8, u9, u10, rfl⟩, g7⟩
      have hd7 := g7.2 hd6
      (walk_at "zs")
      intro xb nb
      have hd8 := hd7.put (o := exo xb A.c_LiftError none) (hd7.ne nb) (hd7.nec nb)
      (walk_at "zs")
      refine isV T (m := 0) (C := A.c_LiftError) rfl (.inl upd_same) ?_
      (walk_at "zs")
      refine ⟨xb, A.c_LiftError, 0, rfl, rfl, .inl upd_same, fun pf H9 s9 n9 f9 => ?_⟩
      have hd9 := (Go.same (h := h) (c := c) s9).2 hd8
      refine ⟨pf, (flg 0).map V.bl, rfl, .inl (SqL.of f9), rfl, by decide +kernel, ?_⟩
      rw [show inV (.bl true) ((flg 0).map V.bl) = false from by decide +kernel]
      (walk_at "zs")
      rw [if_neg Bool.false_ne_true, if_neg Bool.false_ne_true]
      (walk_at "zs")
      refine ⟨h, c, _, rfl, hd9, by decide, by decide, fun r10 H10 r100 r101 g10 => ?_⟩
      (walk_at "zs")
      refine ⟨h, c, _, rfl, g10.2 hd9, fun pc H11 f11 => ?_⟩
      (walk_at "zs")
      refine z_newS (fun pd H12 s12 n12 f12 => ?_)
      refine ⟨.list [.str "floors", .bool true], .list [.str "floors", .bool true], .lst (SqL.of (s12 _ _ f11)) (.cons (.str _) (.cons (.bl _) .nil)), .lst (SqL.of f12) (.cons (.str _) (.cons (.bl _) .nil)), by decide +kernel, by decide +kernel, ?_⟩
      rw [show PyData.eqv (.list [.str "floors", .bool true]) (.list [.str "floors", .bool true]) = true from by decide +kernel]
      exact k _
end
theorem all_mk {P : Program} {w : World} {K : PySem.W.Frag} {h : Heap} {mg : Str → Option Value} (X : K.In h) (G : h.Ns mainGlobals mg) {fa : Addr} (hfa : mg "law" = some (.ref fa))
    (hl_MOST_ROOM : ∃ t, mg "MOST_ROOM" = some (.int 1000000000000 t))
    {c_LiftError c_BadHouse c_BadStanding c_BadLift c_BadGroups c_BadFloor c_BadMove c_TooMany c_BadMoves c_BadLog c_BadGap c_BadNumber c_BadWay c_BadChoice c_NoPlan c_NotGround c_BadPrices c_BadRoom c_BadAnswer c_BadCounts c_BadGroup c_BadNews c_NothingDone c_BadText c_NoLine c_NoName c_BadLoads c_BadFacts c_BadSeen c_BadTree c_BadRoad c_House a__law_hand a__law_draw a_BadHouse___init__ a_BadStanding___init__ a_BadGroups___init__ a_TooMany___init__ a_BadMoves___init__ a_BadChoice___init__ a_BadNews___init__ a_BadText___init__ a_NoName___init__ a_BadFacts___init__ a_BadSeen___init__ a_BadTree___init__ a__law_made a_is_integer a_is_between a_House___init__ a__law_caught a__law_flags a__law_is_kept a_law : Addr} {od__law_hand an__law_hand od__law_draw an__law_draw od_BadHouse___init__ an_BadHouse___init__ od_BadStanding___init__ an_BadStanding___init__ od_BadGroups___init__ an_BadGroups___init__ od_TooMany___init__ an_TooMany___init__ od_BadMoves___init__ an_BadMoves___init__ od_BadChoice___init__ an_BadChoice___init__ od_BadNews___init__ an_BadNews___init__ od_BadText___init__ an_BadText___init__ od_NoName___init__ an_NoName___init__ od_BadFacts___init__ an_BadFacts___init__ od_BadSeen___init__ an_BadSeen___init__ od_BadTree___init__ an_BadTree___init__ od__law_made an__law_made od_is_integer an_is_integer od_is_between an_is_between od_House___init__ an_House___init__ od__law_caught an__law_caught od__law_flags an__law_flags od__law_is_kept an__law_is_kept od_law an_law : Option Addr} {sl__law_hand sl__law_draw sl_BadHouse___init__ sl_BadStanding___init__ sl_BadGroups___init__ sl_TooMany___init__ sl_BadMoves___init__ sl_BadChoice___init__ sl_BadNews___init__ sl_BadText___init__ sl_NoName___init__ sl_BadFacts___init__ sl_BadSeen___init__ sl_BadTree___init__ sl__law_made sl_is_integer sl_is_between sl_House___init__ sl__law_caught sl__law_flags sl__law_is_kept sl_law : Array (Option Value)} {oc__law_hand kV__law_hand dc__law_hand pm__law_hand cd__law_hand ct__law_hand oc__law_draw kV__law_draw dc__law_draw pm__law_draw cd__law_draw ct__law_draw oc_BadHouse___init__ kV_BadHouse___init__ dc_BadHouse___init__ pm_BadHouse___init__ cd_BadHouse___init__ ct_BadHouse___init__ oc_BadStanding___init__ kV_BadStanding___init__ dc_BadStanding___init__ pm_BadStanding___init__ cd_BadStanding___init__ ct_BadStanding___init__ oc_BadGroups___init__ kV_BadGroups___init__ dc_BadGroups___init__ pm_BadGroups___init__ cd_BadGroups___init__ ct_BadGroups___init__ oc_TooMany___init__ kV_TooMany___init__ dc_TooMany___init__ pm_TooMany___init__ cd_TooMany___init__ ct_TooMany___init__ oc_BadMoves___init__ kV_BadMoves___init__ dc_BadMoves___init__ pm_BadMoves___init__ cd_BadMoves___init__ ct_BadMoves___init__ oc_BadChoice___init__ kV_BadChoice___init__ dc_BadChoice___init__ pm_BadChoice___init__ cd_BadChoice___init__ ct_BadChoice___init__ oc_BadNews___init__ kV_BadNews___init__ dc_BadNews___init__ pm_BadNews___init__ cd_BadNews___init__ ct_BadNews___init__ oc_BadText___init__ kV_BadText___init__ dc_BadText___init__ pm_BadText___init__ cd_BadText___init__ ct_BadText___init__ oc_NoName___init__ kV_NoName___init__ dc_NoName___init__ pm_NoName___init__ cd_NoName___init__ ct_NoName___init__ oc_BadFacts___init__ kV_BadFacts___init__ dc_BadFacts___init__ pm_BadFacts___init__ cd_BadFacts___init__ ct_BadFacts___init__ oc_BadSeen___init__ kV_BadSeen___init__ dc_BadSeen___init__ pm_BadSeen___init__ cd_BadSeen___init__ ct_BadSeen___init__ oc_BadTree___init__ kV_BadTree___init__ dc_BadTree___init__ pm_BadTree___init__ cd_BadTree___init__ ct_BadTree___init__ oc__law_made kV__law_made dc__law_made pm__law_made cd__law_made ct__law_made oc_is_integer kV_is_integer dc_is_integer pm_is_integer cd_is_integer ct_is_integer oc_is_between kV_is_between dc_is_between pm_is_between cd_is_between ct_is_between oc_House___init__ kV_House___init__ dc_House___init__ pm_House___init__ cd_House___init__ ct_House___init__ oc__law_caught kV__law_caught dc__law_caught pm__law_caught cd__law_caught ct__law_caught oc__law_flags kV__law_flags dc__law_flags pm__law_flags cd__law_flags ct__law_flags oc__law_is_kept kV__law_is_kept dc__law_is_kept pm__law_is_kept cd__law_is_kept ct__law_is_kept oc_law kV_law dc_law pm_law cd_law ct_law : Value} {tv_MOST_FLOORS : Tok}
    {nm_LiftError q_LiftError : Str} {N_LiftError : Addr} {bs_LiftError : List Value} {sn_LiftError : List Str} {sub_LiftError : List Value} {ab_LiftError : Bool} {col_LiftError : Option Bool} {dd_LiftError : Option Addr} {m0_LiftError m1_LiftError m2_LiftError m3_LiftError m5_LiftError : Option Value}
    {nm_BadHouse q_BadHouse : Str} {N_BadHouse : Addr} {bs_BadHouse : List Value} {sn_BadHouse : List Str} {sub_BadHouse : List Value} {ab_BadHouse : Bool} {col_BadHouse : Option Bool} {dd_BadHouse : Option Addr} {m0_BadHouse m1_BadHouse m2_BadHouse m3_BadHouse m5_BadHouse : Option Value}
    {nm_BadStanding q_BadStanding : Str} {N_BadStanding : Addr} {bs_BadStanding : List Value} {sn_BadStanding : List Str} {sub_BadStanding : List Value} {ab_BadStanding : Bool} {col_BadStanding : Option Bool} {dd_BadStanding : Option Addr} {m0_BadStanding m1_BadStanding m2_BadStanding m3_BadStanding m5_BadStanding : Option Value}
    {nm_BadLift q_BadLift : Str} {N_BadLift : Addr} {bs_BadLift : List Value} {sn_BadLift : List Str} {sub_BadLift : List Value} {ab_BadLift : Bool} {col_BadLift : Option Bool} {dd_BadLift : Option Addr} {m0_BadLift m1_BadLift m2_BadLift m3_BadLift m5_BadLift : Option Value}
    {nm_BadGroups q_BadGroups : Str} {N_BadGroups : Addr} {bs_BadGroups : List Value} {sn_BadGroups : List Str} {sub_BadGroups : List Value} {ab_BadGroups : Bool} {col_BadGroups : Option Bool} {dd_BadGroups : Option Addr} {m0_BadGroups m1_BadGroups m2_BadGroups m3_BadGroups m5_BadGroups : Option Value}
    {nm_BadFloor q_BadFloor : Str} {N_BadFloor : Addr} {bs_BadFloor : List Value} {sn_BadFloor : List Str} {sub_BadFloor : List Value} {ab_BadFloor : Bool} {col_BadFloor : Option Bool} {dd_BadFloor : Option Addr} {m0_BadFloor m1_BadFloor m2_BadFloor m3_BadFloor m5_BadFloor : Option Value}
    {nm_BadMove q_BadMove : Str} {N_BadMove : Addr} {bs_BadMove : List Value} {sn_BadMove : List Str} {sub_BadMove : List Value} {ab_BadMove : Bool} {col_BadMove : Option Bool} {dd_BadMove : Option Addr} {m0_BadMove m1_BadMove m2_BadMove m3_BadMove m5_BadMove : Option Value}
    {nm_TooMany q_TooMany : Str} {N_TooMany : Addr} {bs_TooMany : List Value} {sn_TooMany : List Str} {sub_TooMany : List Value} {ab_TooMany : Bool} {col_TooMany : Option Bool} {dd_TooMany : Option Addr} {m0_TooMany m1_TooMany m2_TooMany m3_TooMany m5_TooMany : Option Value}
    {nm_BadMoves q_BadMoves : Str} {N_BadMoves : Addr} {bs_BadMoves : List Value} {sn_BadMoves : List Str} {sub_BadMoves : List Value} {ab_BadMoves : Bool} {col_BadMoves : Option Bool} {dd_BadMoves : Option Addr} {m0_BadMoves m1_BadMoves m2_BadMoves m3_BadMoves m5_BadMoves : Option Value}
    {nm_BadLog q_BadLog : Str} {N_BadLog : Addr} {bs_BadLog : List Value} {sn_BadLog : List Str} {sub_BadLog : List Value} {ab_BadLog : Bool} {col_BadLog : Option Bool} {dd_BadLog : Option Addr} {m0_BadLog m1_BadLog m2_BadLog m3_BadLog m5_BadLog : Option Value}
    {nm_BadGap q_BadGap : Str} {N_BadGap : Addr} {bs_BadGap : List Value} {sn_BadGap : List Str} {sub_BadGap : List Value} {ab_BadGap : Bool} {col_BadGap : Option Bool} {dd_BadGap : Option Addr} {m0_BadGap m1_BadGap m2_BadGap m3_BadGap m5_BadGap : Option Value}
    {nm_BadNumber q_BadNumber : Str} {N_BadNumber : Addr} {bs_BadNumber : List Value} {sn_BadNumber : List Str} {sub_BadNumber : List Value} {ab_BadNumber : Bool} {col_BadNumber : Option Bool} {dd_BadNumber : Option Addr} {m0_BadNumber m1_BadNumber m2_BadNumber m3_BadNumber m5_BadNumber : Option Value}
    {nm_BadWay q_BadWay : Str} {N_BadWay : Addr} {bs_BadWay : List Value} {sn_BadWay : List Str} {sub_BadWay : List Value} {ab_BadWay : Bool} {col_BadWay : Option Bool} {dd_BadWay : Option Addr} {m0_BadWay m1_BadWay m2_BadWay m3_BadWay m5_BadWay : Option Value}
    {nm_BadChoice q_BadChoice : Str} {N_BadChoice : Addr} {bs_BadChoice : List Value} {sn_BadChoice : List Str} {sub_BadChoice : List Value} {ab_BadChoice : Bool} {col_BadChoice : Option Bool} {dd_BadChoice : Option Addr} {m0_BadChoice m1_BadChoice m2_BadChoice m3_BadChoice m5_BadChoice : Option Value}
    {nm_NoPlan q_NoPlan : Str} {N_NoPlan : Addr} {bs_NoPlan : List Value} {sn_NoPlan : List Str} {sub_NoPlan : List Value} {ab_NoPlan : Bool} {col_NoPlan : Option Bool} {dd_NoPlan : Option Addr} {m0_NoPlan m1_NoPlan m2_NoPlan m3_NoPlan m5_NoPlan : Option Value}
    {nm_NotGround q_NotGround : Str} {N_NotGround : Addr} {bs_NotGround : List Value} {sn_NotGround : List Str} {sub_NotGround : List Value} {ab_NotGround : Bool} {col_NotGround : Option Bool} {dd_NotGround : Option Addr} {m0_NotGround m1_NotGround m2_NotGround m3_NotGround m5_NotGround : Option Value}
    {nm_BadPrices q_BadPrices : Str} {N_BadPrices : Addr} {bs_BadPrices : List Value} {sn_BadPrices : List Str} {sub_BadPrices : List Value} {ab_BadPrices : Bool} {col_BadPrices : Option Bool} {dd_BadPrices : Option Addr} {m0_BadPrices m1_BadPrices m2_BadPrices m3_BadPrices m5_BadPrices : Option Value}
    {nm_BadRoom q_BadRoom : Str} {N_BadRoom : Addr} {bs_BadRoom : List Value} {sn_BadRoom : List Str} {sub_BadRoom : List Value} {ab_BadRoom : Bool} {col_BadRoom : Option Bool} {dd_BadRoom : Option Addr} {m0_BadRoom m1_BadRoom m2_BadRoom m3_BadRoom m5_BadRoom : Option Value}
    {nm_BadAnswer q_BadAnswer : Str} {N_BadAnswer : Addr} {bs_BadAnswer : List Value} {sn_BadAnswer : List Str} {sub_BadAnswer : List Value} {ab_BadAnswer : Bool} {col_BadAnswer : Option Bool} {dd_BadAnswer : Option Addr} {m0_BadAnswer m1_BadAnswer m2_BadAnswer m3_BadAnswer m5_BadAnswer : Option Value}
    {nm_BadCounts q_BadCounts : Str} {N_BadCounts : Addr} {bs_BadCounts : List Value} {sn_BadCounts : List Str} {sub_BadCounts : List Value} {ab_BadCounts : Bool} {col_BadCounts : Option Bool} {dd_BadCounts : Option Addr} {m0_BadCounts m1_BadCounts m2_BadCounts m3_BadCounts m5_BadCounts : Option Value}
    {nm_BadGroup q_BadGroup : Str} {N_BadGroup : Addr} {bs_BadGroup : List Value} {sn_BadGroup : List Str} {sub_BadGroup : List Value} {ab_BadGroup : Bool} {col_BadGroup : Option Bool} {dd_BadGroup : Option Addr} {m0_BadGroup m1_BadGroup m2_BadGroup m3_BadGroup m5_BadGroup : Option Value}
    {nm_BadNews q_BadNews : Str} {N_BadNews : Addr} {bs_BadNews : List Value} {sn_BadNews : List Str} {sub_BadNews : List Value} {ab_BadNews : Bool} {col_BadNews : Option Bool} {dd_BadNews : Option Addr} {m0_BadNews m1_BadNews m2_BadNews m3_BadNews m5_BadNews : Option Value}
    {nm_NothingDone q_NothingDone : Str} {N_NothingDone : Addr} {bs_NothingDone : List Value} {sn_NothingDone : List Str} {sub_NothingDone : List Value} {ab_NothingDone : Bool} {col_NothingDone : Option Bool} {dd_NothingDone : Option Addr} {m0_NothingDone m1_NothingDone m2_NothingDone m3_NothingDone m5_NothingDone : Option Value}
    {nm_BadText q_BadText : Str} {N_BadText : Addr} {bs_BadText : List Value} {sn_BadText : List Str} {sub_BadText : List Value} {ab_BadText : Bool} {col_BadText : Option Bool} {dd_BadText : Option Addr} {m0_BadText m1_BadText m2_BadText m3_BadText m5_BadText : Option Value}
    {nm_NoLine q_NoLine : Str} {N_NoLine : Addr} {bs_NoLine : List Value} {sn_NoLine : List Str} {sub_NoLine : List Value} {ab_NoLine : Bool} {col_NoLine : Option Bool} {dd_NoLine : Option Addr} {m0_NoLine m1_NoLine m2_NoLine m3_NoLine m5_NoLine : Option Value}
    {nm_NoName q_NoName : Str} {N_NoName : Addr} {bs_NoName : List Value} {sn_NoName : List Str} {sub_NoName : List Value} {ab_NoName : Bool} {col_NoName : Option Bool} {dd_NoName : Option Addr} {m0_NoName m1_NoName m2_NoName m3_NoName m5_NoName : Option Value}
    {nm_BadLoads q_BadLoads : Str} {N_BadLoads : Addr} {bs_BadLoads : List Value} {sn_BadLoads : List Str} {sub_BadLoads : List Value} {ab_BadLoads : Bool} {col_BadLoads : Option Bool} {dd_BadLoads : Option Addr} {m0_BadLoads m1_BadLoads m2_BadLoads m3_BadLoads m5_BadLoads : Option Value}
    {nm_BadFacts q_BadFacts : Str} {N_BadFacts : Addr} {bs_BadFacts : List Value} {sn_BadFacts : List Str} {sub_BadFacts : List Value} {ab_BadFacts : Bool} {col_BadFacts : Option Bool} {dd_BadFacts : Option Addr} {m0_BadFacts m1_BadFacts m2_BadFacts m3_BadFacts m5_BadFacts : Option Value}
    {nm_BadSeen q_BadSeen : Str} {N_BadSeen : Addr} {bs_BadSeen : List Value} {sn_BadSeen : List Str} {sub_BadSeen : List Value} {ab_BadSeen : Bool} {col_BadSeen : Option Bool} {dd_BadSeen : Option Addr} {m0_BadSeen m1_BadSeen m2_BadSeen m3_BadSeen m5_BadSeen : Option Value}
    {nm_BadTree q_BadTree : Str} {N_BadTree : Addr} {bs_BadTree : List Value} {sn_BadTree : List Str} {sub_BadTree : List Value} {ab_BadTree : Bool} {col_BadTree : Option Bool} {dd_BadTree : Option Addr} {m0_BadTree m1_BadTree m2_BadTree m3_BadTree m5_BadTree : Option Value}
    {nm_BadRoad q_BadRoad : Str} {N_BadRoad : Addr} {bs_BadRoad : List Value} {sn_BadRoad : List Str} {sub_BadRoad : List Value} {ab_BadRoad : Bool} {col_BadRoad : Option Bool} {dd_BadRoad : Option Addr} {m0_BadRoad m1_BadRoad m2_BadRoad m3_BadRoad m5_BadRoad : Option Value}
    (gC_LiftError : PySem.W.nsIn K mainGlobals "LiftError" = some (some (.ref c_LiftError)))
    (gC_BadHouse : PySem.W.nsIn K mainGlobals "BadHouse" = some (some (.ref c_BadHouse)))
    (gC_BadStanding : PySem.W.nsIn K mainGlobals "BadStanding" = some (some (.ref c_BadStanding)))
    (gC_BadLift : PySem.W.nsIn K mainGlobals "BadLift" = some (some (.ref c_BadLift)))
    (gC_BadGroups : PySem.W.nsIn K mainGlobals "BadGroups" = some (some (.ref c_BadGroups)))
    (gC_BadFloor : PySem.W.nsIn K mainGlobals "BadFloor" = some (some (.ref c_BadFloor)))
    (gC_BadMove : PySem.W.nsIn K mainGlobals "BadMove" = some (some (.ref c_BadMove)))
    (gC_TooMany : PySem.W.nsIn K mainGlobals "TooMany" = some (some (.ref c_TooMany)))
    (gC_BadMoves : PySem.W.nsIn K mainGlobals "BadMoves" = some (some (.ref c_BadMoves)))
    (gC_BadLog : PySem.W.nsIn K mainGlobals "BadLog" = some (some (.ref c_BadLog)))
    (gC_BadGap : PySem.W.nsIn K mainGlobals "BadGap" = some (some (.ref c_BadGap)))
    (gC_BadNumber : PySem.W.nsIn K mainGlobals "BadNumber" = some (some (.ref c_BadNumber)))
    (gC_BadWay : PySem.W.nsIn K mainGlobals "BadWay" = some (some (.ref c_BadWay)))
    (gC_BadChoice : PySem.W.nsIn K mainGlobals "BadChoice" = some (some (.ref c_BadChoice)))
    (gC_NoPlan : PySem.W.nsIn K mainGlobals "NoPlan" = some (some (.ref c_NoPlan)))
    (gC_NotGround : PySem.W.nsIn K mainGlobals "NotGround" = some (some (.ref c_NotGround)))
    (gC_BadPrices : PySem.W.nsIn K mainGlobals "BadPrices" = some (some (.ref c_BadPrices)))
    (gC_BadRoom : PySem.W.nsIn K mainGlobals "BadRoom" = some (some (.ref c_BadRoom)))
    (gC_BadAnswer : PySem.W.nsIn K mainGlobals "BadAnswer" = some (some (.ref c_BadAnswer)))
    (gC_BadCounts : PySem.W.nsIn K mainGlobals "BadCounts" = some (some (.ref c_BadCounts)))
    (gC_BadGroup : PySem.W.nsIn K mainGlobals "BadGroup" = some (some (.ref c_BadGroup)))
    (gC_BadNews : PySem.W.nsIn K mainGlobals "BadNews" = some (some (.ref c_BadNews)))
    (gC_NothingDone : PySem.W.nsIn K mainGlobals "NothingDone" = some (some (.ref c_NothingDone)))
    (gC_BadText : PySem.W.nsIn K mainGlobals "BadText" = some (some (.ref c_BadText)))
    (gC_NoLine : PySem.W.nsIn K mainGlobals "NoLine" = some (some (.ref c_NoLine)))
    (gC_NoName : PySem.W.nsIn K mainGlobals "NoName" = some (some (.ref c_NoName)))
    (gC_BadLoads : PySem.W.nsIn K mainGlobals "BadLoads" = some (some (.ref c_BadLoads)))
    (gC_BadFacts : PySem.W.nsIn K mainGlobals "BadFacts" = some (some (.ref c_BadFacts)))
    (gC_BadSeen : PySem.W.nsIn K mainGlobals "BadSeen" = some (some (.ref c_BadSeen)))
    (gC_BadTree : PySem.W.nsIn K mainGlobals "BadTree" = some (some (.ref c_BadTree)))
    (gC_BadRoad : PySem.W.nsIn K mainGlobals "BadRoad" = some (some (.ref c_BadRoad)))
    (gC_House : PySem.W.nsIn K mainGlobals "House" = some (some (.ref c_House)))
    (hA__law_hand : PySem.W.nsIn K mainGlobals "_law_hand" = some (some (.ref a__law_hand)))
    (hL__law_hand : K.lookup a__law_hand = some ⟨oc__law_hand, od__law_hand, .func (PySem.W.fnOf "_law_hand" "_law_hand" (defArgs s__law_hand) (defBody s__law_hand) (defScope s__law_hand) .none kV__law_hand dc__law_hand pm__law_hand an__law_hand cd__law_hand ct__law_hand), sl__law_hand⟩)
    (hC__law_hand : PySem.W.codeIn K cd__law_hand "_law_hand" = true)
    (hK__law_hand : PySem.W.keepIn K (.ref a__law_hand) = true)
    (hA__law_draw : PySem.W.nsIn K mainGlobals "_law_draw" = some (some (.ref a__law_draw)))
    (hL__law_draw : K.lookup a__law_draw = some ⟨oc__law_draw, od__law_draw, .func (PySem.W.fnOf "_law_draw" "_law_draw" (defArgs s__law_draw) (defBody s__law_draw) (defScope s__law_draw) .none kV__law_draw dc__law_draw pm__law_draw an__law_draw cd__law_draw ct__law_draw), sl__law_draw⟩)
    (hC__law_draw : PySem.W.codeIn K cd__law_draw "_law_draw" = true)
    (hK__law_draw : PySem.W.keepIn K (.ref a__law_draw) = true)
    (hA_BadHouse___init__ : PySem.W.findIn K (.ref c_BadHouse) "__init__" = some (some (.ref a_BadHouse___init__)))
    (hL_BadHouse___init__ : K.lookup a_BadHouse___init__ = some ⟨oc_BadHouse___init__, od_BadHouse___init__, .func (PySem.W.fnOf "__init__" "BadHouse.__init__" (defArgs s_BadHouse___init__) (defBody s_BadHouse___init__) (defScope s_BadHouse___init__) .none kV_BadHouse___init__ dc_BadHouse___init__ pm_BadHouse___init__ an_BadHouse___init__ cd_BadHouse___init__ ct_BadHouse___init__), sl_BadHouse___init__⟩)
    (hC_BadHouse___init__ : PySem.W.codeIn K cd_BadHouse___init__ "BadHouse.__init__" = true)
    (hK_BadHouse___init__ : PySem.W.keepIn K (.ref a_BadHouse___init__) = true)
    (hA_BadStanding___init__ : PySem.W.findIn K (.ref c_BadStanding) "__init__" = some (some (.ref a_BadStanding___init__)))
    (hL_BadStanding___init__ : K.lookup a_BadStanding___init__ = some ⟨oc_BadStanding___init__, od_BadStanding___init__, .func (PySem.W.fnOf "__init__" "BadStanding.__init__" (defArgs s_BadStanding___init__) (defBody s_BadStanding___init__) (defScope s_BadStanding___init__) .none kV_BadStanding___init__ dc_BadStanding___init__ pm_BadStanding___init__ an_BadStanding___init__ cd_BadStanding___init__ ct_BadStanding___init__), sl_BadStanding___init__⟩)
    (hC_BadStanding___init__ : PySem.W.codeIn K cd_BadStanding___init__ "BadStanding.__init__" = true)
    (hK_BadStanding___init__ : PySem.W.keepIn K (.ref a_BadStanding___init__) = true)
    (hA_BadGroups___init__ : PySem.W.findIn K (.ref c_BadGroups) "__init__" = some (some (.ref a_BadGroups___init__)))
    (hL_BadGroups___init__ : K.lookup a_BadGroups___init__ = some ⟨oc_BadGroups___init__, od_BadGroups___init__, .func (PySem.W.fnOf "__init__" "BadGroups.__init__" (defArgs s_BadGroups___init__) (defBody s_BadGroups___init__) (defScope s_BadGroups___init__) .none kV_BadGroups___init__ dc_BadGroups___init__ pm_BadGroups___init__ an_BadGroups___init__ cd_BadGroups___init__ ct_BadGroups___init__), sl_BadGroups___init__⟩)
    (hC_BadGroups___init__ : PySem.W.codeIn K cd_BadGroups___init__ "BadGroups.__init__" = true)
    (hK_BadGroups___init__ : PySem.W.keepIn K (.ref a_BadGroups___init__) = true)
    (hA_TooMany___init__ : PySem.W.findIn K (.ref c_TooMany) "__init__" = some (some (.ref a_TooMany___init__)))
    (hL_TooMany___init__ : K.lookup a_TooMany___init__ = some ⟨oc_TooMany___init__, od_TooMany___init__, .func (PySem.W.fnOf "__init__" "TooMany.__init__" (defArgs s_TooMany___init__) (defBody s_TooMany___init__) (defScope s_TooMany___init__) .none kV_TooMany___init__ dc_TooMany___init__ pm_TooMany___init__ an_TooMany___init__ cd_TooMany___init__ ct_TooMany___init__), sl_TooMany___init__⟩)
    (hC_TooMany___init__ : PySem.W.codeIn K cd_TooMany___init__ "TooMany.__init__" = true)
    (hK_TooMany___init__ : PySem.W.keepIn K (.ref a_TooMany___init__) = true)
    (hA_BadMoves___init__ : PySem.W.findIn K (.ref c_BadMoves) "__init__" = some (some (.ref a_BadMoves___init__)))
    (hL_BadMoves___init__ : K.lookup a_BadMoves___init__ = some ⟨oc_BadMoves___init__, od_BadMoves___init__, .func (PySem.W.fnOf "__init__" "BadMoves.__init__" (defArgs s_BadMoves___init__) (defBody s_BadMoves___init__) (defScope s_BadMoves___init__) .none kV_BadMoves___init__ dc_BadMoves___init__ pm_BadMoves___init__ an_BadMoves___init__ cd_BadMoves___init__ ct_BadMoves___init__), sl_BadMoves___init__⟩)
    (hC_BadMoves___init__ : PySem.W.codeIn K cd_BadMoves___init__ "BadMoves.__init__" = true)
    (hK_BadMoves___init__ : PySem.W.keepIn K (.ref a_BadMoves___init__) = true)
    (hA_BadChoice___init__ : PySem.W.findIn K (.ref c_BadChoice) "__init__" = some (some (.ref a_BadChoice___init__)))
    (hL_BadChoice___init__ : K.lookup a_BadChoice___init__ = some ⟨oc_BadChoice___init__, od_BadChoice___init__, .func (PySem.W.fnOf "__init__" "BadChoice.__init__" (defArgs s_BadChoice___init__) (defBody s_BadChoice___init__) (defScope s_BadChoice___init__) .none kV_BadChoice___init__ dc_BadChoice___init__ pm_BadChoice___init__ an_BadChoice___init__ cd_BadChoice___init__ ct_BadChoice___init__), sl_BadChoice___init__⟩)
    (hC_BadChoice___init__ : PySem.W.codeIn K cd_BadChoice___init__ "BadChoice.__init__" = true)
    (hK_BadChoice___init__ : PySem.W.keepIn K (.ref a_BadChoice___init__) = true)
    (hA_BadNews___init__ : PySem.W.findIn K (.ref c_BadNews) "__init__" = some (some (.ref a_BadNews___init__)))
    (hL_BadNews___init__ : K.lookup a_BadNews___init__ = some ⟨oc_BadNews___init__, od_BadNews___init__, .func (PySem.W.fnOf "__init__" "BadNews.__init__" (defArgs s_BadNews___init__) (defBody s_BadNews___init__) (defScope s_BadNews___init__) .none kV_BadNews___init__ dc_BadNews___init__ pm_BadNews___init__ an_BadNews___init__ cd_BadNews___init__ ct_BadNews___init__), sl_BadNews___init__⟩)
    (hC_BadNews___init__ : PySem.W.codeIn K cd_BadNews___init__ "BadNews.__init__" = true)
    (hK_BadNews___init__ : PySem.W.keepIn K (.ref a_BadNews___init__) = true)
    (hA_BadText___init__ : PySem.W.findIn K (.ref c_BadText) "__init__" = some (some (.ref a_BadText___init__)))
    (hL_BadText___init__ : K.lookup a_BadText___init__ = some ⟨oc_BadText___init__, od_BadText___init__, .func (PySem.W.fnOf "__init__" "BadText.__init__" (defArgs s_BadText___init__) (defBody s_BadText___init__) (defScope s_BadText___init__) .none kV_BadText___init__ dc_BadText___init__ pm_BadText___init__ an_BadText___init__ cd_BadText___init__ ct_BadText___init__), sl_BadText___init__⟩)
    (hC_BadText___init__ : PySem.W.codeIn K cd_BadText___init__ "BadText.__init__" = true)
    (hK_BadText___init__ : PySem.W.keepIn K (.ref a_BadText___init__) = true)
    (hA_NoName___init__ : PySem.W.findIn K (.ref c_NoName) "__init__" = some (some (.ref a_NoName___init__)))
    (hL_NoName___init__ : K.lookup a_NoName___init__ = some ⟨oc_NoName___init__, od_NoName___init__, .func (PySem.W.fnOf "__init__" "NoName.__init__" (defArgs s_NoName___init__) (defBody s_NoName___init__) (defScope s_NoName___init__) .none kV_NoName___init__ dc_NoName___init__ pm_NoName___init__ an_NoName___init__ cd_NoName___init__ ct_NoName___init__), sl_NoName___init__⟩)
    (hC_NoName___init__ : PySem.W.codeIn K cd_NoName___init__ "NoName.__init__" = true)
    (hK_NoName___init__ : PySem.W.keepIn K (.ref a_NoName___init__) = true)
    (hA_BadFacts___init__ : PySem.W.findIn K (.ref c_BadFacts) "__init__" = some (some (.ref a_BadFacts___init__)))
    (hL_BadFacts___init__ : K.lookup a_BadFacts___init__ = some ⟨oc_BadFacts___init__, od_BadFacts___init__, .func (PySem.W.fnOf "__init__" "BadFacts.__init__" (defArgs s_BadFacts___init__) (defBody s_BadFacts___init__) (defScope s_BadFacts___init__) .none kV_BadFacts___init__ dc_BadFacts___init__ pm_BadFacts___init__ an_BadFacts___init__ cd_BadFacts___init__ ct_BadFacts___init__), sl_BadFacts___init__⟩)
    (hC_BadFacts___init__ : PySem.W.codeIn K cd_BadFacts___init__ "BadFacts.__init__" = true)
    (hK_BadFacts___init__ : PySem.W.keepIn K (.ref a_BadFacts___init__) = true)
    (hA_BadSeen___init__ : PySem.W.findIn K (.ref c_BadSeen) "__init__" = some (some (.ref a_BadSeen___init__)))
    (hL_BadSeen___init__ : K.lookup a_BadSeen___init__ = some ⟨oc_BadSeen___init__, od_BadSeen___init__, .func (PySem.W.fnOf "__init__" "BadSeen.__init__" (defArgs s_BadSeen___init__) (defBody s_BadSeen___init__) (defScope s_BadSeen___init__) .none kV_BadSeen___init__ dc_BadSeen___init__ pm_BadSeen___init__ an_BadSeen___init__ cd_BadSeen___init__ ct_BadSeen___init__), sl_BadSeen___init__⟩)
    (hC_BadSeen___init__ : PySem.W.codeIn K cd_BadSeen___init__ "BadSeen.__init__" = true)
    (hK_BadSeen___init__ : PySem.W.keepIn K (.ref a_BadSeen___init__) = true)
    (hA_BadTree___init__ : PySem.W.findIn K (.ref c_BadTree) "__init__" = some (some (.ref a_BadTree___init__)))
    (hL_BadTree___init__ : K.lookup a_BadTree___init__ = some ⟨oc_BadTree___init__, od_BadTree___init__, .func (PySem.W.fnOf "__init__" "BadTree.__init__" (defArgs s_BadTree___init__) (defBody s_BadTree___init__) (defScope s_BadTree___init__) .none kV_BadTree___init__ dc_BadTree___init__ pm_BadTree___init__ an_BadTree___init__ cd_BadTree___init__ ct_BadTree___init__), sl_BadTree___init__⟩)
    (hC_BadTree___init__ : PySem.W.codeIn K cd_BadTree___init__ "BadTree.__init__" = true)
    (hK_BadTree___init__ : PySem.W.keepIn K (.ref a_BadTree___init__) = true)
    (hA__law_made : PySem.W.nsIn K mainGlobals "_law_made" = some (some (.ref a__law_made)))
    (hL__law_made : K.lookup a__law_made = some ⟨oc__law_made, od__law_made, .func (PySem.W.fnOf "_law_made" "_law_made" (defArgs s__law_made) (defBody s__law_made) (defScope s__law_made) .none kV__law_made dc__law_made pm__law_made an__law_made cd__law_made ct__law_made), sl__law_made⟩)
    (hC__law_made : PySem.W.codeIn K cd__law_made "_law_made" = true)
    (hK__law_made : PySem.W.keepIn K (.ref a__law_made) = true)
    (hA_is_integer : PySem.W.nsIn K mainGlobals "is_integer" = some (some (.ref a_is_integer)))
    (hL_is_integer : K.lookup a_is_integer = some ⟨oc_is_integer, od_is_integer, .func (PySem.W.fnOf "is_integer" "is_integer" (defArgs s_is_integer) (defBody s_is_integer) (defScope s_is_integer) .none kV_is_integer dc_is_integer pm_is_integer an_is_integer cd_is_integer ct_is_integer), sl_is_integer⟩)
    (hC_is_integer : PySem.W.codeIn K cd_is_integer "is_integer" = true)
    (hK_is_integer : PySem.W.keepIn K (.ref a_is_integer) = true)
    (hA_is_between : PySem.W.nsIn K mainGlobals "is_between" = some (some (.ref a_is_between)))
    (hL_is_between : K.lookup a_is_between = some ⟨oc_is_between, od_is_between, .func (PySem.W.fnOf "is_between" "is_between" (defArgs s_is_between) (defBody s_is_between) (defScope s_is_between) .none kV_is_between dc_is_between pm_is_between an_is_between cd_is_between ct_is_between), sl_is_between⟩)
    (hC_is_between : PySem.W.codeIn K cd_is_between "is_between" = true)
    (hK_is_between : PySem.W.keepIn K (.ref a_is_between) = true)
    (hA_House___init__ : PySem.W.findIn K (.ref c_House) "__init__" = some (some (.ref a_House___init__)))
    (hL_House___init__ : K.lookup a_House___init__ = some ⟨oc_House___init__, od_House___init__, .func (PySem.W.fnOf "__init__" "House.__init__" (defArgs s_House___init__) (defBody s_House___init__) (defScope s_House___init__) .none kV_House___init__ dc_House___init__ pm_House___init__ an_House___init__ cd_House___init__ ct_House___init__), sl_House___init__⟩)
    (hC_House___init__ : PySem.W.codeIn K cd_House___init__ "House.__init__" = true)
    (hK_House___init__ : PySem.W.keepIn K (.ref a_House___init__) = true)
    (hI_House___init__ : PySem.W.isFn K (.ref a_House___init__) = true)
    (hA__law_caught : PySem.W.nsIn K mainGlobals "_law_caught" = some (some (.ref a__law_caught)))
    (hL__law_caught : K.lookup a__law_caught = some ⟨oc__law_caught, od__law_caught, .func (PySem.W.fnOf "_law_caught" "_law_caught" (defArgs s__law_caught) (defBody s__law_caught) (defScope s__law_caught) .none kV__law_caught dc__law_caught pm__law_caught an__law_caught cd__law_caught ct__law_caught), sl__law_caught⟩)
    (hC__law_caught : PySem.W.codeIn K cd__law_caught "_law_caught" = true)
    (hK__law_caught : PySem.W.keepIn K (.ref a__law_caught) = true)
    (hA__law_flags : PySem.W.nsIn K mainGlobals "_law_flags" = some (some (.ref a__law_flags)))
    (hL__law_flags : K.lookup a__law_flags = some ⟨oc__law_flags, od__law_flags, .func (PySem.W.fnOf "_law_flags" "_law_flags" (defArgs s__law_flags) (defBody s__law_flags) (defScope s__law_flags) .none kV__law_flags dc__law_flags pm__law_flags an__law_flags cd__law_flags ct__law_flags), sl__law_flags⟩)
    (hC__law_flags : PySem.W.codeIn K cd__law_flags "_law_flags" = true)
    (hK__law_flags : PySem.W.keepIn K (.ref a__law_flags) = true)
    (hA__law_is_kept : PySem.W.nsIn K mainGlobals "_law_is_kept" = some (some (.ref a__law_is_kept)))
    (hL__law_is_kept : K.lookup a__law_is_kept = some ⟨oc__law_is_kept, od__law_is_kept, .func (PySem.W.fnOf "_law_is_kept" "_law_is_kept" (defArgs s__law_is_kept) (defBody s__law_is_kept) (defScope s__law_is_kept) .none kV__law_is_kept dc__law_is_kept pm__law_is_kept an__law_is_kept cd__law_is_kept ct__law_is_kept), sl__law_is_kept⟩)
    (hC__law_is_kept : PySem.W.codeIn K cd__law_is_kept "_law_is_kept" = true)
    (hK__law_is_kept : PySem.W.keepIn K (.ref a__law_is_kept) = true)
    (hA_law : PySem.W.nsIn K mainGlobals "law" = some (some (.ref a_law)))
    (hL_law : K.lookup a_law = some ⟨oc_law, od_law, .func (PySem.W.fnOf "law" "law" (defArgs s_law) (defBody s_law) (defScope s_law) .none kV_law dc_law pm_law an_law cd_law ct_law), sl_law⟩)
    (hC_law : PySem.W.codeIn K cd_law "law" = true)
    (hK_law : PySem.W.keepIn K (.ref a_law) = true)
    (k1_House : PySem.W.plainGet K c_House Str.empty = true)
    (k2_House : PySem.W.hasDictIn K c_House = true)
    (k3_House : PySem.W.plainOver K c_House = true)
    (k4_House : PySem.W.findIn K (.ref c_House) "__setattr__" = some (some (.builtin "object.__setattr__")))
    (k5_House : PySem.W.findIn K (.ref c_House) "__class__" = some (some (.builtin "object.__class__")))
    (k6_House : PySem.W.mroIn K c_House (.type "object") = some true)
    (k7_House : PySem.W.isClsIn K c_House = true)
    (k8_House : PySem.W.typeIn K (.ref c_House) = some (.type "type"))
    (ktint_House : PySem.W.mroIn K c_House (.type "int") = some false)
    (ktbool_House : PySem.W.mroIn K c_House (.type "bool") = some false)
    (ktstr_House : PySem.W.mroIn K c_House (.type "str") = some false)
    (ktlist_House : PySem.W.mroIn K c_House (.type "list") = some false)
    (kttuple_House : PySem.W.mroIn K c_House (.type "tuple") = some false)
    (ktdict_House : PySem.W.mroIn K c_House (.type "dict") = some false)
    (k9_House : PySem.W.makesIn K c_House = true)
    (k0_House : PySem.W.keepIn K (.ref c_House) = true)
    (na_House_floors : PySem.W.findIn K (.ref c_House) "floors" = some none)
    (na_House_room : PySem.W.findIn K (.ref c_House) "room" = some none)
    (kk1 : PySem.W.specialIn K (.builtin "object.__class__") "__get__" = some (some (.builtin "getset_descriptor.__get__")))
    (kk2 : PySem.W.takesIn K (.builtin "object.__class__") = some true)
    (kd_House_House : PySem.W.mroIn K c_House (.ref c_House) = some true)
    (x0_LiftError : K.lookup c_LiftError = some (PySem.excClassObj nm_LiftError q_LiftError c_LiftError N_LiftError bs_LiftError [.type "ValueError", .type "Exception", .type "BaseException", .type "object"] true sn_LiftError sub_LiftError ab_LiftError col_LiftError dd_LiftError m0_LiftError m1_LiftError m2_LiftError m3_LiftError m5_LiftError "ValueError.__new__"))
    (x2_LiftError : PySem.W.subIn K (.ref c_LiftError) (.type "BaseException") = some true)
    (x3_LiftError : PySem.W.typeIn K (.ref c_LiftError) = some (.type "type"))
    (x4_LiftError : PySem.W.keepIn K (.ref c_LiftError) = true)
    (x6_LiftError : PySem.W.findIn K (.ref c_LiftError) "__getattribute__" = some (some (.builtin "BaseException.__getattribute__")))
    (x7_LiftError : PySem.W.findIn K (.ref c_LiftError) "__getattr__" = some none)
    (x8_LiftError : PySem.W.hasDictIn K c_LiftError = true)
    (xq_LiftError : PySem.W.excIn K c_LiftError [.type "ValueError", .type "Exception", .type "BaseException", .type "object"] "ValueError.__new__" = true)
    (x9_LiftError : PySem.W.findIn K (.ref c_LiftError) "__class__" = some (some (.builtin "object.__class__")))
    (xi_LiftError : PySem.W.isClsIn K c_LiftError = true)
    (xo_LiftError : PySem.W.mroIn K c_LiftError (.type "object") = some true)
    (x9_BadHouse : PySem.W.findIn K (.ref c_BadHouse) "__class__" = some (some (.builtin "object.__class__")))
    (xi_BadHouse : PySem.W.isClsIn K c_BadHouse = true)
    (xo_BadHouse : PySem.W.mroIn K c_BadHouse (.type "object") = some true)
    (x9_BadStanding : PySem.W.findIn K (.ref c_BadStanding) "__class__" = some (some (.builtin "object.__class__")))
    (xi_BadStanding : PySem.W.isClsIn K c_BadStanding = true)
    (xo_BadStanding : PySem.W.mroIn K c_BadStanding (.type "object") = some true)
    (x0_BadLift : K.lookup c_BadLift = some (PySem.excClassObj nm_BadLift q_BadLift c_BadLift N_BadLift bs_BadLift [.ref c_LiftError, .type "ValueError", .type "Exception", .type "BaseException", .type "object"] true sn_BadLift sub_BadLift ab_BadLift col_BadLift dd_BadLift m0_BadLift m1_BadLift m2_BadLift m3_BadLift m5_BadLift "ValueError.__new__"))
    (x2_BadLift : PySem.W.subIn K (.ref c_BadLift) (.type "BaseException") = some true)
    (x3_BadLift : PySem.W.typeIn K (.ref c_BadLift) = some (.type "type"))
    (x4_BadLift : PySem.W.keepIn K (.ref c_BadLift) = true)
    (x6_BadLift : PySem.W.findIn K (.ref c_BadLift) "__getattribute__" = some (some (.builtin "BaseException.__getattribute__")))
    (x7_BadLift : PySem.W.findIn K (.ref c_BadLift) "__getattr__" = some none)
    (x8_BadLift : PySem.W.hasDictIn K c_BadLift = true)
    (xq_BadLift : PySem.W.excIn K c_BadLift [.type "ValueError", .type "Exception", .type "BaseException", .type "object"] "ValueError.__new__" = true)
    (x9_BadLift : PySem.W.findIn K (.ref c_BadLift) "__class__" = some (some (.builtin "object.__class__")))
    (xi_BadLift : PySem.W.isClsIn K c_BadLift = true)
    (xo_BadLift : PySem.W.mroIn K c_BadLift (.type "object") = some true)
    (x9_BadGroups : PySem.W.findIn K (.ref c_BadGroups) "__class__" = some (some (.builtin "object.__class__")))
    (xi_BadGroups : PySem.W.isClsIn K c_BadGroups = true)
    (xo_BadGroups : PySem.W.mroIn K c_BadGroups (.type "object") = some true)
    (x0_BadFloor : K.lookup c_BadFloor = some (PySem.excClassObj nm_BadFloor q_BadFloor c_BadFloor N_BadFloor bs_BadFloor [.ref c_LiftError, .type "ValueError", .type "Exception", .type "BaseException", .type "object"] true sn_BadFloor sub_BadFloor ab_BadFloor col_BadFloor dd_BadFloor m0_BadFloor m1_BadFloor m2_BadFloor m3_BadFloor m5_BadFloor "ValueError.__new__"))
    (x2_BadFloor : PySem.W.subIn K (.ref c_BadFloor) (.type "BaseException") = some true)
    (x3_BadFloor : PySem.W.typeIn K (.ref c_BadFloor) = some (.type "type"))
    (x4_BadFloor : PySem.W.keepIn K (.ref c_BadFloor) = true)
    (x6_BadFloor : PySem.W.findIn K (.ref c_BadFloor) "__getattribute__" = some (some (.builtin "BaseException.__getattribute__")))
    (x7_BadFloor : PySem.W.findIn K (.ref c_BadFloor) "__getattr__" = some none)
    (x8_BadFloor : PySem.W.hasDictIn K c_BadFloor = true)
    (xq_BadFloor : PySem.W.excIn K c_BadFloor [.type "ValueError", .type "Exception", .type "BaseException", .type "object"] "ValueError.__new__" = true)
    (x9_BadFloor : PySem.W.findIn K (.ref c_BadFloor) "__class__" = some (some (.builtin "object.__class__")))
    (xi_BadFloor : PySem.W.isClsIn K c_BadFloor = true)
    (xo_BadFloor : PySem.W.mroIn K c_BadFloor (.type "object") = some true)
    (x0_BadMove : K.lookup c_BadMove = some (PySem.excClassObj nm_BadMove q_BadMove c_BadMove N_BadMove bs_BadMove [.ref c_LiftError, .type "ValueError", .type "Exception", .type "BaseException", .type "object"] true sn_BadMove sub_BadMove ab_BadMove col_BadMove dd_BadMove m0_BadMove m1_BadMove m2_BadMove m3_BadMove m5_BadMove "ValueError.__new__"))
    (x2_BadMove : PySem.W.subIn K (.ref c_BadMove) (.type "BaseException") = some true)
    (x3_BadMove : PySem.W.typeIn K (.ref c_BadMove) = some (.type "type"))
    (x4_BadMove : PySem.W.keepIn K (.ref c_BadMove) = true)
    (x6_BadMove : PySem.W.findIn K (.ref c_BadMove) "__getattribute__" = some (some (.builtin "BaseException.__getattribute__")))
    (x7_BadMove : PySem.W.findIn K (.ref c_BadMove) "__getattr__" = some none)
    (x8_BadMove : PySem.W.hasDictIn K c_BadMove = true)
    (xq_BadMove : PySem.W.excIn K c_BadMove [.type "ValueError", .type "Exception", .type "BaseException", .type "object"] "ValueError.__new__" = true)
    (x9_BadMove : PySem.W.findIn K (.ref c_BadMove) "__class__" = some (some (.builtin "object.__class__")))
    (xi_BadMove : PySem.W.isClsIn K c_BadMove = true)
    (xo_BadMove : PySem.W.mroIn K c_BadMove (.type "object") = some true)
    (x9_TooMany : PySem.W.findIn K (.ref c_TooMany) "__class__" = some (some (.builtin "object.__class__")))
    (xi_TooMany : PySem.W.isClsIn K c_TooMany = true)
    (xo_TooMany : PySem.W.mroIn K c_TooMany (.type "object") = some true)
    (x9_BadMoves : PySem.W.findIn K (.ref c_BadMoves) "__class__" = some (some (.builtin "object.__class__")))
    (xi_BadMoves : PySem.W.isClsIn K c_BadMoves = true)
    (xo_BadMoves : PySem.W.mroIn K c_BadMoves (.type "object") = some true)
    (x0_BadLog : K.lookup c_BadLog = some (PySem.excClassObj nm_BadLog q_BadLog c_BadLog N_BadLog bs_BadLog [.ref c_LiftError, .type "ValueError", .type "Exception", .type "BaseException", .type "object"] true sn_BadLog sub_BadLog ab_BadLog col_BadLog dd_BadLog m0_BadLog m1_BadLog m2_BadLog m3_BadLog m5_BadLog "ValueError.__new__"))
    (x2_BadLog : PySem.W.subIn K (.ref c_BadLog) (.type "BaseException") = some true)
    (x3_BadLog : PySem.W.typeIn K (.ref c_BadLog) = some (.type "type"))
    (x4_BadLog : PySem.W.keepIn K (.ref c_BadLog) = true)
    (x6_BadLog : PySem.W.findIn K (.ref c_BadLog) "__getattribute__" = some (some (.builtin "BaseException.__getattribute__")))
    (x7_BadLog : PySem.W.findIn K (.ref c_BadLog) "__getattr__" = some none)
    (x8_BadLog : PySem.W.hasDictIn K c_BadLog = true)
    (xq_BadLog : PySem.W.excIn K c_BadLog [.type "ValueError", .type "Exception", .type "BaseException", .type "object"] "ValueError.__new__" = true)
    (x9_BadLog : PySem.W.findIn K (.ref c_BadLog) "__class__" = some (some (.builtin "object.__class__")))
    (xi_BadLog : PySem.W.isClsIn K c_BadLog = true)
    (xo_BadLog : PySem.W.mroIn K c_BadLog (.type "object") = some true)
    (x0_BadGap : K.lookup c_BadGap = some (PySem.excClassObj nm_BadGap q_BadGap c_BadGap N_BadGap bs_BadGap [.ref c_LiftError, .type "ValueError", .type "Exception", .type "BaseException", .type "object"] true sn_BadGap sub_BadGap ab_BadGap col_BadGap dd_BadGap m0_BadGap m1_BadGap m2_BadGap m3_BadGap m5_BadGap "ValueError.__new__"))
    (x2_BadGap : PySem.W.subIn K (.ref c_BadGap) (.type "BaseException") = some true)
    (x3_BadGap : PySem.W.typeIn K (.ref c_BadGap) = some (.type "type"))
    (x4_BadGap : PySem.W.keepIn K (.ref c_BadGap) = true)
    (x6_BadGap : PySem.W.findIn K (.ref c_BadGap) "__getattribute__" = some (some (.builtin "BaseException.__getattribute__")))
    (x7_BadGap : PySem.W.findIn K (.ref c_BadGap) "__getattr__" = some none)
    (x8_BadGap : PySem.W.hasDictIn K c_BadGap = true)
    (xq_BadGap : PySem.W.excIn K c_BadGap [.type "ValueError", .type "Exception", .type "BaseException", .type "object"] "ValueError.__new__" = true)
    (x9_BadGap : PySem.W.findIn K (.ref c_BadGap) "__class__" = some (some (.builtin "object.__class__")))
    (xi_BadGap : PySem.W.isClsIn K c_BadGap = true)
    (xo_BadGap : PySem.W.mroIn K c_BadGap (.type "object") = some true)
    (x0_BadNumber : K.lookup c_BadNumber = some (PySem.excClassObj nm_BadNumber q_BadNumber c_BadNumber N_BadNumber bs_BadNumber [.ref c_LiftError, .type "ValueError", .type "Exception", .type "BaseException", .type "object"] true sn_BadNumber sub_BadNumber ab_BadNumber col_BadNumber dd_BadNumber m0_BadNumber m1_BadNumber m2_BadNumber m3_BadNumber m5_BadNumber "ValueError.__new__"))
    (x2_BadNumber : PySem.W.subIn K (.ref c_BadNumber) (.type "BaseException") = some true)
    (x3_BadNumber : PySem.W.typeIn K (.ref c_BadNumber) = some (.type "type"))
    (x4_BadNumber : PySem.W.keepIn K (.ref c_BadNumber) = true)
    (x6_BadNumber : PySem.W.findIn K (.ref c_BadNumber) "__getattribute__" = some (some (.builtin "BaseException.__getattribute__")))
    (x7_BadNumber : PySem.W.findIn K (.ref c_BadNumber) "__getattr__" = some none)
    (x8_BadNumber : PySem.W.hasDictIn K c_BadNumber = true)
    (xq_BadNumber : PySem.W.excIn K c_BadNumber [.type "ValueError", .type "Exception", .type "BaseException", .type "object"] "ValueError.__new__" = true)
    (x9_BadNumber : PySem.W.findIn K (.ref c_BadNumber) "__class__" = some (some (.builtin "object.__class__")))
    (xi_BadNumber : PySem.W.isClsIn K c_BadNumber = true)
    (xo_BadNumber : PySem.W.mroIn K c_BadNumber (.type "object") = some true)
    (x0_BadWay : K.lookup c_BadWay = some (PySem.excClassObj nm_BadWay q_BadWay c_BadWay N_BadWay bs_BadWay [.ref c_LiftError, .type "ValueError", .type "Exception", .type "BaseException", .type "object"] true sn_BadWay sub_BadWay ab_BadWay col_BadWay dd_BadWay m0_BadWay m1_BadWay m2_BadWay m3_BadWay m5_BadWay "ValueError.__new__"))
    (x2_BadWay : PySem.W.subIn K (.ref c_BadWay) (.type "BaseException") = some true)
    (x3_BadWay : PySem.W.typeIn K (.ref c_BadWay) = some (.type "type"))
    (x4_BadWay : PySem.W.keepIn K (.ref c_BadWay) = true)
    (x6_BadWay : PySem.W.findIn K (.ref c_BadWay) "__getattribute__" = some (some (.builtin "BaseException.__getattribute__")))
    (x7_BadWay : PySem.W.findIn K (.ref c_BadWay) "__getattr__" = some none)
    (x8_BadWay : PySem.W.hasDictIn K c_BadWay = true)
    (xq_BadWay : PySem.W.excIn K c_BadWay [.type "ValueError", .type "Exception", .type "BaseException", .type "object"] "ValueError.__new__" = true)
    (x9_BadWay : PySem.W.findIn K (.ref c_BadWay) "__class__" = some (some (.builtin "object.__class__")))
    (xi_BadWay : PySem.W.isClsIn K c_BadWay = true)
    (xo_BadWay : PySem.W.mroIn K c_BadWay (.type "object") = some true)
    (x9_BadChoice : PySem.W.findIn K (.ref c_BadChoice) "__class__" = some (some (.builtin "object.__class__")))
    (xi_BadChoice : PySem.W.isClsIn K c_BadChoice = true)
    (xo_BadChoice : PySem.W.mroIn K c_BadChoice (.type "object") = some true)
    (x0_NoPlan : K.lookup c_NoPlan = some (PySem.excClassObj nm_NoPlan q_NoPlan c_NoPlan N_NoPlan bs_NoPlan [.ref c_LiftError, .type "ValueError", .type "Exception", .type "BaseException", .type "object"] true sn_NoPlan sub_NoPlan ab_NoPlan col_NoPlan dd_NoPlan m0_NoPlan m1_NoPlan m2_NoPlan m3_NoPlan m5_NoPlan "ValueError.__new__"))
    (x2_NoPlan : PySem.W.subIn K (.ref c_NoPlan) (.type "BaseException") = some true)
    (x3_NoPlan : PySem.W.typeIn K (.ref c_NoPlan) = some (.type "type"))
    (x4_NoPlan : PySem.W.keepIn K (.ref c_NoPlan) = true)
    (x6_NoPlan : PySem.W.findIn K (.ref c_NoPlan) "__getattribute__" = some (some (.builtin "BaseException.__getattribute__")))
    (x7_NoPlan : PySem.W.findIn K (.ref c_NoPlan) "__getattr__" = some none)
    (x8_NoPlan : PySem.W.hasDictIn K c_NoPlan = true)
    (xq_NoPlan : PySem.W.excIn K c_NoPlan [.type "ValueError", .type "Exception", .type "BaseException", .type "object"] "ValueError.__new__" = true)
    (x9_NoPlan : PySem.W.findIn K (.ref c_NoPlan) "__class__" = some (some (.builtin "object.__class__")))
    (xi_NoPlan : PySem.W.isClsIn K c_NoPlan = true)
    (xo_NoPlan : PySem.W.mroIn K c_NoPlan (.type "object") = some true)
    (x0_NotGround : K.lookup c_NotGround = some (PySem.excClassObj nm_NotGround q_NotGround c_NotGround N_NotGround bs_NotGround [.ref c_LiftError, .type "ValueError", .type "Exception", .type "BaseException", .type "object"] true sn_NotGround sub_NotGround ab_NotGround col_NotGround dd_NotGround m0_NotGround m1_NotGround m2_NotGround m3_NotGround m5_NotGround "ValueError.__new__"))
    (x2_NotGround : PySem.W.subIn K (.ref c_NotGround) (.type "BaseException") = some true)
    (x3_NotGround : PySem.W.typeIn K (.ref c_NotGround) = some (.type "type"))
    (x4_NotGround : PySem.W.keepIn K (.ref c_NotGround) = true)
    (x6_NotGround : PySem.W.findIn K (.ref c_NotGround) "__getattribute__" = some (some (.builtin "BaseException.__getattribute__")))
    (x7_NotGround : PySem.W.findIn K (.ref c_NotGround) "__getattr__" = some none)
    (x8_NotGround : PySem.W.hasDictIn K c_NotGround = true)
    (xq_NotGround : PySem.W.excIn K c_NotGround [.type "ValueError", .type "Exception", .type "BaseException", .type "object"] "ValueError.__new__" = true)
    (x9_NotGround : PySem.W.findIn K (.ref c_NotGround) "__class__" = some (some (.builtin "object.__class__")))
    (xi_NotGround : PySem.W.isClsIn K c_NotGround = true)
    (xo_NotGround : PySem.W.mroIn K c_NotGround (.type "object") = some true)
    (x0_BadPrices : K.lookup c_BadPrices = some (PySem.excClassObj nm_BadPrices q_BadPrices c_BadPrices N_BadPrices bs_BadPrices [.ref c_LiftError, .type "ValueError", .type "Exception", .type "BaseException", .type "object"] true sn_BadPrices sub_BadPrices ab_BadPrices col_BadPrices dd_BadPrices m0_BadPrices m1_BadPrices m2_BadPrices m3_BadPrices m5_BadPrices "ValueError.__new__"))
    (x2_BadPrices : PySem.W.subIn K (.ref c_BadPrices) (.type "BaseException") = some true)
    (x3_BadPrices : PySem.W.typeIn K (.ref c_BadPrices) = some (.type "type"))
    (x4_BadPrices : PySem.W.keepIn K (.ref c_BadPrices) = true)
    (x6_BadPrices : PySem.W.findIn K (.ref c_BadPrices) "__getattribute__" = some (some (.builtin "BaseException.__getattribute__")))
    (x7_BadPrices : PySem.W.findIn K (.ref c_BadPrices) "__getattr__" = some none)
    (x8_BadPrices : PySem.W.hasDictIn K c_BadPrices = true)
    (xq_BadPrices : PySem.W.excIn K c_BadPrices [.type "ValueError", .type "Exception", .type "BaseException", .type "object"] "ValueError.__new__" = true)
    (x9_BadPrices : PySem.W.findIn K (.ref c_BadPrices) "__class__" = some (some (.builtin "object.__class__")))
    (xi_BadPrices : PySem.W.isClsIn K c_BadPrices = true)
    (xo_BadPrices : PySem.W.mroIn K c_BadPrices (.type "object") = some true)
    (x0_BadRoom : K.lookup c_BadRoom = some (PySem.excClassObj nm_BadRoom q_BadRoom c_BadRoom N_BadRoom bs_BadRoom [.ref c_LiftError, .type "ValueError", .type "Exception", .type "BaseException", .type "object"] true sn_BadRoom sub_BadRoom ab_BadRoom col_BadRoom dd_BadRoom m0_BadRoom m1_BadRoom m2_BadRoom m3_BadRoom m5_BadRoom "ValueError.__new__"))
    (x2_BadRoom : PySem.W.subIn K (.ref c_BadRoom) (.type "BaseException") = some true)
    (x3_BadRoom : PySem.W.typeIn K (.ref c_BadRoom) = some (.type "type"))
    (x4_BadRoom : PySem.W.keepIn K (.ref c_BadRoom) = true)
    (x6_BadRoom : PySem.W.findIn K (.ref c_BadRoom) "__getattribute__" = some (some (.builtin "BaseException.__getattribute__")))
    (x7_BadRoom : PySem.W.findIn K (.ref c_BadRoom) "__getattr__" = some none)
    (x8_BadRoom : PySem.W.hasDictIn K c_BadRoom = true)
    (xq_BadRoom : PySem.W.excIn K c_BadRoom [.type "ValueError", .type "Exception", .type "BaseException", .type "object"] "ValueError.__new__" = true)
    (x9_BadRoom : PySem.W.findIn K (.ref c_BadRoom) "__class__" = some (some (.builtin "object.__class__")))
    (xi_BadRoom : PySem.W.isClsIn K c_BadRoom = true)
    (xo_BadRoom : PySem.W.mroIn K c_BadRoom (.type "object") = some true)
    (x0_BadAnswer : K.lookup c_BadAnswer = some (PySem.excClassObj nm_BadAnswer q_BadAnswer c_BadAnswer N_BadAnswer bs_BadAnswer [.ref c_LiftError, .type "ValueError", .type "Exception", .type "BaseException", .type "object"] true sn_BadAnswer sub_BadAnswer ab_BadAnswer col_BadAnswer dd_BadAnswer m0_BadAnswer m1_BadAnswer m2_BadAnswer m3_BadAnswer m5_BadAnswer "ValueError.__new__"))
    (x2_BadAnswer : PySem.W.subIn K (.ref c_BadAnswer) (.type "BaseException") = some true)
    (x3_BadAnswer : PySem.W.typeIn K (.ref c_BadAnswer) = some (.type "type"))
    (x4_BadAnswer : PySem.W.keepIn K (.ref c_BadAnswer) = true)
    (x6_BadAnswer : PySem.W.findIn K (.ref c_BadAnswer) "__getattribute__" = some (some (.builtin "BaseException.__getattribute__")))
    (x7_BadAnswer : PySem.W.findIn K (.ref c_BadAnswer) "__getattr__" = some none)
    (x8_BadAnswer : PySem.W.hasDictIn K c_BadAnswer = true)
    (xq_BadAnswer : PySem.W.excIn K c_BadAnswer [.type "ValueError", .type "Exception", .type "BaseException", .type "object"] "ValueError.__new__" = true)
    (x9_BadAnswer : PySem.W.findIn K (.ref c_BadAnswer) "__class__" = some (some (.builtin "object.__class__")))
    (xi_BadAnswer : PySem.W.isClsIn K c_BadAnswer = true)
    (xo_BadAnswer : PySem.W.mroIn K c_BadAnswer (.type "object") = some true)
    (x0_BadCounts : K.lookup c_BadCounts = some (PySem.excClassObj nm_BadCounts q_BadCounts c_BadCounts N_BadCounts bs_BadCounts [.ref c_LiftError, .type "ValueError", .type "Exception", .type "BaseException", .type "object"] true sn_BadCounts sub_BadCounts ab_BadCounts col_BadCounts dd_BadCounts m0_BadCounts m1_BadCounts m2_BadCounts m3_BadCounts m5_BadCounts "ValueError.__new__"))
    (x2_BadCounts : PySem.W.subIn K (.ref c_BadCounts) (.type "BaseException") = some true)
    (x3_BadCounts : PySem.W.typeIn K (.ref c_BadCounts) = some (.type "type"))
    (x4_BadCounts : PySem.W.keepIn K (.ref c_BadCounts) = true)
    (x6_BadCounts : PySem.W.findIn K (.ref c_BadCounts) "__getattribute__" = some (some (.builtin "BaseException.__getattribute__")))
    (x7_BadCounts : PySem.W.findIn K (.ref c_BadCounts) "__getattr__" = some none)
    (x8_BadCounts : PySem.W.hasDictIn K c_BadCounts = true)
    (xq_BadCounts : PySem.W.excIn K c_BadCounts [.type "ValueError", .type "Exception", .type "BaseException", .type "object"] "ValueError.__new__" = true)
    (x9_BadCounts : PySem.W.findIn K (.ref c_BadCounts) "__class__" = some (some (.builtin "object.__class__")))
    (xi_BadCounts : PySem.W.isClsIn K c_BadCounts = true)
    (xo_BadCounts : PySem.W.mroIn K c_BadCounts (.type "object") = some true)
    (x0_BadGroup : K.lookup c_BadGroup = some (PySem.excClassObj nm_BadGroup q_BadGroup c_BadGroup N_BadGroup bs_BadGroup [.ref c_LiftError, .type "ValueError", .type "Exception", .type "BaseException", .type "object"] true sn_BadGroup sub_BadGroup ab_BadGroup col_BadGroup dd_BadGroup m0_BadGroup m1_BadGroup m2_BadGroup m3_BadGroup m5_BadGroup "ValueError.__new__"))
    (x2_BadGroup : PySem.W.subIn K (.ref c_BadGroup) (.type "BaseException") = some true)
    (x3_BadGroup : PySem.W.typeIn K (.ref c_BadGroup) = some (.type "type"))
    (x4_BadGroup : PySem.W.keepIn K (.ref c_BadGroup) = true)
    (x6_BadGroup : PySem.W.findIn K (.ref c_BadGroup) "__getattribute__" = some (some (.builtin "BaseException.__getattribute__")))
    (x7_BadGroup : PySem.W.findIn K (.ref c_BadGroup) "__getattr__" = some none)
    (x8_BadGroup : PySem.W.hasDictIn K c_BadGroup = true)
    (xq_BadGroup : PySem.W.excIn K c_BadGroup [.type "ValueError", .type "Exception", .type "BaseException", .type "object"] "ValueError.__new__" = true)
    (x9_BadGroup : PySem.W.findIn K (.ref c_BadGroup) "__class__" = some (some (.builtin "object.__class__")))
    (xi_BadGroup : PySem.W.isClsIn K c_BadGroup = true)
    (xo_BadGroup : PySem.W.mroIn K c_BadGroup (.type "object") = some true)
    (x9_BadNews : PySem.W.findIn K (.ref c_BadNews) "__class__" = some (some (.builtin "object.__class__")))
    (xi_BadNews : PySem.W.isClsIn K c_BadNews = true)
    (xo_BadNews : PySem.W.mroIn K c_BadNews (.type "object") = some true)
    (x0_NothingDone : K.lookup c_NothingDone = some (PySem.excClassObj nm_NothingDone q_NothingDone c_NothingDone N_NothingDone bs_NothingDone [.ref c_LiftError, .type "ValueError", .type "Exception", .type "BaseException", .type "object"] true sn_NothingDone sub_NothingDone ab_NothingDone col_NothingDone dd_NothingDone m0_NothingDone m1_NothingDone m2_NothingDone m3_NothingDone m5_NothingDone "ValueError.__new__"))
    (x2_NothingDone : PySem.W.subIn K (.ref c_NothingDone) (.type "BaseException") = some true)
    (x3_NothingDone : PySem.W.typeIn K (.ref c_NothingDone) = some (.type "type"))
    (x4_NothingDone : PySem.W.keepIn K (.ref c_NothingDone) = true)
    (x6_NothingDone : PySem.W.findIn K (.ref c_NothingDone) "__getattribute__" = some (some (.builtin "BaseException.__getattribute__")))
    (x7_NothingDone : PySem.W.findIn K (.ref c_NothingDone) "__getattr__" = some none)
    (x8_NothingDone : PySem.W.hasDictIn K c_NothingDone = true)
    (xq_NothingDone : PySem.W.excIn K c_NothingDone [.type "ValueError", .type "Exception", .type "BaseException", .type "object"] "ValueError.__new__" = true)
    (x9_NothingDone : PySem.W.findIn K (.ref c_NothingDone) "__class__" = some (some (.builtin "object.__class__")))
    (xi_NothingDone : PySem.W.isClsIn K c_NothingDone = true)
    (xo_NothingDone : PySem.W.mroIn K c_NothingDone (.type "object") = some true)
    (x9_BadText : PySem.W.findIn K (.ref c_BadText) "__class__" = some (some (.builtin "object.__class__")))
    (xi_BadText : PySem.W.isClsIn K c_BadText = true)
    (xo_BadText : PySem.W.mroIn K c_BadText (.type "object") = some true)
    (x0_NoLine : K.lookup c_NoLine = some (PySem.excClassObj nm_NoLine q_NoLine c_NoLine N_NoLine bs_NoLine [.ref c_LiftError, .type "ValueError", .type "Exception", .type "BaseException", .type "object"] true sn_NoLine sub_NoLine ab_NoLine col_NoLine dd_NoLine m0_NoLine m1_NoLine m2_NoLine m3_NoLine m5_NoLine "ValueError.__new__"))
    (x2_NoLine : PySem.W.subIn K (.ref c_NoLine) (.type "BaseException") = some true)
    (x3_NoLine : PySem.W.typeIn K (.ref c_NoLine) = some (.type "type"))
    (x4_NoLine : PySem.W.keepIn K (.ref c_NoLine) = true)
    (x6_NoLine : PySem.W.findIn K (.ref c_NoLine) "__getattribute__" = some (some (.builtin "BaseException.__getattribute__")))
    (x7_NoLine : PySem.W.findIn K (.ref c_NoLine) "__getattr__" = some none)
    (x8_NoLine : PySem.W.hasDictIn K c_NoLine = true)
    (xq_NoLine : PySem.W.excIn K c_NoLine [.type "ValueError", .type "Exception", .type "BaseException", .type "object"] "ValueError.__new__" = true)
    (x9_NoLine : PySem.W.findIn K (.ref c_NoLine) "__class__" = some (some (.builtin "object.__class__")))
    (xi_NoLine : PySem.W.isClsIn K c_NoLine = true)
    (xo_NoLine : PySem.W.mroIn K c_NoLine (.type "object") = some true)
    (x9_NoName : PySem.W.findIn K (.ref c_NoName) "__class__" = some (some (.builtin "object.__class__")))
    (xi_NoName : PySem.W.isClsIn K c_NoName = true)
    (xo_NoName : PySem.W.mroIn K c_NoName (.type "object") = some true)
    (x0_BadLoads : K.lookup c_BadLoads = some (PySem.excClassObj nm_BadLoads q_BadLoads c_BadLoads N_BadLoads bs_BadLoads [.ref c_LiftError, .type "ValueError", .type "Exception", .type "BaseException", .type "object"] true sn_BadLoads sub_BadLoads ab_BadLoads col_BadLoads dd_BadLoads m0_BadLoads m1_BadLoads m2_BadLoads m3_BadLoads m5_BadLoads "ValueError.__new__"))
    (x2_BadLoads : PySem.W.subIn K (.ref c_BadLoads) (.type "BaseException") = some true)
    (x3_BadLoads : PySem.W.typeIn K (.ref c_BadLoads) = some (.type "type"))
    (x4_BadLoads : PySem.W.keepIn K (.ref c_BadLoads) = true)
    (x6_BadLoads : PySem.W.findIn K (.ref c_BadLoads) "__getattribute__" = some (some (.builtin "BaseException.__getattribute__")))
    (x7_BadLoads : PySem.W.findIn K (.ref c_BadLoads) "__getattr__" = some none)
    (x8_BadLoads : PySem.W.hasDictIn K c_BadLoads = true)
    (xq_BadLoads : PySem.W.excIn K c_BadLoads [.type "ValueError", .type "Exception", .type "BaseException", .type "object"] "ValueError.__new__" = true)
    (x9_BadLoads : PySem.W.findIn K (.ref c_BadLoads) "__class__" = some (some (.builtin "object.__class__")))
    (xi_BadLoads : PySem.W.isClsIn K c_BadLoads = true)
    (xo_BadLoads : PySem.W.mroIn K c_BadLoads (.type "object") = some true)
    (x9_BadFacts : PySem.W.findIn K (.ref c_BadFacts) "__class__" = some (some (.builtin "object.__class__")))
    (xi_BadFacts : PySem.W.isClsIn K c_BadFacts = true)
    (xo_BadFacts : PySem.W.mroIn K c_BadFacts (.type "object") = some true)
    (x9_BadSeen : PySem.W.findIn K (.ref c_BadSeen) "__class__" = some (some (.builtin "object.__class__")))
    (xi_BadSeen : PySem.W.isClsIn K c_BadSeen = true)
    (xo_BadSeen : PySem.W.mroIn K c_BadSeen (.type "object") = some true)
    (x9_BadTree : PySem.W.findIn K (.ref c_BadTree) "__class__" = some (some (.builtin "object.__class__")))
    (xi_BadTree : PySem.W.isClsIn K c_BadTree = true)
    (xo_BadTree : PySem.W.mroIn K c_BadTree (.type "object") = some true)
    (x0_BadRoad : K.lookup c_BadRoad = some (PySem.excClassObj nm_BadRoad q_BadRoad c_BadRoad N_BadRoad bs_BadRoad [.ref c_LiftError, .type "ValueError", .type "Exception", .type "BaseException", .type "object"] true sn_BadRoad sub_BadRoad ab_BadRoad col_BadRoad dd_BadRoad m0_BadRoad m1_BadRoad m2_BadRoad m3_BadRoad m5_BadRoad "ValueError.__new__"))
    (x2_BadRoad : PySem.W.subIn K (.ref c_BadRoad) (.type "BaseException") = some true)
    (x3_BadRoad : PySem.W.typeIn K (.ref c_BadRoad) = some (.type "type"))
    (x4_BadRoad : PySem.W.keepIn K (.ref c_BadRoad) = true)
    (x6_BadRoad : PySem.W.findIn K (.ref c_BadRoad) "__getattribute__" = some (some (.builtin "BaseException.__getattribute__")))
    (x7_BadRoad : PySem.W.findIn K (.ref c_BadRoad) "__getattr__" = some none)
    (x8_BadRoad : PySem.W.hasDictIn K c_BadRoad = true)
    (xq_BadRoad : PySem.W.excIn K c_BadRoad [.type "ValueError", .type "Exception", .type "BaseException", .type "object"] "ValueError.__new__" = true)
    (x9_BadRoad : PySem.W.findIn K (.ref c_BadRoad) "__class__" = some (some (.builtin "object.__class__")))
    (xi_BadRoad : PySem.W.isClsIn K c_BadRoad = true)
    (xo_BadRoad : PySem.W.mroIn K c_BadRoad (.type "object") = some true)
    (nd : ndB [c_LiftError, c_BadHouse, c_BadStanding, c_BadLift, c_BadGroups, c_BadFloor, c_BadMove, c_TooMany, c_BadMoves, c_BadLog, c_BadGap, c_BadNumber, c_BadWay, c_BadChoice, c_NoPlan, c_NotGround, c_BadPrices, c_BadRoom, c_BadAnswer, c_BadCounts, c_BadGroup, c_BadNews, c_NothingDone, c_BadText, c_NoLine, c_NoName, c_BadLoads, c_BadFacts, c_BadSeen, c_BadTree, c_BadRoad] = true)
    (x0_BadHouse : K.lookup c_BadHouse = some (PySem.excClassObj nm_BadHouse q_BadHouse c_BadHouse N_BadHouse bs_BadHouse [.ref c_LiftError, .type "ValueError", .type "Exception", .type "BaseException", .type "object"] true sn_BadHouse sub_BadHouse ab_BadHouse col_BadHouse dd_BadHouse m0_BadHouse m1_BadHouse m2_BadHouse m3_BadHouse m5_BadHouse "ValueError.__new__"))
    (x1_BadHouse : PySem.W.findIn K (.ref c_BadHouse) "__setattr__" = some (some (.builtin "object.__setattr__")))
    (x2_BadHouse : PySem.W.subIn K (.ref c_BadHouse) (.type "BaseException") = some true)
    (x3_BadHouse : PySem.W.typeIn K (.ref c_BadHouse) = some (.type "type"))
    (x4_BadHouse : PySem.W.keepIn K (.ref c_BadHouse) = true)
    (x5_BadHouse : PySem.W.typeIn K (.ref a_BadHouse___init__) = some (.type "function"))
    (x6_BadHouse : PySem.W.findIn K (.ref c_BadHouse) "__getattribute__" = some (some (.builtin "BaseException.__getattribute__")))
    (x7_BadHouse : PySem.W.findIn K (.ref c_BadHouse) "__getattr__" = some none)
    (x8_BadHouse : PySem.W.hasDictIn K c_BadHouse = true)
    (no_BadHouse : PySem.W.findIn K (.ref c_BadHouse) "part" = some none)
    (x0_BadStanding : K.lookup c_BadStanding = some (PySem.excClassObj nm_BadStanding q_BadStanding c_BadStanding N_BadStanding bs_BadStanding [.ref c_LiftError, .type "ValueError", .type "Exception", .type "BaseException", .type "object"] true sn_BadStanding sub_BadStanding ab_BadStanding col_BadStanding dd_BadStanding m0_BadStanding m1_BadStanding m2_BadStanding m3_BadStanding m5_BadStanding "ValueError.__new__"))
    (x1_BadStanding : PySem.W.findIn K (.ref c_BadStanding) "__setattr__" = some (some (.builtin "object.__setattr__")))
    (x2_BadStanding : PySem.W.subIn K (.ref c_BadStanding) (.type "BaseException") = some true)
    (x3_BadStanding : PySem.W.typeIn K (.ref c_BadStanding) = some (.type "type"))
    (x4_BadStanding : PySem.W.keepIn K (.ref c_BadStanding) = true)
    (x5_BadStanding : PySem.W.typeIn K (.ref a_BadStanding___init__) = some (.type "function"))
    (x6_BadStanding : PySem.W.findIn K (.ref c_BadStanding) "__getattribute__" = some (some (.builtin "BaseException.__getattribute__")))
    (x7_BadStanding : PySem.W.findIn K (.ref c_BadStanding) "__getattr__" = some none)
    (x8_BadStanding : PySem.W.hasDictIn K c_BadStanding = true)
    (no_BadStanding : PySem.W.findIn K (.ref c_BadStanding) "part" = some none)
    (x0_BadGroups : K.lookup c_BadGroups = some (PySem.excClassObj nm_BadGroups q_BadGroups c_BadGroups N_BadGroups bs_BadGroups [.ref c_LiftError, .type "ValueError", .type "Exception", .type "BaseException", .type "object"] true sn_BadGroups sub_BadGroups ab_BadGroups col_BadGroups dd_BadGroups m0_BadGroups m1_BadGroups m2_BadGroups m3_BadGroups m5_BadGroups "ValueError.__new__"))
    (x1_BadGroups : PySem.W.findIn K (.ref c_BadGroups) "__setattr__" = some (some (.builtin "object.__setattr__")))
    (x2_BadGroups : PySem.W.subIn K (.ref c_BadGroups) (.type "BaseException") = some true)
    (x3_BadGroups : PySem.W.typeIn K (.ref c_BadGroups) = some (.type "type"))
    (x4_BadGroups : PySem.W.keepIn K (.ref c_BadGroups) = true)
    (x5_BadGroups : PySem.W.typeIn K (.ref a_BadGroups___init__) = some (.type "function"))
    (x6_BadGroups : PySem.W.findIn K (.ref c_BadGroups) "__getattribute__" = some (some (.builtin "BaseException.__getattribute__")))
    (x7_BadGroups : PySem.W.findIn K (.ref c_BadGroups) "__getattr__" = some none)
    (x8_BadGroups : PySem.W.hasDictIn K c_BadGroups = true)
    (no_BadGroups : PySem.W.findIn K (.ref c_BadGroups) "index" = some none)
    (x0_TooMany : K.lookup c_TooMany = some (PySem.excClassObj nm_TooMany q_TooMany c_TooMany N_TooMany bs_TooMany [.ref c_LiftError, .type "ValueError", .type "Exception", .type "BaseException", .type "object"] true sn_TooMany sub_TooMany ab_TooMany col_TooMany dd_TooMany m0_TooMany m1_TooMany m2_TooMany m3_TooMany m5_TooMany "ValueError.__new__"))
    (x1_TooMany : PySem.W.findIn K (.ref c_TooMany) "__setattr__" = some (some (.builtin "object.__setattr__")))
    (x2_TooMany : PySem.W.subIn K (.ref c_TooMany) (.type "BaseException") = some true)
    (x3_TooMany : PySem.W.typeIn K (.ref c_TooMany) = some (.type "type"))
    (x4_TooMany : PySem.W.keepIn K (.ref c_TooMany) = true)
    (x5_TooMany : PySem.W.typeIn K (.ref a_TooMany___init__) = some (.type "function"))
    (x6_TooMany : PySem.W.findIn K (.ref c_TooMany) "__getattribute__" = some (some (.builtin "BaseException.__getattribute__")))
    (x7_TooMany : PySem.W.findIn K (.ref c_TooMany) "__getattr__" = some none)
    (x8_TooMany : PySem.W.hasDictIn K c_TooMany = true)
    (no_TooMany : PySem.W.findIn K (.ref c_TooMany) "limit" = some none)
    (x0_BadMoves : K.lookup c_BadMoves = some (PySem.excClassObj nm_BadMoves q_BadMoves c_BadMoves N_BadMoves bs_BadMoves [.ref c_LiftError, .type "ValueError", .type "Exception", .type "BaseException", .type "object"] true sn_BadMoves sub_BadMoves ab_BadMoves col_BadMoves dd_BadMoves m0_BadMoves m1_BadMoves m2_BadMoves m3_BadMoves m5_BadMoves "ValueError.__new__"))
    (x1_BadMoves : PySem.W.findIn K (.ref c_BadMoves) "__setattr__" = some (some (.builtin "object.__setattr__")))
    (x2_BadMoves : PySem.W.subIn K (.ref c_BadMoves) (.type "BaseException") = some true)
    (x3_BadMoves : PySem.W.typeIn K (.ref c_BadMoves) = some (.type "type"))
    (x4_BadMoves : PySem.W.keepIn K (.ref c_BadMoves) = true)
    (x5_BadMoves : PySem.W.typeIn K (.ref a_BadMoves___init__) = some (.type "function"))
    (x6_BadMoves : PySem.W.findIn K (.ref c_BadMoves) "__getattribute__" = some (some (.builtin "BaseException.__getattribute__")))
    (x7_BadMoves : PySem.W.findIn K (.ref c_BadMoves) "__getattr__" = some none)
    (x8_BadMoves : PySem.W.hasDictIn K c_BadMoves = true)
    (no_BadMoves : PySem.W.findIn K (.ref c_BadMoves) "index" = some none)
    (x0_BadChoice : K.lookup c_BadChoice = some (PySem.excClassObj nm_BadChoice q_BadChoice c_BadChoice N_BadChoice bs_BadChoice [.ref c_LiftError, .type "ValueError", .type "Exception", .type "BaseException", .type "object"] true sn_BadChoice sub_BadChoice ab_BadChoice col_BadChoice dd_BadChoice m0_BadChoice m1_BadChoice m2_BadChoice m3_BadChoice m5_BadChoice "ValueError.__new__"))
    (x1_BadChoice : PySem.W.findIn K (.ref c_BadChoice) "__setattr__" = some (some (.builtin "object.__setattr__")))
    (x2_BadChoice : PySem.W.subIn K (.ref c_BadChoice) (.type "BaseException") = some true)
    (x3_BadChoice : PySem.W.typeIn K (.ref c_BadChoice) = some (.type "type"))
    (x4_BadChoice : PySem.W.keepIn K (.ref c_BadChoice) = true)
    (x5_BadChoice : PySem.W.typeIn K (.ref a_BadChoice___init__) = some (.type "function"))
    (x6_BadChoice : PySem.W.findIn K (.ref c_BadChoice) "__getattribute__" = some (some (.builtin "BaseException.__getattribute__")))
    (x7_BadChoice : PySem.W.findIn K (.ref c_BadChoice) "__getattr__" = some none)
    (x8_BadChoice : PySem.W.hasDictIn K c_BadChoice = true)
    (no_BadChoice : PySem.W.findIn K (.ref c_BadChoice) "index" = some none)
    (x0_BadNews : K.lookup c_BadNews = some (PySem.excClassObj nm_BadNews q_BadNews c_BadNews N_BadNews bs_BadNews [.ref c_LiftError, .type "ValueError", .type "Exception", .type "BaseException", .type "object"] true sn_BadNews sub_BadNews ab_BadNews col_BadNews dd_BadNews m0_BadNews m1_BadNews m2_BadNews m3_BadNews m5_BadNews "ValueError.__new__"))
    (x1_BadNews : PySem.W.findIn K (.ref c_BadNews) "__setattr__" = some (some (.builtin "object.__setattr__")))
    (x2_BadNews : PySem.W.subIn K (.ref c_BadNews) (.type "BaseException") = some true)
    (x3_BadNews : PySem.W.typeIn K (.ref c_BadNews) = some (.type "type"))
    (x4_BadNews : PySem.W.keepIn K (.ref c_BadNews) = true)
    (x5_BadNews : PySem.W.typeIn K (.ref a_BadNews___init__) = some (.type "function"))
    (x6_BadNews : PySem.W.findIn K (.ref c_BadNews) "__getattribute__" = some (some (.builtin "BaseException.__getattribute__")))
    (x7_BadNews : PySem.W.findIn K (.ref c_BadNews) "__getattr__" = some none)
    (x8_BadNews : PySem.W.hasDictIn K c_BadNews = true)
    (no_BadNews : PySem.W.findIn K (.ref c_BadNews) "index" = some none)
    (x0_BadText : K.lookup c_BadText = some (PySem.excClassObj nm_BadText q_BadText c_BadText N_BadText bs_BadText [.ref c_LiftError, .type "ValueError", .type "Exception", .type "BaseException", .type "object"] true sn_BadText sub_BadText ab_BadText col_BadText dd_BadText m0_BadText m1_BadText m2_BadText m3_BadText m5_BadText "ValueError.__new__"))
    (x1_BadText : PySem.W.findIn K (.ref c_BadText) "__setattr__" = some (some (.builtin "object.__setattr__")))
    (x2_BadText : PySem.W.subIn K (.ref c_BadText) (.type "BaseException") = some true)
    (x3_BadText : PySem.W.typeIn K (.ref c_BadText) = some (.type "type"))
    (x4_BadText : PySem.W.keepIn K (.ref c_BadText) = true)
    (x5_BadText : PySem.W.typeIn K (.ref a_BadText___init__) = some (.type "function"))
    (x6_BadText : PySem.W.findIn K (.ref c_BadText) "__getattribute__" = some (some (.builtin "BaseException.__getattribute__")))
    (x7_BadText : PySem.W.findIn K (.ref c_BadText) "__getattr__" = some none)
    (x8_BadText : PySem.W.hasDictIn K c_BadText = true)
    (no_BadText : PySem.W.findIn K (.ref c_BadText) "index" = some none)
    (x0_NoName : K.lookup c_NoName = some (PySem.excClassObj nm_NoName q_NoName c_NoName N_NoName bs_NoName [.ref c_LiftError, .type "ValueError", .type "Exception", .type "BaseException", .type "object"] true sn_NoName sub_NoName ab_NoName col_NoName dd_NoName m0_NoName m1_NoName m2_NoName m3_NoName m5_NoName "ValueError.__new__"))
    (x1_NoName : PySem.W.findIn K (.ref c_NoName) "__setattr__" = some (some (.builtin "object.__setattr__")))
    (x2_NoName : PySem.W.subIn K (.ref c_NoName) (.type "BaseException") = some true)
    (x3_NoName : PySem.W.typeIn K (.ref c_NoName) = some (.type "type"))
    (x4_NoName : PySem.W.keepIn K (.ref c_NoName) = true)
    (x5_NoName : PySem.W.typeIn K (.ref a_NoName___init__) = some (.type "function"))
    (x6_NoName : PySem.W.findIn K (.ref c_NoName) "__getattribute__" = some (some (.builtin "BaseException.__getattribute__")))
    (x7_NoName : PySem.W.findIn K (.ref c_NoName) "__getattr__" = some none)
    (x8_NoName : PySem.W.hasDictIn K c_NoName = true)
    (no_NoName : PySem.W.findIn K (.ref c_NoName) "name" = some none)
    (x0_BadFacts : K.lookup c_BadFacts = some (PySem.excClassObj nm_BadFacts q_BadFacts c_BadFacts N_BadFacts bs_BadFacts [.ref c_LiftError, .type "ValueError", .type "Exception", .type "BaseException", .type "object"] true sn_BadFacts sub_BadFacts ab_BadFacts col_BadFacts dd_BadFacts m0_BadFacts m1_BadFacts m2_BadFacts m3_BadFacts m5_BadFacts "ValueError.__new__"))
    (x1_BadFacts : PySem.W.findIn K (.ref c_BadFacts) "__setattr__" = some (some (.builtin "object.__setattr__")))
    (x2_BadFacts : PySem.W.subIn K (.ref c_BadFacts) (.type "BaseException") = some true)
    (x3_BadFacts : PySem.W.typeIn K (.ref c_BadFacts) = some (.type "type"))
    (x4_BadFacts : PySem.W.keepIn K (.ref c_BadFacts) = true)
    (x5_BadFacts : PySem.W.typeIn K (.ref a_BadFacts___init__) = some (.type "function"))
    (x6_BadFacts : PySem.W.findIn K (.ref c_BadFacts) "__getattribute__" = some (some (.builtin "BaseException.__getattribute__")))
    (x7_BadFacts : PySem.W.findIn K (.ref c_BadFacts) "__getattr__" = some none)
    (x8_BadFacts : PySem.W.hasDictIn K c_BadFacts = true)
    (no_BadFacts : PySem.W.findIn K (.ref c_BadFacts) "index" = some none)
    (x0_BadSeen : K.lookup c_BadSeen = some (PySem.excClassObj nm_BadSeen q_BadSeen c_BadSeen N_BadSeen bs_BadSeen [.ref c_LiftError, .type "ValueError", .type "Exception", .type "BaseException", .type "object"] true sn_BadSeen sub_BadSeen ab_BadSeen col_BadSeen dd_BadSeen m0_BadSeen m1_BadSeen m2_BadSeen m3_BadSeen m5_BadSeen "ValueError.__new__"))
    (x1_BadSeen : PySem.W.findIn K (.ref c_BadSeen) "__setattr__" = some (some (.builtin "object.__setattr__")))
    (x2_BadSeen : PySem.W.subIn K (.ref c_BadSeen) (.type "BaseException") = some true)
    (x3_BadSeen : PySem.W.typeIn K (.ref c_BadSeen) = some (.type "type"))
    (x4_BadSeen : PySem.W.keepIn K (.ref c_BadSeen) = true)
    (x5_BadSeen : PySem.W.typeIn K (.ref a_BadSeen___init__) = some (.type "function"))
    (x6_BadSeen : PySem.W.findIn K (.ref c_BadSeen) "__getattribute__" = some (some (.builtin "BaseException.__getattribute__")))
    (x7_BadSeen : PySem.W.findIn K (.ref c_BadSeen) "__getattr__" = some none)
    (x8_BadSeen : PySem.W.hasDictIn K c_BadSeen = true)
    (no_BadSeen : PySem.W.findIn K (.ref c_BadSeen) "index" = some none)
    (x0_BadTree : K.lookup c_BadTree = some (PySem.excClassObj nm_BadTree q_BadTree c_BadTree N_BadTree bs_BadTree [.ref c_LiftError, .type "ValueError", .type "Exception", .type "BaseException", .type "object"] true sn_BadTree sub_BadTree ab_BadTree col_BadTree dd_BadTree m0_BadTree m1_BadTree m2_BadTree m3_BadTree m5_BadTree "ValueError.__new__"))
    (x1_BadTree : PySem.W.findIn K (.ref c_BadTree) "__setattr__" = some (some (.builtin "object.__setattr__")))
    (x2_BadTree : PySem.W.subIn K (.ref c_BadTree) (.type "BaseException") = some true)
    (x3_BadTree : PySem.W.typeIn K (.ref c_BadTree) = some (.type "type"))
    (x4_BadTree : PySem.W.keepIn K (.ref c_BadTree) = true)
    (x5_BadTree : PySem.W.typeIn K (.ref a_BadTree___init__) = some (.type "function"))
    (x6_BadTree : PySem.W.findIn K (.ref c_BadTree) "__getattribute__" = some (some (.builtin "BaseException.__getattribute__")))
    (x7_BadTree : PySem.W.findIn K (.ref c_BadTree) "__getattr__" = some none)
    (x8_BadTree : PySem.W.hasDictIn K c_BadTree = true)
    (no_BadTree : PySem.W.findIn K (.ref c_BadTree) "part" = some none)
    (y2_BadHouse : PySem.W.subIn K (.ref c_BadHouse) (.type "BaseException") = some true)
    (y3_BadHouse : PySem.W.typeIn K (.ref c_BadHouse) = some (.type "type"))
    (y8_BadHouse : PySem.W.hasDictIn K c_BadHouse = true)
    (y_BadChoice_BadHouse : PySem.W.subIn K (.ref c_BadChoice) (.ref c_BadHouse) = some false)
    (y_BadFacts_BadHouse : PySem.W.subIn K (.ref c_BadFacts) (.ref c_BadHouse) = some false)
    (y_BadGroups_BadHouse : PySem.W.subIn K (.ref c_BadGroups) (.ref c_BadHouse) = some false)
    (y_BadHouse_BadHouse : PySem.W.subIn K (.ref c_BadHouse) (.ref c_BadHouse) = some true)
    (y_BadMoves_BadHouse : PySem.W.subIn K (.ref c_BadMoves) (.ref c_BadHouse) = some false)
    (y_BadNews_BadHouse : PySem.W.subIn K (.ref c_BadNews) (.ref c_BadHouse) = some false)
    (y_BadSeen_BadHouse : PySem.W.subIn K (.ref c_BadSeen) (.ref c_BadHouse) = some false)
    (y_BadStanding_BadHouse : PySem.W.subIn K (.ref c_BadStanding) (.ref c_BadHouse) = some false)
    (y_BadText_BadHouse : PySem.W.subIn K (.ref c_BadText) (.ref c_BadHouse) = some false)
    (y_BadTree_BadHouse : PySem.W.subIn K (.ref c_BadTree) (.ref c_BadHouse) = some false)
    (y_NoName_BadHouse : PySem.W.subIn K (.ref c_NoName) (.ref c_BadHouse) = some false)
    (y_TooMany_BadHouse : PySem.W.subIn K (.ref c_TooMany) (.ref c_BadHouse) = some false)
    (y2_LiftError : PySem.W.subIn K (.ref c_LiftError) (.type "BaseException") = some true)
    (y3_LiftError : PySem.W.typeIn K (.ref c_LiftError) = some (.type "type"))
    (y8_LiftError : PySem.W.hasDictIn K c_LiftError = true)
    (y_BadChoice_LiftError : PySem.W.subIn K (.ref c_BadChoice) (.ref c_LiftError) = some true)
    (y_BadFacts_LiftError : PySem.W.subIn K (.ref c_BadFacts) (.ref c_LiftError) = some true)
    (y_BadGroups_LiftError : PySem.W.subIn K (.ref c_BadGroups) (.ref c_LiftError) = some true)
    (y_BadHouse_LiftError : PySem.W.subIn K (.ref c_BadHouse) (.ref c_LiftError) = some true)
    (y_BadMoves_LiftError : PySem.W.subIn K (.ref c_BadMoves) (.ref c_LiftError) = some true)
    (y_BadNews_LiftError : PySem.W.subIn K (.ref c_BadNews) (.ref c_LiftError) = some true)
    (y_BadSeen_LiftError : PySem.W.subIn K (.ref c_BadSeen) (.ref c_LiftError) = some true)
    (y_BadStanding_LiftError : PySem.W.subIn K (.ref c_BadStanding) (.ref c_LiftError) = some true)
    (y_BadText_LiftError : PySem.W.subIn K (.ref c_BadText) (.ref c_LiftError) = some true)
    (y_BadTree_LiftError : PySem.W.subIn K (.ref c_BadTree) (.ref c_LiftError) = some true)
    (y_NoName_LiftError : PySem.W.subIn K (.ref c_NoName) (.ref c_LiftError) = some true)
    (y_TooMany_LiftError : PySem.W.subIn K (.ref c_TooMany) (.ref c_LiftError) = some true)
    (hv_MOST_FLOORS : PySem.W.nsIn K mainGlobals "MOST_FLOORS" = some (some (.int 40 tv_MOST_FLOORS)))
    (hz_ValueError : PySem.W.nsIn K mainGlobals "ValueError" = some none)
    (hz_abs : PySem.W.nsIn K mainGlobals "abs" = some none)
    (hz_all : PySem.W.nsIn K mainGlobals "all" = some none)
    (hz_bool : PySem.W.nsIn K mainGlobals "bool" = some none)
    (hz_int : PySem.W.nsIn K mainGlobals "int" = some none)
    (hz_isinstance : PySem.W.nsIn K mainGlobals "isinstance" = some none)
    (hz_len : PySem.W.nsIn K mainGlobals "len" = some none)
    (hz_range : PySem.W.nsIn K mainGlobals "range" = some none)
    (hz_tuple : PySem.W.nsIn K mainGlobals "tuple" = some none) :
    ∃ fd : FuncData, (∀ (s : Shared) (v : Value), BindsTo s fd ⟨[v], []⟩ [("script", v)]) ∧ ∀ base : Heap, K.In base → base.Ns mainGlobals mg → FnOk P w K mg base CX0 6 fa fd ["script"] (spLaw K) := by
  have e := (PySem.W.mg_of X G hA_law).symm.trans hfa
  cases e
  have T : Txt K mg { c_LiftError := c_LiftError, c_BadHouse := c_BadHouse, c_BadStanding := c_BadStanding, c_BadLift := c_BadLift, c_BadGroups := c_BadGroups, c_BadFloor := c_BadFloor, c_BadMove := c_BadMove, c_TooMany := c_TooMany, c_BadMoves := c_BadMoves, c_BadLog := c_BadLog, c_BadGap := c_BadGap, c_BadNumber := c_BadNumber, c_BadWay := c_BadWay, c_BadChoice := c_BadChoice, c_NoPlan := c_NoPlan, c_NotGround := c_NotGround, c_BadPrices := c_BadPrices, c_BadRoom := c_BadRoom, c_BadAnswer := c_BadAnswer, c_BadCounts := c_BadCounts, c_BadGroup := c_BadGroup, c_BadNews := c_BadNews, c_NothingDone := c_NothingDone, c_BadText := c_BadText, c_NoLine := c_NoLine, c_NoName := c_NoName, c_BadLoads := c_BadLoads, c_BadFacts := c_BadFacts, c_BadSeen := c_BadSeen, c_BadTree := c_BadTree, c_BadRoad := c_BadRoad, c_House := c_House, a__law_hand := a__law_hand, d__law_hand := (PySem.W.fnOf "_law_hand" "_law_hand" (defArgs s__law_hand) (defBody s__law_hand) (defScope s__law_hand) .none kV__law_hand dc__law_hand pm__law_hand an__law_hand cd__law_hand ct__law_hand), a__law_draw := a__law_draw, d__law_draw := (PySem.W.fnOf "_law_draw" "_law_draw" (defArgs s__law_draw) (defBody s__law_draw) (defScope s__law_draw) .none kV__law_draw dc__law_draw pm__law_draw an__law_draw cd__law_draw ct__law_draw), a_BadHouse___init__ := a_BadHouse___init__, d_BadHouse___init__ := (PySem.W.fnOf "__init__" "BadHouse.__init__" (defArgs s_BadHouse___init__) (defBody s_BadHouse___init__) (defScope s_BadHouse___init__) .none kV_BadHouse___init__ dc_BadHouse___init__ pm_BadHouse___init__ an_BadHouse___init__ cd_BadHouse___init__ ct_BadHouse___init__), a_BadStanding___init__ := a_BadStanding___init__, d_BadStanding___init__ := (PySem.W.fnOf "__init__" "BadStanding.__init__" (defArgs s_BadStanding___init__) (defBody s_BadStanding___init__) (defScope s_BadStanding___init__) .none kV_BadStanding___init__ dc_BadStanding___init__ pm_BadStanding___init__ an_BadStanding___init__ cd_BadStanding___init__ ct_BadStanding___init__), a_BadGroups___init__ := a_BadGroups___init__, d_BadGroups___init__ := (PySem.W.fnOf "__init__" "BadGroups.__init__" (defArgs s_BadGroups___init__) (defBody s_BadGroups___init__) (defScope s_BadGroups___init__) .none kV_BadGroups___init__ dc_BadGroups___init__ pm_BadGroups___init__ an_BadGroups___init__ cd_BadGroups___init__ ct_BadGroups___init__), a_TooMany___init__ := a_TooMany___init__, d_TooMany___init__ := (PySem.W.fnOf "__init__" "TooMany.__init__" (defArgs s_TooMany___init__) (defBody s_TooMany___init__) (defScope s_TooMany___init__) .none kV_TooMany___init__ dc_TooMany___init__ pm_TooMany___init__ an_TooMany___init__ cd_TooMany___init__ ct_TooMany___init__), a_BadMoves___init__ := a_BadMoves___init__, d_BadMoves___init__ := (PySem.W.fnOf "__init__" "BadMoves.__init__" (defArgs s_BadMoves___init__) (defBody s_BadMoves___init__) (defScope s_BadMoves___init__) .none kV_BadMoves___init__ dc_BadMoves___init__ pm_BadMoves___init__ an_BadMoves___init__ cd_BadMoves___init__ ct_BadMoves___init__), a_BadChoice___init__ := a_BadChoice___init__, d_BadChoice___init__ := (PySem.W.fnOf "__init__" "BadChoice.__init__" (defArgs s_BadChoice___init__) (defBody s_BadChoice___init__) (defScope s_BadChoice___init__) .none kV_BadChoice___init__ dc_BadChoice___init__ pm_BadChoice___init__ an_BadChoice___init__ cd_BadChoice___init__ ct_BadChoice___init__), a_BadNews___init__ := a_BadNews___init__, d_BadNews___init__ := (PySem.W.fnOf "__init__" "BadNews.__init__" (defArgs s_BadNews___init__) (defBody s_BadNews___init__) (defScope s_BadNews___init__) .none kV_BadNews___init__ dc_BadNews___init__ pm_BadNews___init__ an_BadNews___init__ cd_BadNews___init__ ct_BadNews___init__), a_BadText___init__ := a_BadText___init__, d_BadText___init__ := (PySem.W.fnOf "__init__" "BadText.__init__" (defArgs s_BadText___init__) (defBody s_BadText___init__) (defScope s_BadText___init__) .none kV_BadText___init__ dc_BadText___init__ pm_BadText___init__ an_BadText___init__ cd_BadText___init__ ct_BadText___init__), a_NoName___init__ := a_NoName___init__, d_NoName___init__ := (PySem.W.fnOf "__init__" "NoName.__init__" (defArgs s_NoName___init__) (defBody s_NoName___init__) (defScope s_NoName___init__) .none kV_NoName___init__ dc_NoName___init__ pm_NoName___init__ an_NoName___init__ cd_NoName___init__ ct_NoName___init__), a_BadFacts___init__ := a_BadFacts___init__, d_BadFacts___init__ := (PySem.W.fnOf "__init__" "BadFacts.__init__" (defArgs s_BadFacts___init__) (defBody s_BadFacts___init__) (defScope s_BadFacts___init__) .none kV_BadFacts___init__ dc_BadFacts___init__ pm_BadFacts___init__ an_BadFacts___init__ cd_BadFacts___init__ ct_BadFacts___init__), a_BadSeen___init__ := a_BadSeen___init__, d_BadSeen___init__ := (PySem.W.fnOf "__init__" "BadSeen.__init__" (defArgs s_BadSeen___init__) (defBody s_BadSeen___init__) (defScope s_BadSeen___init__) .none kV_BadSeen___init__ dc_BadSeen___init__ pm_BadSeen___init__ an_BadSeen___init__ cd_BadSeen___init__ ct_BadSeen___init__), a_BadTree___init__ := a_BadTree___init__, d_BadTree___init__ := (PySem.W.fnOf "__init__" "BadTree.__init__" (defArgs s_BadTree___init__) (defBody s_BadTree___init__) (defScope s_BadTree___init__) .none kV_BadTree___init__ dc_BadTree___init__ pm_BadTree___init__ an_BadTree___init__ cd_BadTree___init__ ct_BadTree___init__), a__law_made := a__law_made, d__law_made := (PySem.W.fnOf "_law_made" "_law_made" (defArgs s__law_made) (defBody s__law_made) (defScope s__law_made) .none kV__law_made dc__law_made pm__law_made an__law_made cd__law_made ct__law_made), a_is_integer := a_is_integer, d_is_integer := (PySem.W.fnOf "is_integer" "is_integer" (defArgs s_is_integer) (defBody s_is_integer) (defScope s_is_integer) .none kV_is_integer dc_is_integer pm_is_integer an_is_integer cd_is_integer ct_is_integer), a_is_between := a_is_between, d_is_between := (PySem.W.fnOf "is_between" "is_between" (defArgs s_is_between) (defBody s_is_between) (defScope s_is_between) .none kV_is_between dc_is_between pm_is_between an_is_between cd_is_between ct_is_between), a_House___init__ := a_House___init__, d_House___init__ := (PySem.W.fnOf "__init__" "House.__init__" (defArgs s_House___init__) (defBody s_House___init__) (defScope s_House___init__) .none kV_House___init__ dc_House___init__ pm_House___init__ an_House___init__ cd_House___init__ ct_House___init__), a__law_caught := a__law_caught, d__law_caught := (PySem.W.fnOf "_law_caught" "_law_caught" (defArgs s__law_caught) (defBody s__law_caught) (defScope s__law_caught) .none kV__law_caught dc__law_caught pm__law_caught an__law_caught cd__law_caught ct__law_caught), a__law_flags := a__law_flags, d__law_flags := (PySem.W.fnOf "_law_flags" "_law_flags" (defArgs s__law_flags) (defBody s__law_flags) (defScope s__law_flags) .none kV__law_flags dc__law_flags pm__law_flags an__law_flags cd__law_flags ct__law_flags), a__law_is_kept := a__law_is_kept, d__law_is_kept := (PySem.W.fnOf "_law_is_kept" "_law_is_kept" (defArgs s__law_is_kept) (defBody s__law_is_kept) (defScope s__law_is_kept) .none kV__law_is_kept dc__law_is_kept pm__law_is_kept an__law_is_kept cd__law_is_kept ct__law_is_kept), a_law := fa, d_law := (PySem.W.fnOf "law" "law" (defArgs s_law) (defBody s_law) (defScope s_law) .none kV_law dc_law pm_law an_law cd_law ct_law) } := {
    g_LiftError := PySem.W.mg_of X G gC_LiftError,
    g_BadHouse := PySem.W.mg_of X G gC_BadHouse,
    g_BadStanding := PySem.W.mg_of X G gC_BadStanding,
    g_BadLift := PySem.W.mg_of X G gC_BadLift,
    g_BadGroups := PySem.W.mg_of X G gC_BadGroups,
    g_BadFloor := PySem.W.mg_of X G gC_BadFloor,
    g_BadMove := PySem.W.mg_of X G gC_BadMove,
    g_TooMany := PySem.W.mg_of X G gC_TooMany,
    g_BadMoves := PySem.W.mg_of X G gC_BadMoves,
    g_BadLog := PySem.W.mg_of X G gC_BadLog,
    g_BadGap := PySem.W.mg_of X G gC_BadGap,
    g_BadNumber := PySem.W.mg_of X G gC_BadNumber,
    g_BadWay := PySem.W.mg_of X G gC_BadWay,
    g_BadChoice := PySem.W.mg_of X G gC_BadChoice,
    g_NoPlan := PySem.W.mg_of X G gC_NoPlan,
    g_NotGround := PySem.W.mg_of X G gC_NotGround,
    g_BadPrices := PySem.W.mg_of X G gC_BadPrices,
    g_BadRoom := PySem.W.mg_of X G gC_BadRoom,
    g_BadAnswer := PySem.W.mg_of X G gC_BadAnswer,
    g_BadCounts := PySem.W.mg_of X G gC_BadCounts,
    g_BadGroup := PySem.W.mg_of X G gC_BadGroup,
    g_BadNews := PySem.W.mg_of X G gC_BadNews,
    g_NothingDone := PySem.W.mg_of X G gC_NothingDone,
    g_BadText := PySem.W.mg_of X G gC_BadText,
    g_NoLine := PySem.W.mg_of X G gC_NoLine,
    g_NoName := PySem.W.mg_of X G gC_NoName,
    g_BadLoads := PySem.W.mg_of X G gC_BadLoads,
    g_BadFacts := PySem.W.mg_of X G gC_BadFacts,
    g_BadSeen := PySem.W.mg_of X G gC_BadSeen,
    g_BadTree := PySem.W.mg_of X G gC_BadTree,
    g_BadRoad := PySem.W.mg_of X G gC_BadRoad,
    g_House := PySem.W.mg_of X G gC_House,
    F__law_hand := fun_mk (st := s__law_hand) hL__law_hand hC__law_hand hK__law_hand,
    g__law_hand := PySem.W.mg_of X G hA__law_hand,
    b__law_hand := (fun_mk (st := s__law_hand) hL__law_hand hC__law_hand hK__law_hand).binds (ps := ["script"]) fun _ _ _ _ _ _ us hl => match us, hl with | [_], _ => rfl,
    F__law_draw := fun_mk (st := s__law_draw) hL__law_draw hC__law_draw hK__law_draw,
    g__law_draw := PySem.W.mg_of X G hA__law_draw,
    b__law_draw := (fun_mk (st := s__law_draw) hL__law_draw hC__law_draw hK__law_draw).binds (ps := ["hand", "many"]) fun _ _ _ _ _ _ us hl => match us, hl with | [_, _], _ => rfl,
    F_BadHouse___init__ := fun_mk (st := s_BadHouse___init__) hL_BadHouse___init__ hC_BadHouse___init__ hK_BadHouse___init__,
    b_BadHouse___init__ := (fun_mk (st := s_BadHouse___init__) hL_BadHouse___init__ hC_BadHouse___init__ hK_BadHouse___init__).binds (ps := ["self", "part"]) fun _ _ _ _ _ _ us hl => match us, hl with | [_, _], _ => rfl,
    F_BadStanding___init__ := fun_mk (st := s_BadStanding___init__) hL_BadStanding___init__ hC_BadStanding___init__ hK_BadStanding___init__,
    b_BadStanding___init__ := (fun_mk (st := s_BadStanding___init__) hL_BadStanding___init__ hC_BadStanding___init__ hK_BadStanding___init__).binds (ps := ["self", "part"]) fun _ _ _ _ _ _ us hl => match us, hl with | [_, _], _ => rfl,
    F_BadGroups___init__ := fun_mk (st := s_BadGroups___init__) hL_BadGroups___init__ hC_BadGroups___init__ hK_BadGroups___init__,
    b_BadGroups___init__ := (fun_mk (st := s_BadGroups___init__) hL_BadGroups___init__ hC_BadGroups___init__ hK_BadGroups___init__).binds (ps := ["self", "index"]) fun _ _ _ _ _ _ us hl => match us, hl with | [_, _], _ => rfl,
    F_TooMany___init__ := fun_mk (st := s_TooMany___init__) hL_TooMany___init__ hC_TooMany___init__ hK_TooMany___init__,
    b_TooMany___init__ := (fun_mk (st := s_TooMany___init__) hL_TooMany___init__ hC_TooMany___init__ hK_TooMany___init__).binds (ps := ["self", "limit"]) fun _ _ _ _ _ _ us hl => match us, hl with | [_, _], _ => rfl,
    F_BadMoves___init__ := fun_mk (st := s_BadMoves___init__) hL_BadMoves___init__ hC_BadMoves___init__ hK_BadMoves___init__,
    b_BadMoves___init__ := (fun_mk (st := s_BadMoves___init__) hL_BadMoves___init__ hC_BadMoves___init__ hK_BadMoves___init__).binds (ps := ["self", "index"]) fun _ _ _ _ _ _ us hl => match us, hl with | [_, _], _ => rfl,
    F_BadChoice___init__ := fun_mk (st := s_BadChoice___init__) hL_BadChoice___init__ hC_BadChoice___init__ hK_BadChoice___init__,
    b_BadChoice___init__ := (fun_mk (st := s_BadChoice___init__) hL_BadChoice___init__ hC_BadChoice___init__ hK_BadChoice___init__).binds (ps := ["self", "index"]) fun _ _ _ _ _ _ us hl => match us, hl with | [_, _], _ => rfl,
    F_BadNews___init__ := fun_mk (st := s_BadNews___init__) hL_BadNews___init__ hC_BadNews___init__ hK_BadNews___init__,
    b_BadNews___init__ := (fun_mk (st := s_BadNews___init__) hL_BadNews___init__ hC_BadNews___init__ hK_BadNews___init__).binds (ps := ["self", "index"]) fun _ _ _ _ _ _ us hl => match us, hl with | [_, _], _ => rfl,
    F_BadText___init__ := fun_mk (st := s_BadText___init__) hL_BadText___init__ hC_BadText___init__ hK_BadText___init__,
    b_BadText___init__ := (fun_mk (st := s_BadText___init__) hL_BadText___init__ hC_BadText___init__ hK_BadText___init__).binds (ps := ["self", "index"]) fun _ _ _ _ _ _ us hl => match us, hl with | [_, _], _ => rfl,
    F_NoName___init__ := fun_mk (st := s_NoName___init__) hL_NoName___init__ hC_NoName___init__ hK_NoName___init__,
    b_NoName___init__ := (fun_mk (st := s_NoName___init__) hL_NoName___init__ hC_NoName___init__ hK_NoName___init__).binds (ps := ["self", "name"]) fun _ _ _ _ _ _ us hl => match us, hl with | [_, _], _ => rfl,
    F_BadFacts___init__ := fun_mk (st := s_BadFacts___init__) hL_BadFacts___init__ hC_BadFacts___init__ hK_BadFacts___init__,
    b_BadFacts___init__ := (fun_mk (st := s_BadFacts___init__) hL_BadFacts___init__ hC_BadFacts___init__ hK_BadFacts___init__).binds (ps := ["self", "index"]) fun _ _ _ _ _ _ us hl => match us, hl with | [_, _], _ => rfl,
    F_BadSeen___init__ := fun_mk (st := s_BadSeen___init__) hL_BadSeen___init__ hC_BadSeen___init__ hK_BadSeen___init__,
    b_BadSeen___init__ := (fun_mk (st := s_BadSeen___init__) hL_BadSeen___init__ hC_BadSeen___init__ hK_BadSeen___init__).binds (ps := ["self", "index"]) fun _ _ _ _ _ _ us hl => match us, hl with | [_, _], _ => rfl,
    F_BadTree___init__ := fun_mk (st := s_BadTree___init__) hL_BadTree___init__ hC_BadTree___init__ hK_BadTree___init__,
    b_BadTree___init__ := (fun_mk (st := s_BadTree___init__) hL_BadTree___init__ hC_BadTree___init__ hK_BadTree___init__).binds (ps := ["self", "part"]) fun _ _ _ _ _ _ us hl => match us, hl with | [_, _], _ => rfl,
    F__law_made := fun_mk (st := s__law_made) hL__law_made hC__law_made hK__law_made,
    g__law_made := PySem.W.mg_of X G hA__law_made,
    b__law_made := (fun_mk (st := s__law_made) hL__law_made hC__law_made hK__law_made).binds (ps := ["thing"]) fun _ _ _ _ _ _ us hl => match us, hl with | [_], _ => rfl,
    F_is_integer := fun_mk (st := s_is_integer) hL_is_integer hC_is_integer hK_is_integer,
    g_is_integer := PySem.W.mg_of X G hA_is_integer,
    b_is_integer := (fun_mk (st := s_is_integer) hL_is_integer hC_is_integer hK_is_integer).binds (ps := ["thing"]) fun _ _ _ _ _ _ us hl => match us, hl with | [_], _ => rfl,
    F_is_between := fun_mk (st := s_is_between) hL_is_between hC_is_between hK_is_between,
    g_is_between := PySem.W.mg_of X G hA_is_between,
    b_is_between := (fun_mk (st := s_is_between) hL_is_between hC_is_between hK_is_between).binds (ps := ["low", "high", "thing"]) fun _ _ _ _ _ _ us hl => match us, hl with | [_, _, _], _ => rfl,
    F_House___init__ := fun_mk (st := s_House___init__) hL_House___init__ hC_House___init__ hK_House___init__,
    b_House___init__ := (fun_mk (st := s_House___init__) hL_House___init__ hC_House___init__ hK_House___init__).binds (ps := ["self", "floors", "room"]) fun _ _ _ _ _ _ us hl => match us, hl with | [_, _, _], _ => rfl,
    F__law_caught := fun_mk (st := s__law_caught) hL__law_caught hC__law_caught hK__law_caught,
    g__law_caught := PySem.W.mg_of X G hA__law_caught,
    b__law_caught := (fun_mk (st := s__law_caught) hL__law_caught hC__law_caught hK__law_caught).binds (ps := ["room"]) fun _ _ _ _ _ _ us hl => match us, hl with | [_], _ => rfl,
    F__law_flags := fun_mk (st := s__law_flags) hL__law_flags hC__law_flags hK__law_flags,
    g__law_flags := PySem.W.mg_of X G hA__law_flags,
    b__law_flags := (fun_mk (st := s__law_flags) hL__law_flags hC__law_flags hK__law_flags).binds (ps := ["e"]) fun _ _ _ _ _ _ us hl => match us, hl with | [_], _ => rfl,
    F__law_is_kept := fun_mk (st := s__law_is_kept) hL__law_is_kept hC__law_is_kept hK__law_is_kept,
    g__law_is_kept := PySem.W.mg_of X G hA__law_is_kept,
    b__law_is_kept := (fun_mk (st := s__law_is_kept) hL__law_is_kept hC__law_is_kept hK__law_is_kept).binds (ps := ["told", "thing"]) fun _ _ _ _ _ _ us hl => match us, hl with | [_, _], _ => rfl,
    F_law := fun_mk (st := s_law) hL_law hC_law hK_law,
    g_law := PySem.W.mg_of X G hA_law,
    b_law := (fun_mk (st := s_law) hL_law hC_law hK_law).binds (ps := ["script"]) fun _ _ _ _ _ _ us hl => match us, hl with | [_], _ => rfl,
    mk_House := ⟨k9_House, hA_House___init__, hI_House___init__, k0_House⟩,
    na_House_floors := na_House_floors,
    na_House_room := na_House_room,
    kits := ⟨fun _ => ⟨⟨k1_House, k2_House, k3_House, k4_House⟩, k5_House, kk1, kk2, k6_House, k7_House, k8_House, ktint_House, ktbool_House, ktstr_House, ktlist_House, kttuple_House, ktdict_House⟩, fun _ _ => by
      show PySem.W.mroIn K c_House (.ref c_House) = some (decide (c_House = c_House))
      rw [decide_eq_true rfl]
      exact kd_House_House⟩,
    xc_LiftError := xq_LiftError,
    kc_LiftError := x4_LiftError,
    er_LiftError := ⟨⟨_, _, _, _, _, _, _, _, _, _, _, _, _, _, x0_LiftError, rfl⟩, x2_LiftError, x3_LiftError, x6_LiftError, x7_LiftError, x8_LiftError, x9_LiftError, xi_LiftError, xo_LiftError⟩,
    er_BadHouse := ⟨⟨_, _, _, _, _, _, _, _, _, _, _, _, _, _, x0_BadHouse, rfl⟩, x2_BadHouse, x3_BadHouse, x6_BadHouse, x7_BadHouse, x8_BadHouse, x9_BadHouse, xi_BadHouse, xo_BadHouse⟩,
    er_BadStanding := ⟨⟨_, _, _, _, _, _, _, _, _, _, _, _, _, _, x0_BadStanding, rfl⟩, x2_BadStanding, x3_BadStanding, x6_BadStanding, x7_BadStanding, x8_BadStanding, x9_BadStanding, xi_BadStanding, xo_BadStanding⟩,
    xc_BadLift := xq_BadLift,
    kc_BadLift := x4_BadLift,
    er_BadLift := ⟨⟨_, _, _, _, _, _, _, _, _, _, _, _, _, _, x0_BadLift, rfl⟩, x2_BadLift, x3_BadLift, x6_BadLift, x7_BadLift, x8_BadLift, x9_BadLift, xi_BadLift, xo_BadLift⟩,
    er_BadGroups := ⟨⟨_, _, _, _, _, _, _, _, _, _, _, _, _, _, x0_BadGroups, rfl⟩, x2_BadGroups, x3_BadGroups, x6_BadGroups, x7_BadGroups, x8_BadGroups, x9_BadGroups, xi_BadGroups, xo_BadGroups⟩,
    xc_BadFloor := xq_BadFloor,
    kc_BadFloor := x4_BadFloor,
    er_BadFloor := ⟨⟨_, _, _, _, _, _, _, _, _, _, _, _, _, _, x0_BadFloor, rfl⟩, x2_BadFloor, x3_BadFloor, x6_BadFloor, x7_BadFloor, x8_BadFloor, x9_BadFloor, xi_BadFloor, xo_BadFloor⟩,
    xc_BadMove := xq_BadMove,
    kc_BadMove := x4_BadMove,
    er_BadMove := ⟨⟨_, _, _, _, _, _, _, _, _, _, _, _, _, _, x0_BadMove, rfl⟩, x2_BadMove, x3_BadMove, x6_BadMove, x7_BadMove, x8_BadMove, x9_BadMove, xi_BadMove, xo_BadMove⟩,
    er_TooMany := ⟨⟨_, _, _, _, _, _, _, _, _, _, _, _, _, _, x0_TooMany, rfl⟩, x2_TooMany, x3_TooMany, x6_TooMany, x7_TooMany, x8_TooMany, x9_TooMany, xi_TooMany, xo_TooMany⟩,
    er_BadMoves := ⟨⟨_, _, _, _, _, _, _, _, _, _, _, _, _, _, x0_BadMoves, rfl⟩, x2_BadMoves, x3_BadMoves, x6_BadMoves, x7_BadMoves, x8_BadMoves, x9_BadMoves, xi_BadMoves, xo_BadMoves⟩,
    xc_BadLog := xq_BadLog,
    kc_BadLog := x4_BadLog,
    er_BadLog := ⟨⟨_, _, _, _, _, _, _, _, _, _, _, _, _, _, x0_BadLog, rfl⟩, x2_BadLog, x3_BadLog, x6_BadLog, x7_BadLog, x8_BadLog, x9_BadLog, xi_BadLog, xo_BadLog⟩,
    xc_BadGap := xq_BadGap,
    kc_BadGap := x4_BadGap,
    er_BadGap := ⟨⟨_, _, _, _, _, _, _, _, _, _, _, _, _, _, x0_BadGap, rfl⟩, x2_BadGap, x3_BadGap, x6_BadGap, x7_BadGap, x8_BadGap, x9_BadGap, xi_BadGap, xo_BadGap⟩,
    xc_BadNumber := xq_BadNumber,
    kc_BadNumber := x4_BadNumber,
    er_BadNumber := ⟨⟨_, _, _, _, _, _, _, _, _, _, _, _, _, _, x0_BadNumber, rfl⟩, x2_BadNumber, x3_BadNumber, x6_BadNumber, x7_BadNumber, x8_BadNumber, x9_BadNumber, xi_BadNumber, xo_BadNumber⟩,
    xc_BadWay := xq_BadWay,
    kc_BadWay := x4_BadWay,
    er_BadWay := ⟨⟨_, _, _, _, _, _, _, _, _, _, _, _, _, _, x0_BadWay, rfl⟩, x2_BadWay, x3_BadWay, x6_BadWay, x7_BadWay, x8_BadWay, x9_BadWay, xi_BadWay, xo_BadWay⟩,
    er_BadChoice := ⟨⟨_, _, _, _, _, _, _, _, _, _, _, _, _, _, x0_BadChoice, rfl⟩, x2_BadChoice, x3_BadChoice, x6_BadChoice, x7_BadChoice, x8_BadChoice, x9_BadChoice, xi_BadChoice, xo_BadChoice⟩,
    xc_NoPlan := xq_NoPlan,
    kc_NoPlan := x4_NoPlan,
    er_NoPlan := ⟨⟨_, _, _, _, _, _, _, _, _, _, _, _, _, _, x0_NoPlan, rfl⟩, x2_NoPlan, x3_NoPlan, x6_NoPlan, x7_NoPlan, x8_NoPlan, x9_NoPlan, xi_NoPlan, xo_NoPlan⟩,
    xc_NotGround := xq_NotGround,
    kc_NotGround := x4_NotGround,
    er_NotGround := ⟨⟨_, _, _, _, _, _, _, _, _, _, _, _, _, _, x0_NotGround, rfl⟩, x2_NotGround, x3_NotGround, x6_NotGround, x7_NotGround, x8_NotGround, x9_NotGround, xi_NotGround, xo_NotGround⟩,
    xc_BadPrices := xq_BadPrices,
    kc_BadPrices := x4_BadPrices,
    er_BadPrices := ⟨⟨_, _, _, _, _, _, _, _, _, _, _, _, _, _, x0_BadPrices, rfl⟩, x2_BadPrices, x3_BadPrices, x6_BadPrices, x7_BadPrices, x8_BadPrices, x9_BadPrices, xi_BadPrices, xo_BadPrices⟩,
    xc_BadRoom := xq_BadRoom,
    kc_BadRoom := x4_BadRoom,
    er_BadRoom := ⟨⟨_, _, _, _, _, _, _, _, _, _, _, _, _, _, x0_BadRoom, rfl⟩, x2_BadRoom, x3_BadRoom, x6_BadRoom, x7_BadRoom, x8_BadRoom, x9_BadRoom, xi_BadRoom, xo_BadRoom⟩,
    xc_BadAnswer := xq_BadAnswer,
    kc_BadAnswer := x4_BadAnswer,
    er_BadAnswer := ⟨⟨_, _, _, _, _, _, _, _, _, _, _, _, _, _, x0_BadAnswer, rfl⟩, x2_BadAnswer, x3_BadAnswer, x6_BadAnswer, x7_BadAnswer, x8_BadAnswer, x9_BadAnswer, xi_BadAnswer, xo_BadAnswer⟩,
    xc_BadCounts := xq_BadCounts,
    kc_BadCounts := x4_BadCounts,
    er_BadCounts := ⟨⟨_, _, _, _, _, _, _, _, _, _, _, _, _, _, x0_BadCounts, rfl⟩, x2_BadCounts, x3_BadCounts, x6_BadCounts, x7_BadCounts, x8_BadCounts, x9_BadCounts, xi_BadCounts, xo_BadCounts⟩,
    xc_BadGroup := xq_BadGroup,
    kc_BadGroup := x4_BadGroup,
    er_BadGroup := ⟨⟨_, _, _, _, _, _, _, _, _, _, _, _, _, _, x0_BadGroup, rfl⟩, x2_BadGroup, x3_BadGroup, x6_BadGroup, x7_BadGroup, x8_BadGroup, x9_BadGroup, xi_BadGroup, xo_BadGroup⟩,
    er_BadNews := ⟨⟨_, _, _, _, _, _, _, _, _, _, _, _, _, _, x0_BadNews, rfl⟩, x2_BadNews, x3_BadNews, x6_BadNews, x7_BadNews, x8_BadNews, x9_BadNews, xi_BadNews, xo_BadNews⟩,
    xc_NothingDone := xq_NothingDone,
    kc_NothingDone := x4_NothingDone,
    er_NothingDone := ⟨⟨_, _, _, _, _, _, _, _, _, _, _, _, _, _, x0_NothingDone, rfl⟩, x2_NothingDone, x3_NothingDone, x6_NothingDone, x7_NothingDone, x8_NothingDone, x9_NothingDone, xi_NothingDone, xo_NothingDone⟩,
    er_BadText := ⟨⟨_, _, _, _, _, _, _, _, _, _, _, _, _, _, x0_BadText, rfl⟩, x2_BadText, x3_BadText, x6_BadText, x7_BadText, x8_BadText, x9_BadText, xi_BadText, xo_BadText⟩,
    xc_NoLine := xq_NoLine,
    kc_NoLine := x4_NoLine,
    er_NoLine := ⟨⟨_, _, _, _, _, _, _, _, _, _, _, _, _, _, x0_NoLine, rfl⟩, x2_NoLine, x3_NoLine, x6_NoLine, x7_NoLine, x8_NoLine, x9_NoLine, xi_NoLine, xo_NoLine⟩,
    er_NoName := ⟨⟨_, _, _, _, _, _, _, _, _, _, _, _, _, _, x0_NoName, rfl⟩, x2_NoName, x3_NoName, x6_NoName, x7_NoName, x8_NoName, x9_NoName, xi_NoName, xo_NoName⟩,
    xc_BadLoads := xq_BadLoads,
    kc_BadLoads := x4_BadLoads,
    er_BadLoads := ⟨⟨_, _, _, _, _, _, _, _, _, _, _, _, _, _, x0_BadLoads, rfl⟩, x2_BadLoads, x3_BadLoads, x6_BadLoads, x7_BadLoads, x8_BadLoads, x9_BadLoads, xi_BadLoads, xo_BadLoads⟩,
    er_BadFacts := ⟨⟨_, _, _, _, _, _, _, _, _, _, _, _, _, _, x0_BadFacts, rfl⟩, x2_BadFacts, x3_BadFacts, x6_BadFacts, x7_BadFacts, x8_BadFacts, x9_BadFacts, xi_BadFacts, xo_BadFacts⟩,
    er_BadSeen := ⟨⟨_, _, _, _, _, _, _, _, _, _, _, _, _, _, x0_BadSeen, rfl⟩, x2_BadSeen, x3_BadSeen, x6_BadSeen, x7_BadSeen, x8_BadSeen, x9_BadSeen, xi_BadSeen, xo_BadSeen⟩,
    er_BadTree := ⟨⟨_, _, _, _, _, _, _, _, _, _, _, _, _, _, x0_BadTree, rfl⟩, x2_BadTree, x3_BadTree, x6_BadTree, x7_BadTree, x8_BadTree, x9_BadTree, xi_BadTree, xo_BadTree⟩,
    xc_BadRoad := xq_BadRoad,
    kc_BadRoad := x4_BadRoad,
    er_BadRoad := ⟨⟨_, _, _, _, _, _, _, _, _, _, _, _, _, _, x0_BadRoad, rfl⟩, x2_BadRoad, x3_BadRoad, x6_BadRoad, x7_BadRoad, x8_BadRoad, x9_BadRoad, xi_BadRoad, xo_BadRoad⟩,
    ek := ⟨kk1, kk2⟩,
    nd := nd,
    oe_BadHouse := ⟨⟨_, _, _, _, _, _, _, _, _, _, _, _, _, _, _, x0_BadHouse, rfl⟩, x1_BadHouse, x2_BadHouse, x3_BadHouse, x4_BadHouse⟩,
    i_BadHouse := hA_BadHouse___init__,
    t_BadHouse := x5_BadHouse,
    xf_BadHouse := ⟨x6_BadHouse, x7_BadHouse, x2_BadHouse, x8_BadHouse⟩,
    no_BadHouse := no_BadHouse,
    oe_BadStanding := ⟨⟨_, _, _, _, _, _, _, _, _, _, _, _, _, _, _, x0_BadStanding, rfl⟩, x1_BadStanding, x2_BadStanding, x3_BadStanding, x4_BadStanding⟩,
    i_BadStanding := hA_BadStanding___init__,
    t_BadStanding := x5_BadStanding,
    xf_BadStanding := ⟨x6_BadStanding, x7_BadStanding, x2_BadStanding, x8_BadStanding⟩,
    no_BadStanding := no_BadStanding,
    oe_BadGroups := ⟨⟨_, _, _, _, _, _, _, _, _, _, _, _, _, _, _, x0_BadGroups, rfl⟩, x1_BadGroups, x2_BadGroups, x3_BadGroups, x4_BadGroups⟩,
    i_BadGroups := hA_BadGroups___init__,
    t_BadGroups := x5_BadGroups,
    xf_BadGroups := ⟨x6_BadGroups, x7_BadGroups, x2_BadGroups, x8_BadGroups⟩,
    no_BadGroups := no_BadGroups,
    oe_TooMany := ⟨⟨_, _, _, _, _, _, _, _, _, _, _, _, _, _, _, x0_TooMany, rfl⟩, x1_TooMany, x2_TooMany, x3_TooMany, x4_TooMany⟩,
    i_TooMany := hA_TooMany___init__,
    t_TooMany := x5_TooMany,
    xf_TooMany := ⟨x6_TooMany, x7_TooMany, x2_TooMany, x8_TooMany⟩,
    no_TooMany := no_TooMany,
    oe_BadMoves := ⟨⟨_, _, _, _, _, _, _, _, _, _, _, _, _, _, _, x0_BadMoves, rfl⟩, x1_BadMoves, x2_BadMoves, x3_BadMoves, x4_BadMoves⟩,
    i_BadMoves := hA_BadMoves___init__,
    t_BadMoves := x5_BadMoves,
    xf_BadMoves := ⟨x6_BadMoves, x7_BadMoves, x2_BadMoves, x8_BadMoves⟩,
    no_BadMoves := no_BadMoves,
    oe_BadChoice := ⟨⟨_, _, _, _, _, _, _, _, _, _, _, _, _, _, _, x0_BadChoice, rfl⟩, x1_BadChoice, x2_BadChoice, x3_BadChoice, x4_BadChoice⟩,
    i_BadChoice := hA_BadChoice___init__,
    t_BadChoice := x5_BadChoice,
    xf_BadChoice := ⟨x6_BadChoice, x7_BadChoice, x2_BadChoice, x8_BadChoice⟩,
    no_BadChoice := no_BadChoice,
    oe_BadNews := ⟨⟨_, _, _, _, _, _, _, _, _, _, _, _, _, _, _, x0_BadNews, rfl⟩, x1_BadNews, x2_BadNews, x3_BadNews, x4_BadNews⟩,
    i_BadNews := hA_BadNews___init__,
    t_BadNews := x5_BadNews,
    xf_BadNews := ⟨x6_BadNews, x7_BadNews, x2_BadNews, x8_BadNews⟩,
    no_BadNews := no_BadNews,
    oe_BadText := ⟨⟨_, _, _, _, _, _, _, _, _, _, _, _, _, _, _, x0_BadText, rfl⟩, x1_BadText, x2_BadText, x3_BadText, x4_BadText⟩,
    i_BadText := hA_BadText___init__,
    t_BadText := x5_BadText,
    xf_BadText := ⟨x6_BadText, x7_BadText, x2_BadText, x8_BadText⟩,
    no_BadText := no_BadText,
    oe_NoName := ⟨⟨_, _, _, _, _, _, _, _, _, _, _, _, _, _, _, x0_NoName, rfl⟩, x1_NoName, x2_NoName, x3_NoName, x4_NoName⟩,
    i_NoName := hA_NoName___init__,
    t_NoName := x5_NoName,
    xf_NoName := ⟨x6_NoName, x7_NoName, x2_NoName, x8_NoName⟩,
    no_NoName := no_NoName,
    oe_BadFacts := ⟨⟨_, _, _, _, _, _, _, _, _, _, _, _, _, _, _, x0_BadFacts, rfl⟩, x1_BadFacts, x2_BadFacts, x3_BadFacts, x4_BadFacts⟩,
    i_BadFacts := hA_BadFacts___init__,
    t_BadFacts := x5_BadFacts,
    xf_BadFacts := ⟨x6_BadFacts, x7_BadFacts, x2_BadFacts, x8_BadFacts⟩,
    no_BadFacts := no_BadFacts,
    oe_BadSeen := ⟨⟨_, _, _, _, _, _, _, _, _, _, _, _, _, _, _, x0_BadSeen, rfl⟩, x1_BadSeen, x2_BadSeen, x3_BadSeen, x4_BadSeen⟩,
    i_BadSeen := hA_BadSeen___init__,
    t_BadSeen := x5_BadSeen,
    xf_BadSeen := ⟨x6_BadSeen, x7_BadSeen, x2_BadSeen, x8_BadSeen⟩,
    no_BadSeen := no_BadSeen,
    oe_BadTree := ⟨⟨_, _, _, _, _, _, _, _, _, _, _, _, _, _, _, x0_BadTree, rfl⟩, x1_BadTree, x2_BadTree, x3_BadTree, x4_BadTree⟩,
    i_BadTree := hA_BadTree___init__,
    t_BadTree := x5_BadTree,
    xf_BadTree := ⟨x6_BadTree, x7_BadTree, x2_BadTree, x8_BadTree⟩,
    no_BadTree := no_BadTree,
    em_BadChoice_BadHouse := PySem.W.exm_ref y2_BadHouse y8_BadHouse y3_BadHouse y_BadChoice_BadHouse,
    em_BadFacts_BadHouse := PySem.W.exm_ref y2_BadHouse y8_BadHouse y3_BadHouse y_BadFacts_BadHouse,
    em_BadGroups_BadHouse := PySem.W.exm_ref y2_BadHouse y8_BadHouse y3_BadHouse y_BadGroups_BadHouse,
    em_BadHouse_BadHouse := PySem.W.exm_ref y2_BadHouse y8_BadHouse y3_BadHouse y_BadHouse_BadHouse,
    em_BadMoves_BadHouse := PySem.W.exm_ref y2_BadHouse y8_BadHouse y3_BadHouse y_BadMoves_BadHouse,
    em_BadNews_BadHouse := PySem.W.exm_ref y2_BadHouse y8_BadHouse y3_BadHouse y_BadNews_BadHouse,
    em_BadSeen_BadHouse := PySem.W.exm_ref y2_BadHouse y8_BadHouse y3_BadHouse y_BadSeen_BadHouse,
    em_BadStanding_BadHouse := PySem.W.exm_ref y2_BadHouse y8_BadHouse y3_BadHouse y_BadStanding_BadHouse,
    em_BadText_BadHouse := PySem.W.exm_ref y2_BadHouse y8_BadHouse y3_BadHouse y_BadText_BadHouse,
    em_BadTree_BadHouse := PySem.W.exm_ref y2_BadHouse y8_BadHouse y3_BadHouse y_BadTree_BadHouse,
    em_NoName_BadHouse := PySem.W.exm_ref y2_BadHouse y8_BadHouse y3_BadHouse y_NoName_BadHouse,
    em_TooMany_BadHouse := PySem.W.exm_ref y2_BadHouse y8_BadHouse y3_BadHouse y_TooMany_BadHouse,
    em_BadChoice_LiftError := PySem.W.exm_ref y2_LiftError y8_LiftError y3_LiftError y_BadChoice_LiftError,
    em_BadFacts_LiftError := PySem.W.exm_ref y2_LiftError y8_LiftError y3_LiftError y_BadFacts_LiftError,
    em_BadGroups_LiftError := PySem.W.exm_ref y2_LiftError y8_LiftError y3_LiftError y_BadGroups_LiftError,
    em_BadHouse_LiftError := PySem.W.exm_ref y2_LiftError y8_LiftError y3_LiftError y_BadHouse_LiftError,
    em_BadMoves_LiftError := PySem.W.exm_ref y2_LiftError y8_LiftError y3_LiftError y_BadMoves_LiftError,
    em_BadNews_LiftError := PySem.W.exm_ref y2_LiftError y8_LiftError y3_LiftError y_BadNews_LiftError,
    em_BadSeen_LiftError := PySem.W.exm_ref y2_LiftError y8_LiftError y3_LiftError y_BadSeen_LiftError,
    em_BadStanding_LiftError := PySem.W.exm_ref y2_LiftError y8_LiftError y3_LiftError y_BadStanding_LiftError,
    em_BadText_LiftError := PySem.W.exm_ref y2_LiftError y8_LiftError y3_LiftError y_BadText_LiftError,
    em_BadTree_LiftError := PySem.W.exm_ref y2_LiftError y8_LiftError y3_LiftError y_BadTree_LiftError,
    em_NoName_LiftError := PySem.W.exm_ref y2_LiftError y8_LiftError y3_LiftError y_NoName_LiftError,
    em_TooMany_LiftError := PySem.W.exm_ref y2_LiftError y8_LiftError y3_LiftError y_TooMany_LiftError,
    c_MOST_FLOORS := ⟨_, PySem.W.mg_of X G hv_MOST_FLOORS⟩,
    c_MOST_ROOM := hl_MOST_ROOM,
    n_ValueError := PySem.W.mg_none_of X G hz_ValueError,
    n_abs := PySem.W.mg_none_of X G hz_abs,
    n_all := PySem.W.mg_none_of X G hz_all,
    n_bool := PySem.W.mg_none_of X G hz_bool,
    n_int := PySem.W.mg_none_of X G hz_int,
    n_isinstance := PySem.W.mg_none_of X G hz_isinstance,
    n_len := PySem.W.mg_none_of X G hz_len,
    n_range := PySem.W.mg_none_of X G hz_range,
    n_tuple := PySem.W.mg_none_of X G hz_tuple }
  exact ⟨_, fun s v => .of_eq rfl, fun base _ _ => G_law T⟩
end Zo
open PySem PySem.W PyProof.Rows in
set_option maxRecDepth 100000 in
set_option maxHeartbeats 0 in
theorem PySem.Challenge.cw_willinglift_k00_errors_of_the_package_holds : PySem.Challenge.rw_willinglift_k00_errors_of_the_package.Holds := by
  w_on; o_law; k_head; (case hw => w_witness2)
  k_fill
  refine Zo.walk_ofX (l := PySem.Challenge.rw_willinglift_k00_errors_of_the_package) (n := 63) (k := 6) (x := "script") (CX := fun _ => L2.CX0) (sp := Zo.spLaw) rfl (by decide) rfl ⟨rfl, by decide, by decide⟩ (fun w h Y => PySem.W.kIn_of Y) ?F (fun K H a ns hl hO hS => ⟨a, ns, rfl, hS, hl, fun _ => rfl⟩) (fun _ _ _ _ _ z => z)
  case F =>
    intro w mg fa h XP KX G hmg
    have hl_MOST_ROOM := Zo.loose_int (x := "MOST_ROOM") (i := 1000000000000) XP (by simp)
    refine' Zo.all_mk KX G hmg hl_MOST_ROOM ?gC_LiftError ?gC_BadHouse ?gC_BadStanding ?gC_BadLift ?gC_BadGroups ?gC_BadFloor ?gC_BadMove ?gC_TooMany ?gC_BadMoves ?gC_BadLog ?gC_BadGap ?gC_BadNumber ?gC_BadWay ?gC_BadChoice ?gC_NoPlan ?gC_NotGround ?gC_BadPrices ?gC_BadRoom ?gC_BadAnswer ?gC_BadCounts ?gC_BadGroup ?gC_BadNews ?gC_NothingDone ?gC_BadText ?gC_NoLine ?gC_NoName ?gC_BadLoads ?gC_BadFacts ?gC_BadSeen ?gC_BadTree ?gC_BadRoad ?gC_House ?hA__law_hand ?hL__law_hand ?hC__law_hand ?hK__law_hand ?hA__law_draw ?hL__law_draw ?hC__law_draw ?hK__law_draw ?hA_BadHouse___init__ ?hL_BadHouse___init__ ?hC_BadHouse___init__ ?hK_BadHouse___init__ ?hA_BadStanding___init__ ?hL_BadStanding___init__ ?hC_BadStanding___init__ ?hK_BadStanding___init__ ?hA_BadGroups___init__ ?hL_BadGroups___init__ ?hC_BadGroups___init__ ?hK_BadGroups___init__ ?hA_TooMany___init__ ?hL_TooMany___init__ ?hC_TooMany___init__ ?hK_TooMany___init__ ?hA_BadMoves___init__ ?hL_BadMoves___init__ ?hC_BadMoves___init__ ?hK_BadMoves___init__ ?hA_BadChoice___init__ ?hL_BadChoice___init__ ?hC_BadChoice___init__ ?hK_BadChoice___init__ ?hA_BadNews___init__ ?hL_BadNews___init__ ?hC_BadNews___init__ ?hK_BadNews___init__ ?hA_BadText___init__ ?hL_BadText___init__ ?hC_BadText___init__ ?hK_BadText___init__ ?hA_NoName___init__ ?hL_NoName___init__ ?hC_NoName___init__ ?hK_NoName___init__ ?hA_BadFacts___init__ ?hL_BadFacts___init__ ?hC_BadFacts___init__ ?hK_BadFacts___init__ ?hA_BadSeen___init__ ?hL_BadSeen___init__ ?hC_BadSeen___init__ ?hK_BadSeen___init__ ?hA_BadTree___init__ ?hL_BadTree___init__ ?hC_BadTree___init__ ?hK_BadTree___init__ ?hA__law_made ?hL__law_made ?hC__law_made ?hK__law_made ?hA_is_integer ?hL_is_integer ?hC_is_integer ?hK_is_integer ?hA_is_between ?hL_is_between ?hC_is_between ?hK_is_between ?hA_House___init__ ?hL_House___init__ ?hC_House___init__ ?hK_House___init__ ?hI_House___init__ ?hA__law_caught ?hL__law_caught ?hC__law_caught ?hK__law_caught ?hA__law_flags ?hL__law_flags ?hC__law_flags ?hK__law_flags ?hA__law_is_kept ?hL__law_is_kept ?hC__law_is_kept ?hK__law_is_kept ?hA_law ?hL_law ?hC_law ?hK_law ?k1_House ?k2_House ?k3_House ?k4_House ?k5_House ?k6_House ?k7_House ?k8_House ?ktint_House ?ktbool_House ?ktstr_House ?ktlist_House ?kttuple_House ?ktdict_House ?k9_House ?k0_House ?na_House_floors ?na_House_room ?kk1 ?kk2 ?kd_House_House ?x0_LiftError ?x2_LiftError ?x3_LiftError ?x4_LiftError ?x6_LiftError ?x7_LiftError ?x8_LiftError ?xq_LiftError ?x9_LiftError ?xi_LiftError ?xo_LiftError ?x9_BadHouse ?xi_BadHouse ?xo_BadHouse ?x9_BadStanding ?xi_BadStanding ?xo_BadStanding ?x0_BadLift ?x2_BadLift ?x3_BadLift ?x4_BadLift ?x6_BadLift ?x7_BadLift ?x8_BadLift ?xq_BadLift ?x9_BadLift ?xi_BadLift ?xo_BadLift ?x9_BadGroups ?xi_BadGroups ?xo_BadGroups ?x0_BadFloor ?x2_BadFloor ?x3_BadFloor ?x4_BadFloor ?x6_BadFloor ?x7_BadFloor ?x8_BadFloor ?xq_BadFloor ?x9_BadFloor ?xi_BadFloor ?xo_BadFloor ?x0_BadMove ?x2_BadMove ?x3_BadMove ?x4_BadMove ?x6_BadMove ?x7_BadMove ?x8_BadMove ?xq_BadMove ?x9_BadMove ?xi_BadMove ?xo_BadMove ?x9_TooMany ?xi_TooMany ?xo_TooMany ?x9_BadMoves ?xi_BadMoves ?xo_BadMoves ?x0_BadLog ?x2_BadLog ?x3_BadLog ?x4_BadLog ?x6_BadLog ?x7_BadLog ?x8_BadLog ?xq_BadLog ?x9_BadLog ?xi_BadLog ?xo_BadLog ?x0_BadGap ?x2_BadGap ?x3_BadGap ?x4_BadGap ?x6_BadGap ?x7_BadGap ?x8_BadGap ?xq_BadGap ?x9_BadGap ?xi_BadGap ?xo_BadGap ?x0_BadNumber ?x2_BadNumber ?x3_BadNumber ?x4_BadNumber ?x6_BadNumber ?x7_BadNumber ?x8_BadNumber ?xq_BadNumber ?x9_BadNumber ?xi_BadNumber ?xo_BadNumber ?x0_BadWay ?x2_BadWay ?x3_BadWay ?x4_BadWay ?x6_BadWay ?x7_BadWay ?x8_BadWay ?xq_BadWay ?x9_BadWay ?xi_BadWay ?xo_BadWay ?x9_BadChoice ?xi_BadChoice ?xo_BadChoice ?x0_NoPlan ?x2_NoPlan ?x3_NoPlan ?x4_NoPlan ?x6_NoPlan ?x7_NoPlan ?x8_NoPlan ?xq_NoPlan ?x9_NoPlan ?xi_NoPlan ?xo_NoPlan ?x0_NotGround ?x2_NotGround ?x3_NotGround ?x4_NotGround ?x6_NotGround ?x7_NotGround ?x8_NotGround ?xq_NotGround ?x9_NotGround ?xi_NotGround ?xo_NotGround ?x0_BadPrices ?x2_BadPrices ?x3_BadPrices ?x4_BadPrices ?x6_BadPrices ?x7_BadPrices ?x8_BadPrices ?xq_BadPrices ?x9_BadPrices ?xi_BadPrices ?xo_BadPrices ?x0_BadRoom ?x2_BadRoom ?x3_BadRoom ?x4_BadRoom ?x6_BadRoom ?x7_BadRoom ?x8_BadRoom ?xq_BadRoom ?x9_BadRoom ?xi_BadRoom ?xo_BadRoom ?x0_BadAnswer ?x2_BadAnswer ?x3_BadAnswer ?x4_BadAnswer ?x6_BadAnswer ?x7_BadAnswer ?x8_BadAnswer ?xq_BadAnswer ?x9_BadAnswer ?xi_BadAnswer ?xo_BadAnswer ?x0_BadCounts ?x2_BadCounts ?x3_BadCounts ?x4_BadCounts ?x6_BadCounts ?x7_BadCounts ?x8_BadCounts ?xq_BadCounts ?x9_BadCounts ?xi_BadCounts ?xo_BadCounts ?x0_BadGroup ?x2_BadGroup ?x3_BadGroup ?x4_BadGroup ?x6_BadGroup ?x7_BadGroup ?x8_BadGroup ?xq_BadGroup ?x9_BadGroup ?xi_BadGroup ?xo_BadGroup ?x9_BadNews ?xi_BadNews ?xo_BadNews ?x0_NothingDone ?x2_NothingDone ?x3_NothingDone ?x4_NothingDone ?x6_NothingDone ?x7_NothingDone ?x8_NothingDone ?xq_NothingDone ?x9_NothingDone ?xi_NothingDone ?xo_NothingDone ?x9_BadText ?xi_BadText ?xo_BadText ?x0_NoLine ?x2_NoLine ?x3_NoLine ?x4_NoLine ?x6_NoLine ?x7_NoLine ?x8_NoLine ?xq_NoLine ?x9_NoLine ?xi_NoLine ?xo_NoLine ?x9_NoName ?xi_NoName ?xo_NoName ?x0_BadLoads ?x2_BadLoads ?x3_BadLoads ?x4_BadLoads ?x6_BadLoads ?x7_BadLoads ?x8_BadLoads ?xq_BadLoads ?x9_BadLoads ?xi_BadLoads ?xo_BadLoads ?x9_BadFacts ?xi_BadFacts ?xo_BadFacts ?x9_BadSeen ?xi_BadSeen ?xo_BadSeen ?x9_BadTree ?xi_BadTree ?xo_BadTree ?x0_BadRoad ?x2_BadRoad ?x3_BadRoad ?x4_BadRoad ?x6_BadRoad ?x7_BadRoad ?x8_BadRoad ?xq_BadRoad ?x9_BadRoad ?xi_BadRoad ?xo_BadRoad ?nd ?x0_BadHouse ?x1_BadHouse ?x2_BadHouse ?x3_BadHouse ?x4_BadHouse ?x5_BadHouse ?x6_BadHouse ?x7_BadHouse ?x8_BadHouse ?no_BadHouse ?x0_BadStanding ?x1_BadStanding ?x2_BadStanding ?x3_BadStanding ?x4_BadStanding ?x5_BadStanding ?x6_BadStanding ?x7_BadStanding ?x8_BadStanding ?no_BadStanding ?x0_BadGroups ?x1_BadGroups ?x2_BadGroups ?x3_BadGroups ?x4_BadGroups ?x5_BadGroups ?x6_BadGroups ?x7_BadGroups ?x8_BadGroups ?no_BadGroups ?x0_TooMany ?x1_TooMany ?x2_TooMany ?x3_TooMany ?x4_TooMany ?x5_TooMany ?x6_TooMany ?x7_TooMany ?x8_TooMany ?no_TooMany ?x0_BadMoves ?x1_BadMoves ?x2_BadMoves ?x3_BadMoves ?x4_BadMoves ?x5_BadMoves ?x6_BadMoves ?x7_BadMoves ?x8_BadMoves ?no_BadMoves ?x0_BadChoice ?x1_BadChoice ?x2_BadChoice ?x3_BadChoice ?x4_BadChoice ?x5_BadChoice ?x6_BadChoice ?x7_BadChoice ?x8_BadChoice ?no_BadChoice ?x0_BadNews ?x1_BadNews ?x2_BadNews ?x3_BadNews ?x4_BadNews ?x5_BadNews ?x6_BadNews ?x7_BadNews ?x8_BadNews ?no_BadNews ?x0_BadText ?x1_BadText ?x2_BadText ?x3_BadText ?x4_BadText ?x5_BadText ?x6_BadText ?x7_BadText ?x8_BadText ?no_BadText ?x0_NoName ?x1_NoName ?x2_NoName ?x3_NoName ?x4_NoName ?x5_NoName ?x6_NoName ?x7_NoName ?x8_NoName ?no_NoName ?x0_BadFacts ?x1_BadFacts ?x2_BadFacts ?x3_BadFacts ?x4_BadFacts ?x5_BadFacts ?x6_BadFacts ?x7_BadFacts ?x8_BadFacts ?no_BadFacts ?x0_BadSeen ?x1_BadSeen ?x2_BadSeen ?x3_BadSeen ?x4_BadSeen ?x5_BadSeen ?x6_BadSeen ?x7_BadSeen ?x8_BadSeen ?no_BadSeen ?x0_BadTree ?x1_BadTree ?x2_BadTree ?x3_BadTree ?x4_BadTree ?x5_BadTree ?x6_BadTree ?x7_BadTree ?x8_BadTree ?no_BadTree ?y2_BadHouse ?y3_BadHouse ?y8_BadHouse ?y_BadChoice_BadHouse ?y_BadFacts_BadHouse ?y_BadGroups_BadHouse ?y_BadHouse_BadHouse ?y_BadMoves_BadHouse ?y_BadNews_BadHouse ?y_BadSeen_BadHouse ?y_BadStanding_BadHouse ?y_BadText_BadHouse ?y_BadTree_BadHouse ?y_NoName_BadHouse ?y_TooMany_BadHouse ?y2_LiftError ?y3_LiftError ?y8_LiftError ?y_BadChoice_LiftError ?y_BadFacts_LiftError ?y_BadGroups_LiftError ?y_BadHouse_LiftError ?y_BadMoves_LiftError ?y_BadNews_LiftError ?y_BadSeen_LiftError ?y_BadStanding_LiftError ?y_BadText_LiftError ?y_BadTree_LiftError ?y_NoName_LiftError ?y_TooMany_LiftError ?hv_MOST_FLOORS ?hz_ValueError ?hz_abs ?hz_all ?hz_bool ?hz_int ?hz_isinstance ?hz_len ?hz_range ?hz_tuple
    (case gC_LiftError => k_is)
    (case gC_BadHouse => k_is)
    (case gC_BadStanding => k_is)
    (case gC_BadLift => k_is)
    (case gC_BadGroups => k_is)
    (case gC_BadFloor => k_is)
    (case gC_BadMove => k_is)
    (case gC_TooMany => k_is)
    (case gC_BadMoves => k_is)
    (case gC_BadLog => k_is)
    (case gC_BadGap => k_is)
    (case gC_BadNumber => k_is)
    (case gC_BadWay => k_is)
    (case gC_BadChoice => k_is)
    (case gC_NoPlan => k_is)
    (case gC_NotGround => k_is)
    (case gC_BadPrices => k_is)
    (case gC_BadRoom => k_is)
    (case gC_BadAnswer => k_is)
    (case gC_BadCounts => k_is)
    (case gC_BadGroup => k_is)
    (case gC_BadNews => k_is)
    (case gC_NothingDone => k_is)
    (case gC_BadText => k_is)
    (case gC_NoLine => k_is)
    (case gC_NoName => k_is)
    (case gC_BadLoads => k_is)
    (case gC_BadFacts => k_is)
    (case gC_BadSeen => k_is)
    (case gC_BadTree => k_is)
    (case gC_BadRoad => k_is)
    (case gC_House => k_is)
    (case hA__law_hand => k_is)
    (case hL__law_hand => k_is)
    (case hC__law_hand => k_is)
    (case hK__law_hand => k_is)
    (case hA__law_draw => k_is)
    (case hL__law_draw => k_is)
    (case hC__law_draw => k_is)
    (case hK__law_draw => k_is)
    (case hA_BadHouse___init__ => k_is)
    (case hL_BadHouse___init__ => k_is)
    (case hC_BadHouse___init__ => k_is)
    (case hK_BadHouse___init__ => k_is)
    (case hA_BadStanding___init__ => k_is)
    (case hL_BadStanding___init__ => k_is)
    (case hC_BadStanding___init__ => k_is)
    (case hK_BadStanding___init__ => k_is)
    (case hA_BadGroups___init__ => k_is)
    (case hL_BadGroups___init__ => k_is)
    (case hC_BadGroups___init__ => k_is)
    (case hK_BadGroups___init__ => k_is)
    (case hA_TooMany___init__ => k_is)
    (case hL_TooMany___init__ => k_is)
    (case hC_TooMany___init__ => k_is)
    (case hK_TooMany___init__ => k_is)
    (case hA_BadMoves___init__ => k_is)
    (case hL_BadMoves___init__ => k_is)
    (case hC_BadMoves___init__ => k_is)
    (case hK_BadMoves___init__ => k_is)
    (case hA_BadChoice___init__ => k_is)
    (case hL_BadChoice___init__ => k_is)
    (case hC_BadChoice___init__ => k_is)
    (case hK_BadChoice___init__ => k_is)
    (case hA_BadNews___init__ => k_is)
    (case hL_BadNews___init__ => k_is)
    (case hC_BadNews___init__ => k_is)
    (case hK_BadNews___init__ => k_is)
    (case hA_BadText___init__ => k_is)
    (case hL_BadText___init__ => k_is)
    (case hC_BadText___init__ => k_is)
    (case hK_BadText___init__ => k_is)
    (case hA_NoName___init__ => k_is)
    (case hL_NoName___init__ => k_is)
    (case hC_NoName___init__ => k_is)
    (case hK_NoName___init__ => k_is)
    (case hA_BadFacts___init__ => k_is)
    (case hL_BadFacts___init__ => k_is)
    (case hC_BadFacts___init__ => k_is)
    (case hK_BadFacts___init__ => k_is)
    (case hA_BadSeen___init__ => k_is)
    (case hL_BadSeen___init__ => k_is)
    (case hC_BadSeen___init__ => k_is)
    (case hK_BadSeen___init__ => k_is)
    (case hA_BadTree___init__ => k_is)
    (case hL_BadTree___init__ => k_is)
    (case hC_BadTree___init__ => k_is)
    (case hK_BadTree___init__ => k_is)
    (case hA__law_made => k_is)
    (case hL__law_made => k_is)
    (case hC__law_made => k_is)
    (case hK__law_made => k_is)
    (case hA_is_integer => k_is)
    (case hL_is_integer => k_is)
    (case hC_is_integer => k_is)
    (case hK_is_integer => k_is)
    (case hA_is_between => k_is)
    (case hL_is_between => k_is)
    (case hC_is_between => k_is)
    (case hK_is_between => k_is)
    (case hA_House___init__ => k_is)
    (case hL_House___init__ => k_is)
    (case hC_House___init__ => k_is)
    (case hK_House___init__ => k_is)
    (case hI_House___init__ => k_is)
    (case hA__law_caught => k_is)
    (case hL__law_caught => k_is)
    (case hC__law_caught => k_is)
    (case hK__law_caught => k_is)
    (case hA__law_flags => k_is)
    (case hL__law_flags => k_is)
    (case hC__law_flags => k_is)
    (case hK__law_flags => k_is)
    (case hA__law_is_kept => k_is)
    (case hL__law_is_kept => k_is)
    (case hC__law_is_kept => k_is)
    (case hK__law_is_kept => k_is)
    (case hA_law => k_is)
    (case hL_law => k_is)
    (case hC_law => k_is)
    (case hK_law => k_is)
    (case k1_House => k_is)
    (case k2_House => k_is)
    (case k3_House => k_is)
    (case k4_House => k_is)
    (case k5_House => k_is)
    (case k6_House => k_is)
    (case k7_House => k_is)
    (case k8_House => k_is)
    (case ktint_House => k_is)
    (case ktbool_House => k_is)
    (case ktstr_House => k_is)
    (case ktlist_House => k_is)
    (case kttuple_House => k_is)
    (case ktdict_House => k_is)
    (case k9_House => k_is)
    (case k0_House => k_is)
    (case na_House_floors => k_is)
    (case na_House_room => k_is)
    (case kk1 => k_is)
    (case kk2 => k_is)
    (case kd_House_House => k_is)
    (case x0_LiftError => k_is)
    (case x2_LiftError => k_is)
    (case x3_LiftError => k_is)
    (case x4_LiftError => k_is)
    (case x6_LiftError => k_is)
    (case x7_LiftError => k_is)
    (case x8_LiftError => k_is)
    (case xq_LiftError => k_exc)
    (case x9_LiftError => k_is)
    (case xi_LiftError => k_is)
    (case xo_LiftError => k_is)
    (case x9_BadHouse => k_is)
    (case xi_BadHouse => k_is)
    (case xo_BadHouse => k_is)
    (case x9_BadStanding => k_is)
    (case xi_BadStanding => k_is)
    (case xo_BadStanding => k_is)
    (case x0_BadLift => k_is)
    (case x2_BadLift => k_is)
    (case x3_BadLift => k_is)
    (case x4_BadLift => k_is)
    (case x6_BadLift => k_is)
    (case x7_BadLift => k_is)
    (case x8_BadLift => k_is)
    (case xq_BadLift => k_exc)
    (case x9_BadLift => k_is)
    (case xi_BadLift => k_is)
    (case xo_BadLift => k_is)
    (case x9_BadGroups => k_is)
    (case xi_BadGroups => k_is)
    (case xo_BadGroups => k_is)
    (case x0_BadFloor => k_is)
    (case x2_BadFloor => k_is)
    (case x3_BadFloor => k_is)
    (case x4_BadFloor => k_is)
    (case x6_BadFloor => k_is)
    (case x7_BadFloor => k_is)
    (case x8_BadFloor => k_is)
    (case xq_BadFloor => k_exc)
    (case x9_BadFloor => k_is)
    (case xi_BadFloor => k_is)
    (case xo_BadFloor => k_is)
    (case x0_BadMove => k_is)
    (case x2_BadMove => k_is)
    (case x3_BadMove => k_is)
    (case x4_BadMove => k_is)
    (case x6_BadMove => k_is)
    (case x7_BadMove => k_is)
    (case x8_BadMove => k_is)
    (case xq_BadMove => k_exc)
    (case x9_BadMove => k_is)
    (case xi_BadMove => k_is)
    (case xo_BadMove => k_is)
    (case x9_TooMany => k_is)
    (case xi_TooMany => k_is)
    (case xo_TooMany => k_is)
    (case x9_BadMoves => k_is)
    (case xi_BadMoves => k_is)
    (case xo_BadMoves => k_is)
    (case x0_BadLog => k_is)
    (case x2_BadLog => k_is)
    (case x3_BadLog => k_is)
    (case x4_BadLog => k_is)
    (case x6_BadLog => k_is)
    (case x7_BadLog => k_is)
    (case x8_BadLog => k_is)
    (case xq_BadLog => k_exc)
    (case x9_BadLog => k_is)
    (case xi_BadLog => k_is)
    (case xo_BadLog => k_is)
    (case x0_BadGap => k_is)
    (case x2_BadGap => k_is)
    (case x3_BadGap => k_is)
    (case x4_BadGap => k_is)
    (case x6_BadGap => k_is)
    (case x7_BadGap => k_is)
    (case x8_BadGap => k_is)
    (case xq_BadGap => k_exc)
    (case x9_BadGap => k_is)
    (case xi_BadGap => k_is)
    (case xo_BadGap => k_is)
    (case x0_BadNumber => k_is)
    (case x2_BadNumber => k_is)
    (case x3_BadNumber => k_is)
    (case x4_BadNumber => k_is)
    (case x6_BadNumber => k_is)
    (case x7_BadNumber => k_is)
    (case x8_BadNumber => k_is)
    (case xq_BadNumber => k_exc)
    (case x9_BadNumber => k_is)
    (case xi_BadNumber => k_is)
    (case xo_BadNumber => k_is)
    (case x0_BadWay => k_is)
    (case x2_BadWay => k_is)
    (case x3_BadWay => k_is)
    (case x4_BadWay => k_is)
    (case x6_BadWay => k_is)
    (case x7_BadWay => k_is)
    (case x8_BadWay => k_is)
    (case xq_BadWay => k_exc)
    (case x9_BadWay => k_is)
    (case xi_BadWay => k_is)
    (case xo_BadWay => k_is)
    (case x9_BadChoice => k_is)
    (case xi_BadChoice => k_is)
    (case xo_BadChoice => k_is)
    (case x0_NoPlan => k_is)
    (case x2_NoPlan => k_is)
    (case x3_NoPlan => k_is)
    (case x4_NoPlan => k_is)
    (case x6_NoPlan => k_is)
    (case x7_NoPlan => k_is)
    (case x8_NoPlan => k_is)
    (case xq_NoPlan => k_exc)
    (case x9_NoPlan => k_is)
    (case xi_NoPlan => k_is)
    (case xo_NoPlan => k_is)
    (case x0_NotGround => k_is)
    (case x2_NotGround => k_is)
    (case x3_NotGround => k_is)
    (case x4_NotGround => k_is)
    (case x6_NotGround => k_is)
    (case x7_NotGround => k_is)
    (case x8_NotGround => k_is)
    (case xq_NotGround => k_exc)
    (case x9_NotGround => k_is)
    (case xi_NotGround => k_is)
    (case xo_NotGround => k_is)
    (case x0_BadPrices => k_is)
    (case x2_BadPrices => k_is)
    (case x3_BadPrices => k_is)
    (case x4_BadPrices => k_is)
    (case x6_BadPrices => k_is)
    (case x7_BadPrices => k_is)
    (case x8_BadPrices => k_is)
    (case xq_BadPrices => k_exc)
    (case x9_BadPrices => k_is)
    (case xi_BadPrices => k_is)
    (case xo_BadPrices => k_is)
    (case x0_BadRoom => k_is)
    (case x2_BadRoom => k_is)
    (case x3_BadRoom => k_is)
    (case x4_BadRoom => k_is)
    (case x6_BadRoom => k_is)
    (case x7_BadRoom => k_is)
    (case x8_BadRoom => k_is)
    (case xq_BadRoom => k_exc)
    (case x9_BadRoom => k_is)
    (case xi_BadRoom => k_is)
    (case xo_BadRoom => k_is)
    (case x0_BadAnswer => k_is)
    (case x2_BadAnswer => k_is)
    (case x3_BadAnswer => k_is)
    (case x4_BadAnswer => k_is)
    (case x6_BadAnswer => k_is)
    (case x7_BadAnswer => k_is)
    (case x8_BadAnswer => k_is)
    (case xq_BadAnswer => k_exc)
    (case x9_BadAnswer => k_is)
    (case xi_BadAnswer => k_is)
    (case xo_BadAnswer => k_is)
    (case x0_BadCounts => k_is)
    (case x2_BadCounts => k_is)
    (case x3_BadCounts => k_is)
    (case x4_BadCounts => k_is)
    (case x6_BadCounts => k_is)
    (case x7_BadCounts => k_is)
    (case x8_BadCounts => k_is)
    (case xq_BadCounts => k_exc)
    (case x9_BadCounts => k_is)
    (case xi_BadCounts => k_is)
    (case xo_BadCounts => k_is)
    (case x0_BadGroup => k_is)
    (case x2_BadGroup => k_is)
    (case x3_BadGroup => k_is)
    (case x4_BadGroup => k_is)
    (case x6_BadGroup => k_is)
    (case x7_BadGroup => k_is)
    (case x8_BadGroup => k_is)
    (case xq_BadGroup => k_exc)
    (case x9_BadGroup => k_is)
    (case xi_BadGroup => k_is)
    (case xo_BadGroup => k_is)
    (case x9_BadNews => k_is)
    (case xi_BadNews => k_is)
    (case xo_BadNews => k_is)
    (case x0_NothingDone => k_is)
    (case x2_NothingDone => k_is)
    (case x3_NothingDone => k_is)
    (case x4_NothingDone => k_is)
    (case x6_NothingDone => k_is)
    (case x7_NothingDone => k_is)
    (case x8_NothingDone => k_is)
    (case xq_NothingDone => k_exc)
    (case x9_NothingDone => k_is)
    (case xi_NothingDone => k_is)
    (case xo_NothingDone => k_is)
    (case x9_BadText => k_is)
    (case xi_BadText => k_is)
    (case xo_BadText => k_is)
    (case x0_NoLine => k_is)
    (case x2_NoLine => k_is)
    (case x3_NoLine => k_is)
    (case x4_NoLine => k_is)
    (case x6_NoLine => k_is)
    (case x7_NoLine => k_is)
    (case x8_NoLine => k_is)
    (case xq_NoLine => k_exc)
    (case x9_NoLine => k_is)
    (case xi_NoLine => k_is)
    (case xo_NoLine => k_is)
    (case x9_NoName => k_is)
    (case xi_NoName => k_is)
    (case xo_NoName => k_is)
    (case x0_BadLoads => k_is)
    (case x2_BadLoads => k_is)
    (case x3_BadLoads => k_is)
    (case x4_BadLoads => k_is)
    (case x6_BadLoads => k_is)
    (case x7_BadLoads => k_is)
    (case x8_BadLoads => k_is)
    (case xq_BadLoads => k_exc)
    (case x9_BadLoads => k_is)
    (case xi_BadLoads => k_is)
    (case xo_BadLoads => k_is)
    (case x9_BadFacts => k_is)
    (case xi_BadFacts => k_is)
    (case xo_BadFacts => k_is)
    (case x9_BadSeen => k_is)
    (case xi_BadSeen => k_is)
    (case xo_BadSeen => k_is)
    (case x9_BadTree => k_is)
    (case xi_BadTree => k_is)
    (case xo_BadTree => k_is)
    (case x0_BadRoad => k_is)
    (case x2_BadRoad => k_is)
    (case x3_BadRoad => k_is)
    (case x4_BadRoad => k_is)
    (case x6_BadRoad => k_is)
    (case x7_BadRoad => k_is)
    (case x8_BadRoad => k_is)
    (case xq_BadRoad => k_exc)
    (case x9_BadRoad => k_is)
    (case xi_BadRoad => k_is)
    (case xo_BadRoad => k_is)
    (case nd => exact rfl)
    (case x0_BadHouse => k_is)
    (case x1_BadHouse => k_is)
    (case x2_BadHouse => k_is)
    (case x3_BadHouse => k_is)
    (case x4_BadHouse => k_is)
    (case x5_BadHouse => k_is)
    (case x6_BadHouse => k_is)
    (case x7_BadHouse => k_is)
    (case x8_BadHouse => k_is)
    (case no_BadHouse => k_is)
    (case x0_BadStanding => k_is)
    (case x1_BadStanding => k_is)
    (case x2_BadStanding => k_is)
    (case x3_BadStanding => k_is)
    (case x4_BadStanding => k_is)
    (case x5_BadStanding => k_is)
    (case x6_BadStanding => k_is)
    (case x7_BadStanding => k_is)
    (case x8_BadStanding => k_is)
    (case no_BadStanding => k_is)
    (case x0_BadGroups => k_is)
    (case x1_BadGroups => k_is)
    (case x2_BadGroups => k_is)
    (case x3_BadGroups => k_is)
    (case x4_BadGroups => k_is)
    (case x5_BadGroups => k_is)
    (case x6_BadGroups => k_is)
    (case x7_BadGroups => k_is)
    (case x8_BadGroups => k_is)
    (case no_BadGroups => k_is)
    (case x0_TooMany => k_is)
    (case x1_TooMany => k_is)
    (case x2_TooMany => k_is)
    (case x3_TooMany => k_is)
    (case x4_TooMany => k_is)
    (case x5_TooMany => k_is)
    (case x6_TooMany => k_is)
    (case x7_TooMany => k_is)
    (case x8_TooMany => k_is)
    (case no_TooMany => k_is)
    (case x0_BadMoves => k_is)
    (case x1_BadMoves => k_is)
    (case x2_BadMoves => k_is)
    (case x3_BadMoves => k_is)
    (case x4_BadMoves => k_is)
    (case x5_BadMoves => k_is)
    (case x6_BadMoves => k_is)
    (case x7_BadMoves => k_is)
    (case x8_BadMoves => k_is)
    (case no_BadMoves => k_is)
    (case x0_BadChoice => k_is)
    (case x1_BadChoice => k_is)
    (case x2_BadChoice => k_is)
    (case x3_BadChoice => k_is)
    (case x4_BadChoice => k_is)
    (case x5_BadChoice => k_is)
    (case x6_BadChoice => k_is)
    (case x7_BadChoice => k_is)
    (case x8_BadChoice => k_is)
    (case no_BadChoice => k_is)
    (case x0_BadNews => k_is)
    (case x1_BadNews => k_is)
    (case x2_BadNews => k_is)
    (case x3_BadNews => k_is)
    (case x4_BadNews => k_is)
    (case x5_BadNews => k_is)
    (case x6_BadNews => k_is)
    (case x7_BadNews => k_is)
    (case x8_BadNews => k_is)
    (case no_BadNews => k_is)
    (case x0_BadText => k_is)
    (case x1_BadText => k_is)
    (case x2_BadText => k_is)
    (case x3_BadText => k_is)
    (case x4_BadText => k_is)
    (case x5_BadText => k_is)
    (case x6_BadText => k_is)
    (case x7_BadText => k_is)
    (case x8_BadText => k_is)
    (case no_BadText => k_is)
    (case x0_NoName => k_is)
    (case x1_NoName => k_is)
    (case x2_NoName => k_is)
    (case x3_NoName => k_is)
    (case x4_NoName => k_is)
    (case x5_NoName => k_is)
    (case x6_NoName => k_is)
    (case x7_NoName => k_is)
    (case x8_NoName => k_is)
    (case no_NoName => k_is)
    (case x0_BadFacts => k_is)
    (case x1_BadFacts => k_is)
    (case x2_BadFacts => k_is)
    (case x3_BadFacts => k_is)
    (case x4_BadFacts => k_is)
    (case x5_BadFacts => k_is)
    (case x6_BadFacts => k_is)
    (case x7_BadFacts => k_is)
    (case x8_BadFacts => k_is)
    (case no_BadFacts => k_is)
    (case x0_BadSeen => k_is)
    (case x1_BadSeen => k_is)
    (case x2_BadSeen => k_is)
    (case x3_BadSeen => k_is)
    (case x4_BadSeen => k_is)
    (case x5_BadSeen => k_is)
    (case x6_BadSeen => k_is)
    (case x7_BadSeen => k_is)
    (case x8_BadSeen => k_is)
    (case no_BadSeen => k_is)
    (case x0_BadTree => k_is)
    (case x1_BadTree => k_is)
    (case x2_BadTree => k_is)
    (case x3_BadTree => k_is)
    (case x4_BadTree => k_is)
    (case x5_BadTree => k_is)
    (case x6_BadTree => k_is)
    (case x7_BadTree => k_is)
    (case x8_BadTree => k_is)
    (case no_BadTree => k_is)
    (case y2_BadHouse => k_is)
    (case y3_BadHouse => k_is)
    (case y8_BadHouse => k_is)
    (case y_BadChoice_BadHouse => k_is)
    (case y_BadFacts_BadHouse => k_is)
    (case y_BadGroups_BadHouse => k_is)
    (case y_BadHouse_BadHouse => k_is)
    (case y_BadMoves_BadHouse => k_is)
    (case y_BadNews_BadHouse => k_is)
    (case y_BadSeen_BadHouse => k_is)
    (case y_BadStanding_BadHouse => k_is)
    (case y_BadText_BadHouse => k_is)
    (case y_BadTree_BadHouse => k_is)
    (case y_NoName_BadHouse => k_is)
    (case y_TooMany_BadHouse => k_is)
    (case y2_LiftError => k_is)
    (case y3_LiftError => k_is)
    (case y8_LiftError => k_is)
    (case y_BadChoice_LiftError => k_is)
    (case y_BadFacts_LiftError => k_is)
    (case y_BadGroups_LiftError => k_is)
    (case y_BadHouse_LiftError => k_is)
    (case y_BadMoves_LiftError => k_is)
    (case y_BadNews_LiftError => k_is)
    (case y_BadSeen_LiftError => k_is)
    (case y_BadStanding_LiftError => k_is)
    (case y_BadText_LiftError => k_is)
    (case y_BadTree_LiftError => k_is)
    (case y_NoName_LiftError => k_is)
    (case y_TooMany_LiftError => k_is)
    (case hv_MOST_FLOORS => k_is)
    (case hz_ValueError => k_is)
    (case hz_abs => k_is)
    (case hz_all => k_is)
    (case hz_bool => k_is)
    (case hz_int => k_is)
    (case hz_isinstance => k_is)
    (case hz_len => k_is)
    (case hz_range => k_is)
    (case hz_tuple => k_is)
